/-
  What mix.Hash answers, for every key.
  Conditions: none.
-/
import Derived.Test.YtalgkiagdjckiaaMix
import Derived.Test.YtalgkiagdjckiaaMem
import Derived.Test.YtalgkiagdjckiaaRange
namespace Go.Proofs.Ytalgkiagdjckiaa
open Go.RowKit

theorem take_one {α : Type} (l : List α) (d : α) (j : Nat) (hj : j < l.length) : l.take (j + 1) = l.take j ++ [l[j]?.getD d] := by
  rw [List.take_add_one, List.getElem?_eq_getElem hj]
  rfl
/-- One byte of a key more. -/
def hashStep (q : BitVec 64) (b : BitVec 8) : BitVec 64 := (q ^^^ b.setWidth 64) * BitVec.ofInt 64 1099511628211
/-- A key's number ahead of the scrambling. -/
def hashRun (q : BitVec 64) (key : List (BitVec 8)) : BitVec 64 := key.foldl hashStep q
theorem hashRun_snoc (q : BitVec 64) (key : List (BitVec 8)) (b : BitVec 8) : hashRun q (key ++ [b]) = hashStep (hashRun q key) b := by simp [hashRun]
/-- A key's number. -/
def hash (seed : BitVec 64) (key : List (BitVec 8)) : BitVec 64 := scr (hashRun (seed ^^^ BitVec.ofInt 64 14695981039346656037) key + BitVec.ofInt 64 key.length)

theorem u8_u64 (b : BitVec 8) : IntKind.u64.wrap (U b) = U (b.setWidth 64) := by
  have h : U b = U (b.setWidth 64) := by
    unfold U
    rw [BitVec.toNat_setWidth, Nat.mod_eq_of_lt (by have := b.isLt; omega)]
  rw [h, wrap_u64_U]
theorem u8_u64' (b : BitVec 8) : U b = U (b.setWidth 64) := by
  unfold U
  rw [BitVec.toNat_setWidth, Nat.mod_eq_of_lt (by have := b.isLt; omega)]

end Go.Proofs.Ytalgkiagdjckiaa

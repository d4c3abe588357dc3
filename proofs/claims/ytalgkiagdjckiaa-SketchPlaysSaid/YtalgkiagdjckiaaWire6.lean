/-
  What a reader's calls do: wire.NewReader, Number, Text, Raw, Rest, Bad.
  Conditions: none.
-/
import Derived.Test.YtalgkiagdjckiaaWire5
import Derived.Test.YtalgkiagdjckiaaWireMath
import Derived.Outline
namespace Go.Proofs.Ytalgkiagdjckiaa
open Go.RowKit

theorem or_u64 (x y : BitVec 64) : bits .or .u64 (U x) (U y) = U (x ||| y) := by
  show IntKind.u64.wrap (((BitVec.ofInt 64 (U x)) ||| (BitVec.ofInt 64 (U y))).toNat : Int) = _
  rw [ofInt_U, ofInt_U]; exact wrap_u64_U (x ||| y)
theorem shl_u64 (x : BitVec 64) (k : Nat) : IntKind.u64.wrap (U x * 2 ^ k) = U (x <<< k) := by
  unfold U
  rw [BitVec.toNat_shiftLeft, Nat.shiftLeft_eq]
  have : ((x.toNat : Int) * 2 ^ k) = ((x.toNat * 2 ^ k : Nat) : Int) := by simp
  rw [this]
  generalize x.toNat * 2 ^ k = m
  simp [IntKind.wrap, IntKind.bits, IntKind.signed]
theorem u8_in64 (b : BitVec 8) : U b = U (b.setWidth 64) := by
  unfold U
  rw [BitVec.toNat_setWidth, Nat.mod_eq_of_lt (by have := b.isLt; omega)]

/-- How many bytes a text has whose length stands ahead. -/
def textLen (left : List (BitVec 8)) : Int := U (leOf (takenB left (tookN left true 2)))
theorem leOf_lt (bs : List (BitVec 8)) (h : bs.length ≤ 2) : U (leOf bs) < 65536 := by
  have h1 := leOf_toNat bs (by omega)
  have h2 := leNat_lt bs
  have h3 : 256 ^ bs.length ≤ 256 ^ 2 := Nat.pow_le_pow_right (by decide) h
  unfold U
  omega

theorem leftB_len (left : List (BitVec 8)) (n : Option Nat) : (leftB left n).length ≤ left.length := by
  cases n <;> simp [leftB]
/-! No reader -/
end Go.Proofs.Ytalgkiagdjckiaa

/-
  Plain mathematics of acts that are written, and read again.
  Conditions: none.
-/
import Derived.Test.YtggicfehdhabjaaActs03
namespace Go.Proofs.Ytggicfehdhabjaa
open Go.RowKit

/-- An act's kind, by threes. -/
def k3 (x : Act3) : Int := (wrap64 (x.kind.tmod 3 + 3)).tmod 3
/-- What an act writes; 'none': what may not be. -/
def encA (x : Act3) : Option (List (BitVec 8)) := if (k3 x == 0) = true then numB x.n x.len else if (k3 x == 1) = true then textB x.b else some x.b
/-- What acts write, one behind the other. -/
def catA (l : List Act3) : List (BitVec 8) := (l.map fun x => (encA x).getD []).flatten
theorem catA_snoc (l : List Act3) (x : Act3) : catA (l ++ [x]) = catA l ++ (encA x).getD [] := by simp [catA]
theorem catA_cons (x : Act3) (l : List Act3) : catA (x :: l) = (encA x).getD [] ++ catA l := by simp [catA]
def allA (l : List Act3) : Prop := ∀ x ∈ l, (encA x).isSome = true

theorem encA_len (x : Act3) (h : x.b.length ≤ 300) : ((encA x).getD []).length ≤ 302 := by
  unfold encA
  split
  · unfold numB
    split
    · rename_i hm
      have : x.len = 1 ∨ x.len = 2 ∨ x.len = 4 ∨ x.len = 8 := by simpa [mayB] using hm
      simp [leB_len]; omega
    · simp
  · split
    · unfold textB
      split
      · simp [leB_len]; omega
      · simp
    · simp; omega

theorem shl_succ (x : BitVec 64) (i : Nat) : (x <<< (8 * i)) * 256#64 = x <<< (8 * (i + 1)) := by
  apply BitVec.eq_of_toNat_eq
  rw [BitVec.toNat_mul, BitVec.toNat_shiftLeft, BitVec.toNat_shiftLeft, Nat.shiftLeft_eq, Nat.shiftLeft_eq]
  have e : (256#64).toNat = 2 ^ 8 := rfl
  rw [e, Nat.mod_mul_mod, Nat.mul_assoc, ← Nat.pow_add, show 8 * i + 8 = 8 * (i + 1) by omega]
theorem shl_leOf (k : Nat) (x : BitVec 64) (hk : k ≤ 8) : (leOf (leB k x)) <<< (8 * (8 - k)) = x <<< (8 * (8 - k)) := by
  apply BitVec.eq_of_toNat_eq
  rw [BitVec.toNat_shiftLeft, BitVec.toNat_shiftLeft, leOf_toNat _ (by rw [leB_len]; exact hk), leNat_leB, Nat.shiftLeft_eq, Nat.shiftLeft_eq]
  have e1 : (256 : Nat) ^ k = 2 ^ (8 * k) := by rw [Nat.pow_mul]
  have e2 : (2 : Nat) ^ 64 = 2 ^ (8 * k) * 2 ^ (8 * (8 - k)) := by rw [← Nat.pow_add]; congr 1; omega
  rw [e1, e2, Nat.mul_mod_mul_right, Nat.mul_mod_mul_right, Nat.mod_mod]

theorem drop_act (l : List Act3) (k : Nat) (h : k < l.length) : l.drop k = (l[k]?.getD default) :: l.drop (k + 1) := by
  rw [List.drop_eq_getElem_cons h]
  simp [h]
theorem take_act (l : List Act3) (k : Nat) (h : k < l.length) : l.take (k + 1) = l.take k ++ [l[k]?.getD default] := by
  rw [List.take_succ_eq_append_getElem h]
  simp [h]

theorem tookN_pre (pre rest : List (BitVec 8)) (n : Int) (hn : n = pre.length) : tookN (pre ++ rest) true n = some pre.length := by
  subst hn
  simp [tookN]; omega
theorem takenB_pre (pre rest : List (BitVec 8)) : takenB (pre ++ rest) (some pre.length) = pre := by simp [takenB]
theorem leftB_pre (pre rest : List (BitVec 8)) : leftB (pre ++ rest) (some pre.length) = rest := by simp [leftB]

end Go.Proofs.Ytggicfehdhabjaa

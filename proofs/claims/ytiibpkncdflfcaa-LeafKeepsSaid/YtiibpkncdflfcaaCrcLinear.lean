/-
  Plain mathematics of the check: it is linear but for what noughts have; rows of bytes are apart.
  Conditions: none.
-/
import Derived.Test.YtiibpkncdflfcaaJC
namespace Go.Proofs.Ytiibpkncdflfcaa
open Go.RowKit

theorem lsb_iff (x : BitVec 32) : x &&& 1#32 = 1#32 ↔ x.getLsbD 0 = true := by
  rw [BitVec.and_one_eq_setWidth_ofBool_getLsbD]
  cases x.getLsbD 0 <;> decide
theorem dn_eq (x : BitVec 32) : dn x = x >>> 1 ^^^ (bif x.getLsbD 0 then 2197175160#32 else 0#32) := by
  unfold dn
  by_cases h : x.getLsbD 0 = true
  · rw [if_pos ((lsb_iff x).2 h), h]; rfl
  · have h' : x.getLsbD 0 = false := by simpa using h
    rw [if_neg (fun e => h ((lsb_iff x).1 e)), h']
    exact (BitVec.xor_zero).symm
theorem xor_four (a b c d : BitVec 32) : (a ^^^ b) ^^^ (c ^^^ d) = (a ^^^ c) ^^^ (b ^^^ d) := by
  rw [BitVec.xor_assoc, ← BitVec.xor_assoc b, BitVec.xor_comm b c, BitVec.xor_assoc c, ← BitVec.xor_assoc a]
theorem dn_xor (x y : BitVec 32) : dn (x ^^^ y) = dn x ^^^ dn y := by
  rw [dn_eq, dn_eq x, dn_eq y, BitVec.ushiftRight_xor_distrib, BitVec.getLsbD_xor, xor_four]
  congr 1
  cases x.getLsbD 0 <;> cases y.getLsbD 0 <;> decide
theorem dnN_xor (k : Nat) (x y : BitVec 32) : dnN k (x ^^^ y) = dnN k x ^^^ dnN k y := by
  induction k generalizing x y with
  | zero => rfl
  | succ k ih => rw [dnN, dnN, dnN, dn_xor, ih]
theorem tab_xor (x y : BitVec 8) : tab (x ^^^ y) = tab x ^^^ tab y := by
  unfold tab
  rw [BitVec.setWidth_xor, dnN_xor]
theorem xor_eq_zero {n : Nat} {x y : BitVec n} (h : x ^^^ y = 0#n) : x = y := by
  have : x ^^^ (x ^^^ y) = x ^^^ 0#n := by rw [h]
  rw [← BitVec.xor_assoc, BitVec.xor_self, BitVec.zero_xor, BitVec.xor_zero] at this
  exact this.symm
theorem dn_zero (x : BitVec 32) (h : dn x = 0#32) : x = 0#32 := by
  rw [dn_eq] at h
  cases hb : x.getLsbD 0 with
  | true =>
    rw [hb] at h
    have e := xor_eq_zero h
    have := congrArg (fun y => y.getLsbD 31) e
    simp only [BitVec.getLsbD_ushiftRight] at this
    have h31 : x.getLsbD (1 + 31) = false := BitVec.getLsbD_of_ge x (1 + 31) (by omega)
    rw [h31] at this
    exact absurd this (by decide)
  | false =>
    rw [hb] at h
    have e : x >>> 1 = 0#32 := by
      have h2 : x >>> 1 ^^^ 0#32 = 0#32 := h
      rwa [BitVec.xor_zero] at h2
    apply BitVec.eq_of_getLsbD_eq
    intro i hi
    rcases Nat.eq_zero_or_pos i with rfl | hp
    · rw [hb]; simp
    · have := congrArg (fun y => y.getLsbD (i - 1)) e
      simp only [BitVec.getLsbD_ushiftRight] at this
      rw [show 1 + (i - 1) = i by omega] at this
      rw [this]; simp
theorem dnN_zero (k : Nat) (x : BitVec 32) (h : dnN k x = 0#32) : x = 0#32 := by
  induction k generalizing x with
  | zero => exact h
  | succ k ih => exact dn_zero x (ih (dn x) h)
theorem dnN_of_zero (k : Nat) : dnN k 0#32 = 0#32 := by
  induction k with
  | zero => rfl
  | succ k ih => rw [dnN, show dn 0#32 = 0#32 by decide, ih]
theorem tab_zero (b : BitVec 8) (h : tab b = 0#32) : b = 0#8 := by
  have h2 := dnN_zero 8 _ h
  have := congrArg (fun y => BitVec.setWidth 8 y) h2
  simpa using this
theorem tab_inj (x y : BitVec 8) : tab x = tab y ↔ x = y := by
  refine ⟨fun h => xor_eq_zero (tab_zero _ ?_), fun h => by rw [h]⟩
  rw [tab_xor, h, BitVec.xor_self]

end Go.Proofs.Ytiibpkncdflfcaa

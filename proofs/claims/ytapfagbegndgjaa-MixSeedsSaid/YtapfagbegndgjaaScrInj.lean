/-
  The mathematics of Scramble: no two numbers are scrambled to one.
  Conditions: none.
-/
import Derived.Test.YtapfagbegndgjaaLaw
import Derived.Test.YtapfagbegndgjaaMixAwake
namespace Go.Proofs.Ytapfagbegndgjaa
open Go.ChangeShapes Go.WideShapes Go.ChangeAt Go.RowKit

/-- A word exclusive-or'd with itself so many places down. -/
def fold (k : Nat) (x : BitVec 64) : BitVec 64 := x ^^^ x >>> k
theorem fold_twice (k : Nat) (x : BitVec 64) : fold k (fold k x) = fold (k + k) x := by
  unfold fold
  rw [BitVec.ushiftRight_xor_distrib, ← BitVec.shiftRight_add]
  rw [BitVec.xor_assoc, ← BitVec.xor_assoc (x >>> k), BitVec.xor_self, BitVec.zero_xor]
theorem fold_comm (k j : Nat) (x : BitVec 64) : fold k (fold j x) = fold j (fold k x) := by
  unfold fold
  rw [BitVec.ushiftRight_xor_distrib, BitVec.ushiftRight_xor_distrib, ← BitVec.shiftRight_add, ← BitVec.shiftRight_add, Nat.add_comm j k]
  simp only [BitVec.xor_assoc]
  rw [← BitVec.xor_assoc (x >>> j), BitVec.xor_comm (x >>> j) (x >>> k), BitVec.xor_assoc]
theorem fold_far (k : Nat) (h : 64 ≤ k) (x : BitVec 64) : fold k x = x := by
  unfold fold
  rw [BitVec.ushiftRight_eq_zero h, BitVec.xor_zero]
theorem unf_fold (k : Nat) (h : 16 ≤ k) (x : BitVec 64) : fold (k + k) (fold k (fold k x)) = x := by
  rw [fold_twice, fold_twice, fold_far _ (by omega)]
theorem fold_unf (k : Nat) (h : 16 ≤ k) (x : BitVec 64) : fold k (fold (k + k) (fold k x)) = x := by
  rw [fold_comm k (k + k), unf_fold k h]
theorem unf31_of (x : BitVec 64) : unf31 (fold 31 x) = x := unf_fold 31 (by decide) x
theorem unf27_of (x : BitVec 64) : unf27 (fold 27 x) = x := unf_fold 27 (by decide) x
theorem unf30_of (x : BitVec 64) : unf30 (fold 30 x) = x := unf_fold 30 (by decide) x
theorem of_unf31 (x : BitVec 64) : fold 31 (unf31 x) = x := fold_unf 31 (by decide) x
theorem of_unf27 (x : BitVec 64) : fold 27 (unf27 x) = x := fold_unf 27 (by decide) x
theorem of_unf30 (x : BitVec 64) : fold 30 (unf30 x) = x := fold_unf 30 (by decide) x

theorem back1 (x : BitVec 64) : x * BitVec.ofInt 64 13787848793156543929 * BitVec.ofInt 64 10871156337175269513 = x := by
  rw [BitVec.mul_assoc, show BitVec.ofInt 64 13787848793156543929 * BitVec.ofInt 64 10871156337175269513 = 1#64 by decide, BitVec.mul_one]
theorem back1' (x : BitVec 64) : x * BitVec.ofInt 64 10871156337175269513 * BitVec.ofInt 64 13787848793156543929 = x := by
  rw [BitVec.mul_assoc, show BitVec.ofInt 64 10871156337175269513 * BitVec.ofInt 64 13787848793156543929 = 1#64 by decide, BitVec.mul_one]
theorem back2 (x : BitVec 64) : x * BitVec.ofInt 64 10723151780598845931 * BitVec.ofInt 64 3573116690164977347 = x := by
  rw [BitVec.mul_assoc, show BitVec.ofInt 64 10723151780598845931 * BitVec.ofInt 64 3573116690164977347 = 1#64 by decide, BitVec.mul_one]
theorem back2' (x : BitVec 64) : x * BitVec.ofInt 64 3573116690164977347 * BitVec.ofInt 64 10723151780598845931 = x := by
  rw [BitVec.mul_assoc, show BitVec.ofInt 64 3573116690164977347 * BitVec.ofInt 64 10723151780598845931 = 1#64 by decide, BitVec.mul_one]

theorem scr_eq (x : BitVec 64) : scr x = fold 31 (fold 27 (fold 30 x * BitVec.ofInt 64 13787848793156543929) * BitVec.ofInt 64 10723151780598845931) := rfl
theorem unscr_scr (x : BitVec 64) : unscr (scr x) = x := by
  rw [scr_eq]
  unfold unscr
  rw [unf31_of, back2, unf27_of, back1, unf30_of]
theorem scr_unscr (x : BitVec 64) : scr (unscr x) = x := by
  rw [scr_eq]
  unfold unscr
  rw [of_unf30, back1', of_unf27, back2', of_unf31]
theorem scr_inj (x y : BitVec 64) : scr x = scr y ↔ x = y :=
  ⟨fun h => by rw [← unscr_scr x, h, unscr_scr], fun h => by rw [h]⟩

end Go.Proofs.Ytapfagbegndgjaa

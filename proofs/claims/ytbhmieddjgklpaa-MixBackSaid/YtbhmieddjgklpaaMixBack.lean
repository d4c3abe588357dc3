/-
  Proved: no two numbers are scrambled to one. Whatever two numbers come in, the law MixBack answers true and the arguments read as they did.
  Conditions: none.
-/
import Derived.Test.YtbhmieddjgklpaaLaw
import Derived.Test.YtbhmieddjgklpaaMixAwake
namespace Go.Proofs.Ytbhmieddjgklpaa
open Go.ChangeShapes Go.WideShapes Go.ChangeAt Go.RowKit

/-- A word exclusive-or'd with itself so many places down. -/
def fold (k : Nat) (x : BitVec 64) : BitVec 64 := x ^^^ x >>> k
theorem fold_twice (k : Nat) (x : BitVec 64) : fold k (fold k x) = fold (k + k) x := by
  unfold fold
  rw [BitVec.ushiftRight_xor_distrib, ← BitVec.shiftRight_add]
  rw [BitVec.xor_assoc, ← BitVec.xor_assoc (x >>> k), BitVec.xor_self, BitVec.zero_xor]
theorem fold_comm (k j : Nat) (x : BitVec 64) : fold k (fold j x) = fold j (fold k x) := by
  unfold fold
  rw [BitVec.ushiftRight_xor_distrib, BitVec.ushiftRight_xor_distrib, ← BitVec.shiftRight_add, ← BitVec.shiftRight_add, Nat.add_comm j k]
  simp only [BitVec.xor_assoc]
  rw [← BitVec.xor_assoc (x >>> j), BitVec.xor_comm (x >>> j) (x >>> k), BitVec.xor_assoc]
theorem fold_far (k : Nat) (h : 64 ≤ k) (x : BitVec 64) : fold k x = x := by
  unfold fold
  rw [BitVec.ushiftRight_eq_zero h, BitVec.xor_zero]
theorem unf_fold (k : Nat) (h : 16 ≤ k) (x : BitVec 64) : fold (k + k) (fold k (fold k x)) = x := by
  rw [fold_twice, fold_twice, fold_far _ (by omega)]
theorem fold_unf (k : Nat) (h : 16 ≤ k) (x : BitVec 64) : fold k (fold (k + k) (fold k x)) = x := by
  rw [fold_comm k (k + k), unf_fold k h]
theorem unf31_of (x : BitVec 64) : unf31 (fold 31 x) = x := unf_fold 31 (by decide) x
theorem unf27_of (x : BitVec 64) : unf27 (fold 27 x) = x := unf_fold 27 (by decide) x
theorem unf30_of (x : BitVec 64) : unf30 (fold 30 x) = x := unf_fold 30 (by decide) x
theorem of_unf31 (x : BitVec 64) : fold 31 (unf31 x) = x := fold_unf 31 (by decide) x
theorem of_unf27 (x : BitVec 64) : fold 27 (unf27 x) = x := fold_unf 27 (by decide) x
theorem of_unf30 (x : BitVec 64) : fold 30 (unf30 x) = x := fold_unf 30 (by decide) x

theorem back1 (x : BitVec 64) : x * BitVec.ofInt 64 13787848793156543929 * BitVec.ofInt 64 10871156337175269513 = x := by
  rw [BitVec.mul_assoc, show BitVec.ofInt 64 13787848793156543929 * BitVec.ofInt 64 10871156337175269513 = 1#64 by decide, BitVec.mul_one]
theorem back1' (x : BitVec 64) : x * BitVec.ofInt 64 10871156337175269513 * BitVec.ofInt 64 13787848793156543929 = x := by
  rw [BitVec.mul_assoc, show BitVec.ofInt 64 10871156337175269513 * BitVec.ofInt 64 13787848793156543929 = 1#64 by decide, BitVec.mul_one]
theorem back2 (x : BitVec 64) : x * BitVec.ofInt 64 10723151780598845931 * BitVec.ofInt 64 3573116690164977347 = x := by
  rw [BitVec.mul_assoc, show BitVec.ofInt 64 10723151780598845931 * BitVec.ofInt 64 3573116690164977347 = 1#64 by decide, BitVec.mul_one]
theorem back2' (x : BitVec 64) : x * BitVec.ofInt 64 3573116690164977347 * BitVec.ofInt 64 10723151780598845931 = x := by
  rw [BitVec.mul_assoc, show BitVec.ofInt 64 3573116690164977347 * BitVec.ofInt 64 10723151780598845931 = 1#64 by decide, BitVec.mul_one]

theorem scr_eq (x : BitVec 64) : scr x = fold 31 (fold 27 (fold 30 x * BitVec.ofInt 64 13787848793156543929) * BitVec.ofInt 64 10723151780598845931) := rfl
theorem unscr_scr (x : BitVec 64) : unscr (scr x) = x := by
  rw [scr_eq]
  unfold unscr
  rw [unf31_of, back2, unf27_of, back1, unf30_of]
theorem scr_unscr (x : BitVec 64) : scr (unscr x) = x := by
  rw [scr_eq]
  unfold unscr
  rw [of_unf30, back1', of_unf27, back2', of_unf31]
theorem scr_inj (x y : BitVec 64) : scr x = scr y ↔ x = y :=
  ⟨fun h => by rw [← unscr_scr x, h, unscr_scr], fun h => by rw [h]⟩

theorem unscr_scr_any (x : BitVec 64) (w : World) : Calls Try.prog 30 #[.int .u64 (U (scr x))] w fun e w' => e = .returned (.int .u64 (U x)) ∧ w = w' := by
  have h := unscramble_any (scr x) w
  rw [unscr_scr] at h; exact h
theorem scr_unscr_any (x : BitVec 64) (w : World) : Calls Try.prog 21 #[.int .u64 (U (unscr x))] w fun e w' => e = .returned (.int .u64 (U x)) ∧ w = w' := by
  have h := scramble_any (unscr x) w
  rw [scr_unscr] at h; exact h

set_option maxRecDepth 100000 in
set_option maxHeartbeats 1000000 in
theorem mixBack_walk (x y : BitVec 64) (w : World) : Calls Try.prog 11 #[.int .u64 (U x), .int .u64 (U y)] w (Good w) := by
  have e1 : (U (scr x) == U (scr y)) = decide (x = y) := by rw [U_beq]; simp [scr_inj]
  have e2 : (U x == U y) = decide (x = y) := U_beq x y
  go_enter Try.func11, Try.ntmps11
  go_wp2_with (first
    | (go_at_call 21; first | ((with_reducible refine (scr_unscr_any _ _).mono ?_); rintro e w' ⟨rfl, rfl⟩) | ((with_reducible refine (scramble_any _ _).mono ?_); rintro e w' ⟨rfl, rfl⟩))
    | (go_at_call 30; first | ((with_reducible refine (unscr_scr_any _ _).mono ?_); rintro e w' ⟨rfl, rfl⟩) | ((with_reducible refine (unscramble_any _ _).mono ?_); rintro e w' ⟨rfl, rfl⟩))
    | (go_at_call 27; refine (awake02 _).mono ?_; rintro e w' ⟨rfl, hB⟩))
  go_ret
  exact ⟨rfl, hB⟩

set_option maxRecDepth 100000 in
theorem mixBack_lifted (os : Os) (started : os.Started) (H : Type) (enc : TypeId × Value → H) :
    ReturnsInHanded {} Try.checked os 11 .any (Rows.mixBackSpec.pre6 enc Try.prog Try.f11 Rows.mixBackRow.domain false) (Rows.mixBackSpec.post enc Try.prog Try.f11 false true false false) :=
  law_lifted 11 Try.f11 Rows.mixBackSpec Try.func11 (by kernel_rfl) rfl rfl
    (fun ds h => by match ds, h with | [_, _], _ => rfl) (by kernel_rfl) os started
    (ChangeSpec.witness6 (enc := enc) (C := Try.checked) false ⟨#[], #[.int .u64 0, .int .u64 0], []⟩ 8 (by kernel_rfl) (by kernel_rfl) (by kernel_rfl) (by kernel_rfl))
    fun W args ds ps hval hA => by
      rw [Try.params11] at hA hval
      obtain ⟨v0, vs0, d0, ds0, p0, q0, hargs, rfl, rfl, h0, r0⟩ := trodAll_cons hA
      obtain ⟨v1, vs1, d1, ds1, p1, q1, rfl, rfl, rfl, h1, r1⟩ := trodAll_cons r0
      obtain ⟨rfl, rfl, rfl⟩ := trodAll_nil r1
      obtain rfl : args = #[v0, v1] := by cases args; simp_all
      obtain ⟨b0, o0⟩ := hval 0 _ v0 rfl rfl
      obtain ⟨b1, o1⟩ := hval 1 _ v1 rfl rfl
      obtain ⟨a0, rfl, rfl, rfl, w0⟩ := open_int Try.underlying35 o0 h0
      obtain ⟨a1, rfl, rfl, rfl, w1⟩ := open_int Try.underlying35 o1 h1
      obtain ⟨x, rfl⟩ := wf_u64 w0
      obtain ⟨y, rfl⟩ := wf_u64 w1
      exact mixBack_walk x y W

/-- The statement. -/
theorem mixBack_holds : Rows.MixBackSaid :=
  OpenClaim.holds_of_wide 11 Try.f11 rfl rfl rfl rfl rfl rfl rfl ⟨rfl, rfl, rfl, rfl, rfl⟩ rfl rfl rfl rfl rfl (by kernel_rfl) Try.func11 (by kernel_rfl)
    (of_decide_eq_true (by kernel_rfl)) (by unfold Func.isWrapper; first | (rw [if_pos (by decide +kernel)]; kernel_rfl) | (rw [if_neg (by decide +kernel)]; exact ⟨rfl, rfl⟩))
    (fun os started H enc _ => mixBack_lifted os started H enc)
#print axioms mixBack_holds
end Go.Proofs.Ytbhmieddjgklpaa

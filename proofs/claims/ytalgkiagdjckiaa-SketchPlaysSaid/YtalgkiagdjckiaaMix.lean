/-
  What the functions Scramble, unfold, Unscramble and Prefix of package mix answer, for every number.
  Conditions: none.
-/
import Derived.Test.YtalgkiagdjckiaaRows
import Derived.Test.YtalgkiagdjckiaaBase
namespace Go.Proofs.Ytalgkiagdjckiaa
open Go.RowKit

/-- A number scrambled. -/
def scr (x : BitVec 64) : BitVec 64 :=
  let a := (x ^^^ x >>> 30) * BitVec.ofInt 64 13787848793156543929
  let b := (a ^^^ a >>> 27) * BitVec.ofInt 64 10723151780598845931
  b ^^^ b >>> 31
def unf31 (x : BitVec 64) : BitVec 64 := (x ^^^ x >>> 31) ^^^ (x ^^^ x >>> 31) >>> 62
def unf27 (x : BitVec 64) : BitVec 64 := (x ^^^ x >>> 27) ^^^ (x ^^^ x >>> 27) >>> 54
def unf30 (x : BitVec 64) : BitVec 64 := (x ^^^ x >>> 30) ^^^ (x ^^^ x >>> 30) >>> 60
def unscr (x : BitVec 64) : BitVec 64 :=
  unf30 (unf27 (unf31 x * BitVec.ofInt 64 3573116690164977347) * BitVec.ofInt 64 10871156337175269513)

theorem shr27 (x : BitVec 64) : U x / (134217728 : Int) = U (x >>> 27) := shr_U x 27 _ (by decide)
theorem shr54 (x : BitVec 64) : U x / (18014398509481984 : Int) = U (x >>> 54) := shr_U x 54 _ (by decide)
theorem shr60 (x : BitVec 64) : U x / (1152921504606846976 : Int) = U (x >>> 60) := shr_U x 60 _ (by decide)
theorem shr62 (x : BitVec 64) : U x / (4611686018427387904 : Int) = U (x >>> 62) := shr_U x 62 _ (by decide)
theorem shr30 (x : BitVec 64) : U x / (1073741824 : Int) = U (x >>> 30) := shr_U x 30 _ (by decide)
theorem shr31 (x : BitVec 64) : U x / (2147483648 : Int) = U (x >>> 31) := shr_U x 31 _ (by decide)

section
attribute [local go_sem] xor_u64 shr27 shr30 shr31 shr54 shr60 shr62 mul_u64
set_option maxHeartbeats 400000 in
theorem scramble_any (x : BitVec 64) (w : World) :
    Calls Try.prog 36 #[.int .u64 (U x)] w fun e w' => e = .returned (.int .u64 (U (scr x))) ∧ w = w' := by
  have r1 := xor_u64; have r2 := shr30; have r3 := shr27; have r4 := shr31; have r5 := mul_u64; have h0 := U_nonneg x
  go_enter Try.func36, Try.ntmps36
  go_wp2
  go_ret
  exact ⟨rfl, rfl⟩
/-- The highest b bits of a number. -/
def pre (x : BitVec 64) (b : Nat) : Int := U (x >>> (64 - b))
theorem pre_eq (x : BitVec 64) (b : Int) (h1 : 1 ≤ b) (h2 : b ≤ 30) : wrap64 (U x / 2 ^ (64 - b).toNat) = pre x b.toNat := by
  obtain ⟨c, rfl⟩ := Int.eq_ofNat_of_zero_le (a := b) (by omega)
  have e : (64 - (c : Int)).toNat = 64 - c := by omega
  rw [e, shr_U x (64 - c) _ rfl]
  simp only [Int.toNat_natCast]
  have hlt : U (x >>> (64 - c)) < 2 ^ 30 := by
    unfold U
    rw [BitVec.toNat_ushiftRight, Nat.shiftRight_eq_div_pow]
    have hx := x.isLt
    have hp : 2 ^ 34 ≤ 2 ^ (64 - c) := Nat.pow_le_pow_right (by omega) (by omega)
    have : x.toNat / 2 ^ (64 - c) < 2 ^ 30 := by
      rw [Nat.div_lt_iff_lt_mul (Nat.two_pow_pos _)]
      calc x.toNat < 2 ^ 64 := hx
        _ = 2 ^ 30 * 2 ^ 34 := by decide
        _ ≤ 2 ^ 30 * 2 ^ (64 - c) := Nat.mul_le_mul_left _ hp
    exact_mod_cast this
  have h0 := U_nonneg (x >>> (64 - c))
  exact IntWalk.wrap64_in _ ⟨by omega, by omega⟩
theorem pre_bounds (x : BitVec 64) (b : Nat) (h2 : b ≤ 30) : 0 ≤ pre x b ∧ pre x b < 2 ^ b := by
  refine ⟨U_nonneg _, ?_⟩
  unfold pre U
  rw [BitVec.toNat_ushiftRight, Nat.shiftRight_eq_div_pow]
  have hx := x.isLt
  have : x.toNat / 2 ^ (64 - b) < 2 ^ b := by
    rw [Nat.div_lt_iff_lt_mul (Nat.two_pow_pos _), ← Nat.pow_add]
    have : b + (64 - b) = 64 := by omega
    rw [this]; exact hx
  exact_mod_cast this
end
end Go.Proofs.Ytalgkiagdjckiaa

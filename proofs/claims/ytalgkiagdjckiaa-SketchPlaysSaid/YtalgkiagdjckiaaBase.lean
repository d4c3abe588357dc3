/-
  Plain mathematics of words of bits: a word of n bits as the number that a cell holds, and what the operations of the program do to such numbers.
  Conditions: none.
-/
import Derived.WalkKit
import Derived.WalkSpells
import Derived.WalkLawsBesides
namespace Go.Proofs.Ytalgkiagdjckiaa
open Go.RowKit

/-- A word of n bits, as the number that stands in a cell. -/
def U {n : Nat} (x : BitVec n) : Int := (x.toNat : Int)

theorem U_nonneg {n : Nat} (x : BitVec n) : 0 ≤ U x := Int.natCast_nonneg _
theorem U_lt {n : Nat} (x : BitVec n) : U x < 2 ^ n := by
  unfold U; exact_mod_cast x.isLt
theorem U_inj {n : Nat} {x y : BitVec n} : U x = U y ↔ x = y := by
  unfold U
  constructor
  · intro h; exact BitVec.eq_of_toNat_eq (by exact_mod_cast h)
  · rintro rfl; rfl
theorem U_beq {n : Nat} (x y : BitVec n) : (U x == U y) = decide (x = y) := by
  rw [Bool.eq_iff_iff]; simp [U_inj]
theorem U_mk {n : Nat} {i : Int} (h0 : 0 ≤ i) (h1 : i < 2 ^ n) : ∃ x : BitVec n, i = U x := by
  refine ⟨BitVec.ofNat n i.toNat, ?_⟩
  unfold U
  obtain ⟨m, rfl⟩ := Int.eq_ofNat_of_zero_le h0
  have : m < 2 ^ n := by exact_mod_cast h1
  simp [Nat.mod_eq_of_lt this]
theorem U_ofNat {n : Nat} {m : Nat} (h : m < 2 ^ n) : (m : Int) = U (BitVec.ofNat n m) := by
  unfold U; simp [Nat.mod_eq_of_lt h]

theorem wf_u8 {i : Int} (h : (Lit.int .u8 i).wf = true) : ∃ x : BitVec 8, i = U x := by
  have := h; simp [Lit.wf, IntKind.min, IntKind.max, IntKind.bits, IntKind.signed] at this
  exact U_mk (by omega) (by omega)
theorem wf_u16 {i : Int} (h : (Lit.int .u16 i).wf = true) : ∃ x : BitVec 16, i = U x := by
  have := h; simp [Lit.wf, IntKind.min, IntKind.max, IntKind.bits, IntKind.signed] at this
  exact U_mk (by omega) (by omega)
theorem wf_u32 {i : Int} (h : (Lit.int .u32 i).wf = true) : ∃ x : BitVec 32, i = U x := by
  have := h; simp [Lit.wf, IntKind.min, IntKind.max, IntKind.bits, IntKind.signed] at this
  exact U_mk (by omega) (by omega)
theorem wf_u64 {i : Int} (h : (Lit.int .u64 i).wf = true) : ∃ x : BitVec 64, i = U x := by
  have := h; simp [Lit.wf, IntKind.min, IntKind.max, IntKind.bits, IntKind.signed] at this
  exact U_mk (by omega) (by omega)

/-! What the operations do -/
theorem ofInt_U {n : Nat} (x : BitVec n) : BitVec.ofInt n (U x) = x := by
  unfold U; simp
theorem wrap_u8_U (x : BitVec 8) : IntKind.u8.wrap (U x) = U x := by
  have := U_nonneg x; have := U_lt x; simp [IntKind.wrap, IntKind.bits, IntKind.signed]; omega
theorem wrap_u32_U (x : BitVec 32) : IntKind.u32.wrap (U x) = U x := by
  have := U_nonneg x; have := U_lt x; simp [IntKind.wrap, IntKind.bits, IntKind.signed]; omega
theorem wrap_u64_U (x : BitVec 64) : IntKind.u64.wrap (U x) = U x := by
  have := U_nonneg x; have := U_lt x; simp [IntKind.wrap, IntKind.bits, IntKind.signed]; omega

theorem xor_u8 (x y : BitVec 8) : bits .xor .u8 (U x) (U y) = U (x ^^^ y) := by
  show IntKind.u8.wrap (((BitVec.ofInt 8 (U x)) ^^^ (BitVec.ofInt 8 (U y))).toNat : Int) = _
  rw [ofInt_U, ofInt_U]; exact wrap_u8_U (x ^^^ y)
theorem xor_u32 (x y : BitVec 32) : bits .xor .u32 (U x) (U y) = U (x ^^^ y) := by
  show IntKind.u32.wrap (((BitVec.ofInt 32 (U x)) ^^^ (BitVec.ofInt 32 (U y))).toNat : Int) = _
  rw [ofInt_U, ofInt_U]; exact wrap_u32_U (x ^^^ y)
theorem xor_u64 (x y : BitVec 64) : bits .xor .u64 (U x) (U y) = U (x ^^^ y) := by
  show IntKind.u64.wrap (((BitVec.ofInt 64 (U x)) ^^^ (BitVec.ofInt 64 (U y))).toNat : Int) = _
  rw [ofInt_U, ofInt_U]; exact wrap_u64_U (x ^^^ y)
theorem and_u32 (x y : BitVec 32) : bits .and .u32 (U x) (U y) = U (x &&& y) := by
  show IntKind.u32.wrap (((BitVec.ofInt 32 (U x)) &&& (BitVec.ofInt 32 (U y))).toNat : Int) = _
  rw [ofInt_U, ofInt_U]; exact wrap_u32_U (x &&& y)

theorem shr_U {n : Nat} (x : BitVec n) (k : Nat) (m : Int) (h : m = 2 ^ k) : U x / m = U (x >>> k) := by
  subst h; unfold U
  rw [BitVec.toNat_ushiftRight, Nat.shiftRight_eq_div_pow]; simp

theorem wrap_u64_mod (i : Int) : IntKind.u64.wrap i = U (BitVec.ofInt 64 i) := by
  unfold U
  rw [BitVec.toNat_ofInt]
  simp [IntKind.wrap, IntKind.bits, IntKind.signed]
  omega
theorem wrap_u32_mod (i : Int) : IntKind.u32.wrap i = U (BitVec.ofInt 32 i) := by
  unfold U
  rw [BitVec.toNat_ofInt]
  simp [IntKind.wrap, IntKind.bits, IntKind.signed]
  omega
theorem wrap_u8_mod (i : Int) : IntKind.u8.wrap i = U (BitVec.ofInt 8 i) := by
  unfold U
  rw [BitVec.toNat_ofInt]
  simp [IntKind.wrap, IntKind.bits, IntKind.signed]
  omega
theorem mul_u64 (x : BitVec 64) (c : Int) : IntKind.u64.wrap (U x * c) = U (x * BitVec.ofInt 64 c) := by
  rw [wrap_u64_mod, BitVec.ofInt_mul, ofInt_U]
theorem add_u64 (x : BitVec 64) (c : Int) : IntKind.u64.wrap (U x + c) = U (x + BitVec.ofInt 64 c) := by
  rw [wrap_u64_mod, BitVec.ofInt_add, ofInt_U]

end Go.Proofs.Ytalgkiagdjckiaa

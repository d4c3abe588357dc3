/-
  The numbers that are taken, in order; the lowest bit of a word.
  Conditions: none.
-/
import Derived.Test.YtpljbjceokoeiaaDoorBitsMath
import Derived.Lib.TrailingZeros
namespace Go.Proofs.YtpljbjceokoeiaaDoor
open Go.RowKit

/-- y is the word x without its bits below j. -/
def Hi (x : BitVec 64) (j : Nat) (y : BitVec 64) : Prop := ∀ i, i < 64 → y.getLsbD i = (decide (j ≤ i) && x.getLsbD i)
theorem hi_zero (x : BitVec 64) : Hi x 0 x := fun i _ => by simp
theorem hi_none {x y : BitVec 64} {j : Nat} (h : Hi x j y) (h0 : y = 0#64) : ∀ i, i < 64 → j ≤ i → x.getLsbD i = false := by
  intro i hi hj
  have := h i hi
  rw [h0] at this
  simpa [hj] using this.symm
theorem low_form {y : BitVec 64} (h0 : y ≠ 0#64) : ∃ m, y.toNat = 2 ^ Lib.ctz 64 y.toNat * (2 * m + 1) ∧ Lib.ctz 64 y.toNat < 64 := by
  have hne : y.toNat ≠ 0 := fun e => h0 (BitVec.eq_of_toNat_eq (by simpa using e))
  obtain ⟨m, h1, h2⟩ := Lib.ctzFrom_spec 64 y.toNat (by omega) y.isLt
  have e : Lib.ctz 64 y.toNat = Lib.ctzFrom 64 y.toNat := by simp [Lib.ctz, hne]
  rw [e]
  exact ⟨m, h1, h2⟩
theorem low_bits {y : BitVec 64} (h0 : y ≠ 0#64) : y.getLsbD (Lib.ctz 64 y.toNat) = true ∧ ∀ i, i < Lib.ctz 64 y.toNat → y.getLsbD i = false := by
  obtain ⟨m, h1, h2⟩ := low_form h0
  generalize Lib.ctz 64 y.toNat = t at h1 h2 ⊢
  have key : ∀ i, y.getLsbD i = y.toNat.testBit i := fun i => rfl
  refine ⟨?_, fun i hi => ?_⟩
  · rw [key, h1, Nat.testBit_two_pow_mul]
    simp
  · rw [key, h1, Nat.testBit_two_pow_mul]
    simp; omega
theorem and_pred_nat (t m i : Nat) : (2 ^ t * (2 * m + 1) &&& (2 ^ t * (2 * m + 1) - 1)).testBit i = ((2 ^ t * (2 * m + 1)).testBit i && !decide (i = t)) := by
  have hp : 0 < 2 ^ t := Nat.two_pow_pos t
  have e : 2 ^ t * (2 * m + 1) - 1 = 2 ^ t * (2 * m) + (2 ^ t - 1) := by
    rw [Nat.mul_add, Nat.mul_one]; omega
  rw [Nat.testBit_and, e, Nat.testBit_two_pow_mul_add _ (by omega), Nat.testBit_two_pow_mul]
  by_cases hlt : i < t
  · have : ¬ t ≤ i := by omega
    simp [hlt, this]
  · have h2 : t ≤ i := by omega
    simp only [hlt, if_false, h2, decide_true, Bool.true_and]
    by_cases he : i = t
    · subst he; simp
    · obtain ⟨k, hk⟩ : ∃ k, i - t = k + 1 := ⟨i - t - 1, by omega⟩
      rw [hk]
      simp [he, Nat.testBit_succ]
      rw [show (2 * m + 1) / 2 = m by omega]
      simp
theorem and_pred {y : BitVec 64} (h0 : y ≠ 0#64) (i : Nat) : (y &&& (y - 1#64)).getLsbD i = (y.getLsbD i && !decide (i = Lib.ctz 64 y.toNat)) := by
  obtain ⟨m, h1, h2⟩ := low_form h0
  have hne : y.toNat ≠ 0 := fun e => h0 (BitVec.eq_of_toNat_eq (by simpa using e))
  have hlt := y.isLt
  generalize Lib.ctz 64 y.toNat = t at h1 h2 ⊢
  have e : (y - 1#64).toNat = y.toNat - 1 := by
    rw [BitVec.toNat_sub]
    simp
    omega
  show (y &&& (y - 1#64)).toNat.testBit i = (y.toNat.testBit i && !decide (i = t))
  rw [BitVec.toNat_and, e, h1]
  exact and_pred_nat t m i
/-- The lowest bit of what is left, and what is left behind it. -/
theorem hi_step {x y : BitVec 64} {j : Nat} (h : Hi x j y) (h0 : y ≠ 0#64) :
    j ≤ Lib.ctz 64 y.toNat ∧ Lib.ctz 64 y.toNat < 64 ∧ x.getLsbD (Lib.ctz 64 y.toNat) = true ∧ (∀ i, j ≤ i → i < Lib.ctz 64 y.toNat → x.getLsbD i = false) ∧ Hi x (Lib.ctz 64 y.toNat + 1) (y &&& (y - 1#64)) := by
  obtain ⟨b1, b2⟩ := low_bits h0
  obtain ⟨_, _, h64⟩ := low_form h0
  have hp := and_pred h0
  generalize Lib.ctz 64 y.toNat = t at b1 b2 h64 hp ⊢
  have ht := h t h64
  rw [b1] at ht
  have ht2 : decide (j ≤ t) = true ∧ x.getLsbD t = true := by simpa using ht.symm
  have hjt : j ≤ t := by simpa using ht2.1
  refine ⟨hjt, h64, ht2.2, fun i hji hit => ?_, fun i hi => ?_⟩
  · have := h i (by omega)
    rw [b2 i hit] at this
    simpa [hji] using this.symm
  · rw [hp i]
    by_cases hit : i < t
    · rw [b2 i hit]
      have : ¬ t + 1 ≤ i := by omega
      simp [this]
    · rw [h i hi]
      by_cases he : i = t
      · subst he
        have : ¬ i + 1 ≤ i := by omega
        simp [this]
      · have a1 : j ≤ i := by omega
        have a2 : t + 1 ≤ i := by omega
        simp [a1, a2, he]

/-- The numbers below m that are taken, in order. -/
def BSet.allTo (s : BSet) (m : Nat) : List Nat := (List.range m).filter s.has
/-- All numbers that are taken. -/
def BSet.all (s : BSet) : List Nat := s.allTo s.n
theorem allTo_none (s : BSet) {a b : Nat} (hab : a ≤ b) (h : ∀ i, a ≤ i → i < b → s.has i = false) : s.allTo b = s.allTo a := by
  obtain ⟨k, rfl⟩ : ∃ k, b = a + k := ⟨b - a, by omega⟩
  unfold BSet.allTo
  rw [List.range_add, List.filter_append]
  have : List.filter s.has (List.map (fun x => a + x) (List.range k)) = [] := by
    rw [List.filter_eq_nil_iff]
    intro x hx
    obtain ⟨y, hy, rfl⟩ := List.mem_map.1 hx
    rw [h (a + y) (by omega) (by have := List.mem_range.1 hy; omega)]
    simp
  rw [this, List.append_nil]
theorem allTo_one (s : BSet) {m : Nat} (h : s.has m = true) : s.allTo (m + 1) = s.allTo m ++ [m] := by
  unfold BSet.allTo
  rw [List.range_succ, List.filter_append]
  simp [h]
theorem allTo_hit (s : BSet) {a m : Nat} (ham : a ≤ m) (h : ∀ i, a ≤ i → i < m → s.has i = false) (hm : s.has m = true) : s.allTo (m + 1) = s.allTo a ++ [m] := by
  rw [allTo_one s hm, allTo_none s ham h]
theorem has_word (s : BSet) (k i : Nat) (hi : i < 64) : s.has (64 * k + i) = (s.ws[k]?.getD 0#64).getLsbD i := by
  unfold BSet.has
  rw [show (64 * k + i) / 64 = k by omega, show (64 * k + i) % 64 = i by omega]
theorem all_words {s : BSet} (h : s.Ok) : s.allTo (64 * s.ws.length) = s.all := by
  refine allTo_none s (by rw [h.len]; omega) fun i hi _ => h.above i hi
theorem all_length (s : BSet) : s.all.length = (List.range s.n).countP s.has := by
  unfold BSet.all BSet.allTo
  rw [List.countP_eq_length_filter]
theorem allTo_lt (s : BSet) {m i : Nat} (h : i ∈ s.allTo m) : i < m := by
  have := (List.mem_filter.1 h).1
  simpa using this
theorem allTo_len (s : BSet) (m : Nat) : (s.allTo m).length ≤ m := by
  have := List.length_filter_le s.has (List.range m)
  simpa [BSet.allTo] using this
theorem allTo_pre (s : BSet) {a b : Nat} (h : a ≤ b) : (s.allTo a).length ≤ (s.allTo b).length := by
  obtain ⟨k, rfl⟩ : ∃ k, b = a + k := ⟨b - a, by omega⟩
  unfold BSet.allTo
  rw [List.range_add, List.filter_append, List.length_append]
  omega
end Go.Proofs.YtpljbjceokoeiaaDoor

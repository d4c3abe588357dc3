/-
  A head's load written again is as it was read.
  Conditions: none.
-/
import Derived.Test.YtfdipeaddofjaaaSup3
namespace Go.Proofs.Ytfdipeaddofjaaa
open Go.RowKit

theorem leNat_digitS (l : List (BitVec 8)) (j : Nat) (hj : j < l.length) : leNat l / 256 ^ j % 256 = (l[j]?.getD 0).toNat := by
  induction l generalizing j with
  | nil => simp at hj
  | cons b l ih =>
    have hb := b.isLt
    cases j with
    | zero => simp [leNat]; omega
    | succ j =>
      rw [leNat, Nat.pow_succ, Nat.mul_comm (256 ^ j) 256, ← Nat.div_div_eq_div_mul, show (b.toNat + 256 * leNat l) / 256 = leNat l by omega, ih j (by simpa using hj)]
      rfl
theorem leB_leOfS (l : List (BitVec 8)) (h : l.length ≤ 8) : leB l.length (leOf l) = l := by
  apply List.ext_getElem?
  intro j
  by_cases hj : j < l.length
  · have h1 : (leB l.length (leOf l))[j]? = some ((leOf l >>> (8 * j)).setWidth 8) := by simp [leB, hj]
    rw [h1, List.getElem?_eq_getElem hj]
    congr 1
    apply BitVec.eq_of_toNat_eq
    have hd := leNat_digitS l j hj
    rw [List.getElem?_eq_getElem hj] at hd
    have hd' : leNat l / 256 ^ j % 256 = l[j].toNat := hd
    rw [← hd', BitVec.toNat_setWidth, BitVec.toNat_ushiftRight, leOf_toNat l h, Nat.shiftRight_eq_div_pow, Nat.pow_mul]
  · rw [List.getElem?_eq_none (by rw [leB_len]; omega), List.getElem?_eq_none (by omega)]
theorem ofInt_wrapU (x : BitVec 64) : BitVec.ofInt 64 (wrap64 (U x)) = x := by
  apply BitVec.eq_of_toInt_eq
  rw [BitVec.toInt_ofInt, BitVec.toInt_eq_toNat_bmod]
  have := x.isLt
  unfold wrap64 U
  simp only [Int.bmod_def]
  omega
/-- A number written again. -/
theorem leI_again (bs : List (BitVec 8)) (j n : Nat) (k : Int) (hk : k = n) (hn : n ≤ 8) (h : j + n ≤ bs.length) : leI k (numAt bs j n) = (bs.drop j).take n := by
  subst hk
  unfold leI numAt numU
  rw [ofInt_wrapU]
  have hl : ((bs.drop j).take n).length = n := by rw [List.length_take, List.length_drop]; omega
  have := leB_leOfS ((bs.drop j).take n) (by omega)
  rw [hl] at this
  exact this
theorem leB_again (bs : List (BitVec 8)) (j n : Nat) (hn : n ≤ 8) (h : j + n ≤ bs.length) : leB n (leOf ((bs.drop j).take n)) = (bs.drop j).take n := by
  have hl : ((bs.drop j).take n).length = n := by rw [List.length_take, List.length_drop]; omega
  have := leB_leOfS ((bs.drop j).take n) (by omega)
  rw [hl] at this
  exact this
theorem cut_next (bs : List (BitVec 8)) (j n k : Nat) (hk : j + n = k) : (bs.drop j).take n ++ bs.drop k = bs.drop j := by
  rw [← hk, ← List.drop_drop, List.take_append_drop]
theorem plan_again (bs : List (BitVec 8)) (h : bs.length = 26) : (PlanP.ofBytes bs).bytes = bs := by
  have hn : ∀ k < 8, leB (wid k) (numOf bs k) = (bs.drop (rowLen k)).take (wid k) := fun k hk => by
    rcases (by omega : k = 0 ∨ k = 1 ∨ k = 2 ∨ k = 3 ∨ k = 4 ∨ k = 5 ∨ k = 6 ∨ k = 7) with rfl | rfl | rfl | rfl | rfl | rfl | rfl | rfl <;> exact leB_again bs _ _ (by decide) (by rw [h]; decide)
  have h0 : leB 4 (numOf bs 0) = (bs.drop 0).take 4 := hn 0 (by decide)
  have h1 : leB 4 (numOf bs 1) = (bs.drop 4).take 4 := hn 1 (by decide)
  have h2 : leB 2 (numOf bs 2) = (bs.drop 8).take 2 := hn 2 (by decide)
  have h3 : leB 2 (numOf bs 3) = (bs.drop 10).take 2 := hn 3 (by decide)
  have h4 : leB 2 (numOf bs 4) = (bs.drop 12).take 2 := hn 4 (by decide)
  have h5 : leB 2 (numOf bs 5) = (bs.drop 14).take 2 := hn 5 (by decide)
  have h6 : leB 2 (numOf bs 6) = (bs.drop 16).take 2 := hn 6 (by decide)
  have h7 : leB 8 (numOf bs 7) = (bs.drop 18).take 8 := hn 7 (by decide)
  unfold PlanP.bytes PlanP.parts PlanP.ofBytes numInt
  simp only [ofInt_wrapU, List.flatten_cons, List.flatten_nil, List.append_nil]
  rw [h0, h1, h2, h3, h4, h5, h6, h7]
  have e8 : (bs.drop 18).take 8 = bs.drop 18 := List.take_of_length_le (by rw [List.length_drop, h]; decide)
  rw [e8, cut_next bs 16 2 18 rfl, cut_next bs 14 2 16 rfl, cut_next bs 12 2 14 rfl, cut_next bs 10 2 12 rfl, cut_next bs 8 2 10 rfl, cut_next bs 4 4 8 rfl, cut_next bs 0 4 4 rfl, List.drop_zero]
theorem head_form (q : PlanP) (g a b c d e f : Int) : (HeadP.mk q g a b c d e f).bytes = q.bytes ++ leI 4 a ++ leI 8 b ++ leI 1 c ++ leI 8 d ++ leI 8 e ++ leI 8 f := by
  unfold HeadP.bytes
  rw [List.nil_append]
theorem head_again (gen : Int) (bs : List (BitVec 8)) (h : bs.length = 63) : (HeadP.of (PlanP.ofBytes (bs.take 26)) gen bs).bytes = bs := by
  have hp := plan_again (bs.take 26) (by rw [List.length_take, h]; rfl)
  unfold HeadP.of
  rw [head_form, hp]
  have a1 : leI 4 (numAt bs 26 4) = (bs.drop 26).take 4 := leI_again bs 26 4 4 rfl (by decide) (by omega)
  have a2 : leI 8 (numAt bs 30 8) = (bs.drop 30).take 8 := leI_again bs 30 8 8 rfl (by decide) (by omega)
  have a3 : leI 1 (numAt bs 38 1) = (bs.drop 38).take 1 := leI_again bs 38 1 1 rfl (by decide) (by omega)
  have a4 : leI 8 (numAt bs 39 8) = (bs.drop 39).take 8 := leI_again bs 39 8 8 rfl (by decide) (by omega)
  have a5 : leI 8 (numAt bs 47 8) = (bs.drop 47).take 8 := leI_again bs 47 8 8 rfl (by decide) (by omega)
  have a6 : leI 8 (numAt bs 55 8) = (bs.drop 55).take 8 := leI_again bs 55 8 8 rfl (by decide) (by omega)
  rw [a1, a2, a3, a4, a5, a6]
  have e8 : (bs.drop 55).take 8 = bs.drop 55 := List.take_of_length_le (by rw [List.length_drop, h]; decide)
  simp only [List.append_assoc]
  rw [e8, cut_next bs 47 8 55 rfl, cut_next bs 39 8 47 rfl, cut_next bs 38 1 39 rfl, cut_next bs 30 8 38 rfl, cut_next bs 26 4 30 rfl, List.take_append_drop]
/-- A number that is too great is no int that may be. -/
theorem numAt_neg (bs : List (BitVec 8)) (j n : Nat) : (9223372036854775807 < U (numU bs j n) ↔ numAt bs j n < 0) := by
  unfold numAt
  have h0 : 0 ≤ U (numU bs j n) := by unfold U; omega
  have h1 : U (numU bs j n) < 18446744073709551616 := by
    have := (numU bs j n).isLt
    unfold U; omega
  unfold wrap64
  omega
end Go.Proofs.Ytfdipeaddofjaaa

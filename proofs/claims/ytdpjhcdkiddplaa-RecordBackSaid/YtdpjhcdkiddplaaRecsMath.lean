/-
  The records of bytes, one behind the other.
  Conditions: none.
-/
import Derived.Test.YtdpjhcdkiddplaaRecMath
namespace Go.Proofs.Ytdpjhcdkiddplaa
open Go.RowKit

theorem recN_pos {bs : List (BitVec 8)} (h : recGood bs) : 13 ≤ recN bs ∧ recN bs ≤ bs.length := by
  have h2 := ((recGood_iff bs).1 h).2.1
  have h4 := ((recGood_iff bs).1 h).2.2.2.1
  rw [recN_eq] at h2 h4 ⊢
  obtain ⟨k1, _, v1, _, e⟩ := recSize_pos h2
  omega
def recsF : Nat → List (BitVec 8) → List RecP
  | 0, _ => []
  | _ + 1, [] => []
  | f + 1, b :: l => if b = 0 then recsF f l else if recGood (b :: l) then recOf (b :: l) :: recsF f ((b :: l).drop (recN (b :: l)).toNat) else []
/-- The records of bytes. -/
def recs (bs : List (BitVec 8)) : List RecP := recsF bs.length bs
theorem recsF_same (f : Nat) : ∀ (g : Nat) (bs : List (BitVec 8)), bs.length ≤ f → bs.length ≤ g → recsF f bs = recsF g bs := by
  induction f with
  | zero =>
    intro g bs h1 _
    have : bs = [] := List.eq_nil_of_length_eq_zero (by omega)
    subst this
    cases g <;> rfl
  | succ f ih =>
    intro g bs h1 h2
    match bs, g, h2 with
    | [], 0, _ => rfl
    | [], g + 1, _ => rfl
    | b :: l, 0, h2 => simp at h2
    | b :: l, g + 1, h2 =>
      simp only [List.length_cons] at h1 h2
      rw [recsF, recsF, ih g l (by omega) (by omega)]
      by_cases hg : recGood (b :: l)
      · have := recN_pos hg
        rw [ih g ((b :: l).drop (recN (b :: l)).toNat) (by rw [List.length_drop, List.length_cons]; omega) (by rw [List.length_drop, List.length_cons]; omega)]
      · rw [if_neg hg, if_neg hg]
theorem recs_nil : recs [] = [] := rfl
theorem recs_drop_zero (bs : List (BitVec 8)) (m : Nat) (h : m < bs.length) (hb : bs[m]?.getD 0 = 0) : recs (bs.drop m) = recs (bs.drop (m + 1)) := by
  rw [List.drop_eq_getElem_cons h]
  rw [List.getElem?_eq_getElem h] at hb
  have hb' : bs[m] = 0 := hb
  unfold recs
  rw [List.length_cons, recsF, if_pos hb']
theorem recs_good (bs : List (BitVec 8)) (m : Nat) (h : m < bs.length) (hb : bs[m]?.getD 0 ≠ 0) (hg : recGood (bs.drop m)) : recs (bs.drop m) = recOf (bs.drop m) :: recs (bs.drop (m + (recN (bs.drop m)).toNat)) := by
  have hp := recN_pos hg
  rw [List.getElem?_eq_getElem h] at hb
  have hb' : bs[m] ≠ 0 := hb
  rw [← List.drop_drop]
  have e := List.drop_eq_getElem_cons h
  generalize bs.drop m = l at hg hp e ⊢
  subst e
  unfold recs
  rw [List.length_cons, recsF, if_neg hb', if_pos hg]
  congr 1
  exact recsF_same _ _ _ (by rw [List.length_drop, List.length_cons]; omega) (Nat.le_refl _)
theorem recs_bad (bs : List (BitVec 8)) (m : Nat) (h : m < bs.length) (hb : bs[m]?.getD 0 ≠ 0) (hg : ¬ recGood (bs.drop m)) : recs (bs.drop m) = [] := by
  rw [List.getElem?_eq_getElem h] at hb
  have hb' : bs[m] ≠ 0 := hb
  have e := List.drop_eq_getElem_cons h
  generalize bs.drop m = l at hg e ⊢
  subst e
  unfold recs
  rw [List.length_cons, recsF, if_neg hb', if_neg hg]
theorem recs_end (bs : List (BitVec 8)) : recs (bs.drop bs.length) = [] := by rw [List.drop_length]; rfl
end Go.Proofs.Ytdpjhcdkiddplaa

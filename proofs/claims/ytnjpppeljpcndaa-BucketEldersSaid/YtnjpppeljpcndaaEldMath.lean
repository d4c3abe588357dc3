/-
  Plain mathematics of the eldest entry, and of numbers that stand once.
  Conditions: none.
-/

import Derived.Test.YtnjpppeljpcndaaBkt9a
import Derived.Test.YtnjpppeljpcndaaElder3
namespace Go.Proofs.Ytnjpppeljpcndaa
open Go.RowKit

/-- Elder: by the region, then by the place. -/
def ltA (x y : Ent) : Prop := x.reg < y.reg ∨ (x.reg = y.reg ∧ x.at_ < y.at_)
theorem age_lt (x y : Ent) : ageI x y < 0 ↔ ltA x y := by
  unfold ageI ltA cmpI
  by_cases h1 : x.reg < y.reg
  · simp [h1]
  · by_cases h2 : y.reg < x.reg
    · simp [h1, h2]; omega
    · have e : x.reg = y.reg := by omega
      by_cases h3 : x.at_ < y.at_
      · simp [e, h3]
      · by_cases h4 : y.at_ < x.at_
        · simp [e, h3, h4]
        · simp [e, h3, h4]
theorem minUp_least (es : List Ent) : ∀ k, 1 ≤ k → k ≤ es.length → ∀ j, j < k → ¬ ltA (es[j]?.getD default) (minUp es k)
  | 0, h, _, _, _ => absurd h (by omega)
  | 1, _, _, j, hj => by
    obtain rfl : j = 0 := by omega
    rw [minUp_one]
    unfold ltA; omega
  | k + 2, _, hk, j, hj => by
    have ih := minUp_least es (k + 1) (by omega) (by omega)
    rw [minUp_succ es (k + 1) (by omega) (by omega)]
    unfold minStep
    by_cases h : ageI (es[k + 1]?.getD default) (minUp es (k + 1)) < 0
    · rw [if_pos h]
      have h2 := (age_lt _ _).1 h
      by_cases hjk : j < k + 1
      · have := ih j hjk
        unfold ltA at this h2 ⊢
        omega
      · obtain rfl : j = k + 1 := by omega
        unfold ltA; omega
    · rw [if_neg h]
      have h2 : ¬ ltA _ _ := fun h3 => h ((age_lt _ _).2 h3)
      by_cases hjk : j < k + 1
      · exact ih j hjk
      · obtain rfl : j = k + 1 := by omega
        exact h2
theorem minE_least {es : List Ent} (h : 1 ≤ es.length) {z : Ent} (hz : z ∈ es) : ¬ ltA z (minE es) := by
  obtain ⟨j, hj, rfl⟩ := List.mem_iff_getElem.1 hz
  have := minUp_least es es.length h (Nat.le_refl _) j hj
  rw [List.getElem?_eq_getElem hj, Option.getD_some] at this
  exact this
/-- No number stands twice. -/
def Once (es : List Ent) : Prop := es.Pairwise fun x y => x.hash ≠ y.hash
theorem once_of {d p s : Int} {es : List Ent} (h : Right14 d p s es) : Once es := by
  have hlt : ∀ k j, j + k + 1 < es.length → U (es[j]?.getD default).hash < U (es[j + k + 1]?.getD default).hash := by
    intro k
    induction k with
    | zero =>
      intro j hj
      have := (h.all (j + 0 + 1) hj).ord (by omega)
      simpa using this
    | succ k ih =>
      intro j hj
      have h1 := ih j (by omega)
      have h2 := (h.all (j + (k + 1) + 1) hj).ord (by omega)
      rw [show j + (k + 1) + 1 - 1 = j + k + 1 by omega] at h2
      omega
  unfold Once
  rw [List.pairwise_iff_getElem]
  intro i j hi hj hij e
  have := hlt (j - i - 1) i (by omega)
  rw [show i + (j - i - 1) + 1 = j by omega, List.getElem?_eq_getElem hi, List.getElem?_eq_getElem hj, Option.getD_some, Option.getD_some, e] at this
  omega
theorem once_drop {es : List Ent} (h : Once es) (x : Ent) : Once (es.filter fun y => !decide (y.hash = x.hash)) := h.filter _
theorem once_len : ∀ {es : List Ent}, Once es → ∀ {x : Ent}, x ∈ es → (es.filter fun y => !decide (y.hash = x.hash)).length + 1 = es.length
  | [], _, _, hx => by cases hx
  | e :: es, h, x, hx => by
    have h1 := (List.pairwise_cons.1 h).1
    have h2 : Once es := (List.pairwise_cons.1 h).2
    rcases List.mem_cons.1 hx with rfl | hx'
    · have hall : (es.filter fun y => !decide (y.hash = x.hash)) = es := by
        rw [List.filter_eq_self]
        intro y hy
        have := h1 y hy
        simp [Ne.symm this]
      simp [hall]
    · have hne : e.hash ≠ x.hash := h1 x hx'
      have := once_len h2 hx'
      simp [hne]
      exact this
end Go.Proofs.Ytnjpppeljpcndaa

/-
  Plain mathematics of a bucket's halves.
  Conditions: none.
-/
import Derived.Test.YtpihncafmjbccaaBkt9a
namespace Go.Proofs.Ytpihncafmjbccaa
open Go.RowKit

theorem preI_pre (x : BitVec 64) (b : Nat) (h : b ≤ 30) : preI x b = pre x b := by
  unfold preI
  by_cases h1 : 1 ≤ b
  · rw [if_pos ⟨by omega, by omega⟩]; rfl
  · obtain rfl : b = 0 := by omega
    rw [if_neg (by omega)]
    unfold pre U
    rw [BitVec.toNat_ushiftRight, Nat.shiftRight_eq_div_pow, Nat.div_eq_of_lt x.isLt]
    rfl
theorem pre_div (x : BitVec 64) (b : Nat) : pre x b = ((x.toNat / 2 ^ (64 - b) : Nat) : Int) := by
  unfold pre U
  rw [BitVec.toNat_ushiftRight, Nat.shiftRight_eq_div_pow]
theorem pre_half (x : BitVec 64) (b : Nat) (h : b ≤ 30) : pre x (b + 1) = 2 * pre x b ∨ pre x (b + 1) = 2 * pre x b + 1 := by
  rw [pre_div, pre_div]
  have e : 64 - b = (64 - (b + 1)) + 1 := by omega
  rw [e, Nat.pow_succ, ← Nat.div_div_eq_div_mul]
  generalize x.toNat / 2 ^ (64 - (b + 1)) = q
  omega
theorem pre_mono {x y : BitVec 64} (h : U x < U y) (b : Nat) : pre x b ≤ pre y b := by
  rw [pre_div, pre_div]
  have : x.toNat ≤ y.toNat := by unfold U at h; omega
  exact_mod_cast Nat.div_le_div_right this
/-- By their numbers, the least first. -/
def Sorted (es : List Ent) : Prop := es.Pairwise fun x y => U x.hash < U y.hash
theorem sorted_of {d p s : Int} {es : List Ent} (h : Right14 d p s es) : Sorted es := by
  have hlt : ∀ k j, j + k + 1 < es.length → U (es[j]?.getD default).hash < U (es[j + k + 1]?.getD default).hash := by
    intro k
    induction k with
    | zero =>
      intro j hj
      have := (h.all (j + 0 + 1) hj).ord (by omega)
      simpa using this
    | succ k ih =>
      intro j hj
      have h1 := ih j (by omega)
      have h2 := (h.all (j + (k + 1) + 1) hj).ord (by omega)
      rw [show j + (k + 1) + 1 - 1 = j + k + 1 by omega] at h2
      omega
  unfold Sorted
  rw [List.pairwise_iff_getElem]
  intro i j hi hj hij
  have := hlt (j - i - 1) i (by omega)
  rw [show i + (j - i - 1) + 1 = j by omega, List.getElem?_eq_getElem hi, List.getElem?_eq_getElem hj, Option.getD_some, Option.getD_some] at this
  exact this
theorem part_whole {P : Ent → Bool} : ∀ {es : List Ent}, es.Pairwise (fun x y => P y = true → P x = true) → es.filter P ++ es.filter (fun x => !P x) = es
  | [], _ => rfl
  | e :: es, h => by
    have h1 := (List.pairwise_cons.1 h).1
    have h2 := part_whole (List.pairwise_cons.1 h).2
    cases he : P e with
    | true => simp [he, h2]
    | false =>
      have hn : es.filter P = [] := by
        rw [List.filter_eq_nil_iff]
        intro y hy hp
        rw [h1 y hy hp] at he
        cases he
      rw [hn, List.nil_append] at h2
      simp [he, hn, h2]
theorem mem_ok {d p s : Int} {es : List Ent} (h : Right14 d p s es) {x : Ent} (hx : x ∈ es) : (0 ≤ x.reg ∧ x.reg ≤ 1099511627776 ∧ 0 ≤ x.at_ ∧ x.at_ ≤ 65535 ∧ 0 ≤ x.size ∧ x.size ≤ 65535) ∧ preI x.hash d = p := by
  obtain ⟨j, hj, rfl⟩ := List.mem_iff_getElem.1 hx
  have ho := h.all j hj
  have e : es[j]?.getD default = es[j] := by rw [List.getElem?_eq_getElem hj]; rfl
  have q0 := ho.r0; have q1 := ho.r1; have q2 := ho.a0; have q3 := ho.a1; have q4 := ho.s0; have q5 := ho.s1; have q6 := ho.pre
  rw [e] at q0 q1 q2 q3 q4 q5 q6
  exact ⟨⟨q0, q1, q2, q3, q4, q5⟩, q6⟩
/-- Some of a bucket's entries, with one bit more. -/
theorem right_some {d p s d' p' : Int} {es l : List Ent} (h : Right14 d p s es) (hm : ∀ x ∈ l, x ∈ es ∧ preI x.hash d' = p') (hs : Sorted l) (hl : l.length ≤ es.length) (h0 : 0 ≤ d') (h1 : d' ≤ 8) (p0 : 0 ≤ p') (p1 : p' < 2 ^ d'.toNat) : Right14 d' p' s l := by
  have hh := h.head
  refine ⟨⟨hh.s1, hh.s2, by have := hh.len; omega, h0, h1⟩, p0, p1, fun i hi => ?_⟩
  have e : l[i]?.getD default = l[i] := by rw [List.getElem?_eq_getElem hi]; rfl
  obtain ⟨hx, hp⟩ := hm l[i] (List.getElem_mem hi)
  obtain ⟨⟨q0, q1, q2, q3, q4, q5⟩, _⟩ := mem_ok h hx
  refine ⟨by rw [e]; exact q0, by rw [e]; exact q1, by rw [e]; exact q2, by rw [e]; exact q3, by rw [e]; exact q4, by rw [e]; exact q5, by rw [e]; exact hp, fun hpos => ?_⟩
  have hi2 : i - 1 < l.length := by omega
  have e2 : l[i - 1]?.getD default = l[i - 1] := by rw [List.getElem?_eq_getElem hi2]; rfl
  rw [e, e2]
  exact (List.pairwise_iff_getElem.1 hs) (i - 1) i hi2 hi (by omega)
/-- What split_any's halves are. -/
theorem halves {D PN : Nat} {s : Int} {es : List Ent} (h : Right14 D PN s es) :
    (es.filter fun x => preI x.hash ((D : Int) + 1) == (PN : Int) * 2) ++ (es.filter fun x => !(preI x.hash ((D : Int) + 1) == (PN : Int) * 2)) = es ∧
    ((D : Int) < 8 → Right14 ((D : Int) + 1) ((PN : Int) * 2) s (es.filter fun x => preI x.hash ((D : Int) + 1) == (PN : Int) * 2) ∧ Right14 ((D : Int) + 1) ((PN : Int) * 2 + 1) s (es.filter fun x => !(preI x.hash ((D : Int) + 1) == (PN : Int) * 2))) := by
  have hD : D ≤ 8 := by have := h.head.d1; omega
  have hS := sorted_of h
  have hcast : ((D : Int) + 1) = ((D + 1 : Nat) : Int) := by simp
  have two : ∀ x ∈ es, preI x.hash ((D : Int) + 1) = (PN : Int) * 2 ∨ preI x.hash ((D : Int) + 1) = (PN : Int) * 2 + 1 := by
    intro x hx
    have hp := (mem_ok h hx).2
    rw [preI_pre _ _ (by omega)] at hp
    rw [hcast, preI_pre _ _ (by omega)]
    have := pre_half x.hash D (by omega)
    omega
  refine ⟨?_, fun hlt => ?_⟩
  · refine part_whole (List.Pairwise.imp_of_mem ?_ hS)
    intro x y hx hy hxy hpy
    rw [beq_iff_eq] at hpy ⊢
    have h2 := two x hx
    rw [hcast, preI_pre _ _ (by omega)] at hpy h2 ⊢
    have := pre_mono hxy (D + 1)
    omega
  · have hPN : (PN : Int) < 2 ^ D := by have := h.p1; simpa using this
    have hp2 : (2 : Int) ^ ((D : Int) + 1).toNat = 2 ^ D * 2 := by
      rw [hcast, Int.toNat_natCast, Int.pow_succ]
    refine ⟨right_some h (fun x hx => ?_) (hS.filter _) (List.length_filter_le _ _) (by omega) (by omega) (by omega) (by rw [hp2]; omega), right_some h (fun x hx => ?_) (hS.filter _) (List.length_filter_le _ _) (by omega) (by omega) (by omega) (by rw [hp2]; omega)⟩
    · obtain ⟨h1, h2⟩ := List.mem_filter.1 hx
      exact ⟨h1, beq_iff_eq.1 h2⟩
    · obtain ⟨h1, h2⟩ := List.mem_filter.1 hx
      refine ⟨h1, ?_⟩
      have := two x h1
      simp at h2
      omega
end Go.Proofs.Ytpihncafmjbccaa

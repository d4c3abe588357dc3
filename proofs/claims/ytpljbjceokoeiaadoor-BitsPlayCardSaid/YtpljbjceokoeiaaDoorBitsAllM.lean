/-
  Plain mathematics of BitsAll: how many are taken; a row of yes and no beside a set.
  Conditions: none.
-/
import Derived.Test.YtpljbjceokoeiaaDoorBits4
import Derived.Test.YtpljbjceokoeiaaDoorTakenMath
namespace Go.Proofs.YtpljbjceokoeiaaDoor
open Go.RowKit

theorem countP_put (f g : Nat → Bool) (i : Nat) (hf : f i = false) (hg : ∀ j, g j = (f j || decide (j = i))) : ∀ n, (List.range n).countP g = (List.range n).countP f + if i < n then 1 else 0
  | 0 => by simp
  | n + 1 => by
    rw [List.range_succ, List.countP_append, List.countP_append, countP_put f g i hf hg n]
    simp only [List.countP_singleton]
    rw [hg n]
    by_cases h : n = i
    · subst h
      simp [hf]
    · have h1 : (i < n + 1) = (i < n) := by apply propext; omega
      simp [h, h1]
      omega
theorem cnt_mark {s : BSet} (h : s.Ok) {i : Nat} (hi : i < s.n) (hno : s.has i = false) : (s.mark i).cnt = s.cnt + 1 := by
  have := countP_put s.has (s.mark i).has i hno (fun j => has_mark s i j (h.div hi)) s.n
  rw [if_pos hi] at this
  exact this
theorem next_full {s : BSet} (hh : s.hand < s.n) (h : ¬ s.next < s.n) : ∀ k, k < s.n → s.has k = true := by
  have hle := next_le s hh
  have he : s.next = s.n := by omega
  have hx : s.free s.hand = s.n := by
    unfold BSet.next at he
    split at he
    · assumption
    · exact he
  have h0 : s.free 0 = s.n := by rw [← he]; unfold BSet.next; rw [if_pos hx]
  intro k hk
  exact (free_is s 0 (by omega)).2.1 k (Nat.zero_le _) (by omega)
theorem cnt_full {s : BSet} (h : ∀ k, k < s.n → s.has k = true) : s.cnt = s.n := by
  unfold BSet.cnt
  have : (List.range s.n).countP s.has = (List.range s.n).length := by
    rw [List.countP_eq_length]
    intro k hk
    exact h k (List.mem_range.1 hk)
  rw [this, List.length_range]
theorem full_cnt {s : BSet} (h : s.cnt = s.n) : ∀ k, k < s.n → s.has k = true := by
  unfold BSet.cnt at h
  have : (List.range s.n).countP s.has = (List.range s.n).length := by rw [h, List.length_range]
  rw [List.countP_eq_length] at this
  intro k hk
  exact this k (List.mem_range.2 hk)
/-- What the row says is what the set holds. -/
structure UsedIs (many : Nat) (s : BSet) (L : List Bool) : Prop where
  n : s.n = many
  ok : s.Ok
  len : L.length = many
  eq : ∀ k, k < many → L[k]?.getD false = s.has k
theorem used_new (many : Nat) (hm : 1 ≤ many ∧ many ≤ 65536) : UsedIs many (BSet.new many) (List.replicate many false) :=
  ⟨rfl, ok_new hm, by simp, fun k hk => by rw [has_new]; simp [hk]⟩
theorem cnt_new (many : Nat) : (BSet.new many).cnt = 0 := by
  unfold BSet.cnt
  rw [List.countP_eq_zero]
  intro a _
  rw [has_new]; simp
theorem UsedIs.mark {many : Nat} {s : BSet} {L : List Bool} (h : UsedIs many s L) {i : Nat} (hi : i < many) (hand : Nat) (hh : hand < many) : UsedIs many { s.mark i with hand := hand } (L.set i true) := by
  have hi' : i < s.n := by rw [h.n]; exact hi
  have ho := ok_mark h.ok hi'
  refine ⟨h.n, ⟨ho.n1, ho.n2, by show hand < s.n; rw [h.n]; exact hh, ho.len, ho.above⟩, by rw [List.length_set]; exact h.len, fun k hk => ?_⟩
  show _ = (s.mark i).has k
  rw [has_mark s i k (h.ok.div hi'), ← h.eq k hk, List.getElem?_set]
  by_cases e : i = k
  · subst e
    have : i < L.length := by rw [h.len]; exact hi
    simp [this]
  · have e' : ¬ k = i := fun h => e h.symm
    simp [e, e']
/-- Behind the mark of a number that is free. -/
theorem UsedIs.marked {many : Nat} {s : BSet} {L : List Bool} (h : UsedIs many s L) {x : Int} (hf : s.freeB x = true) : ∃ i : Nat, x = (i : Int) ∧ i < many ∧ s.markI x = s.mark i ∧ UsedIs many (s.mark i) (L.set i true) ∧ (s.mark i).cnt = s.cnt + 1 := by
  have hf0 := hf
  unfold BSet.freeB inB at hf0
  rw [Bool.and_eq_true] at hf0
  obtain ⟨h1, h2⟩ := hf0
  have h1 : 0 ≤ x ∧ x < s.n := by simpa using h1
  obtain ⟨i, rfl⟩ := Int.eq_ofNat_of_zero_le h1.1
  have hi : i < s.n := by omega
  have hno : s.has i = false := by simpa using h2
  refine ⟨i, rfl, by rw [← h.n]; exact hi, by unfold BSet.markI; rw [if_pos hf]; rfl, ?_, cnt_mark h.ok hi hno⟩
  have := h.mark (i := i) (by rw [← h.n]; exact hi) s.hand (by rw [← h.n]; exact h.ok.hand)
  exact this
/-- Behind a number that is taken. -/
theorem UsedIs.took {many : Nat} {s : BSet} {L : List Bool} (h : UsedIs many s L) (hl : s.cnt < many) : ∃ i : Nat, i < many ∧ takeRes s.n s.next = .tuple #[.int .i64 i, .bool true] ∧ L[i]?.getD false = false ∧ UsedIs many s.take (L.set i true) ∧ s.take.cnt = s.cnt + 1 := by
  have hlt : s.next < s.n := by
    refine Classical.byContradiction fun hn => ?_
    have := cnt_full (next_full h.ok.hand hn)
    rw [h.n] at this
    omega
  have hno := next_free s h.ok.hand hlt
  have hm : s.next < many := by rw [← h.n]; exact hlt
  have e : s.take = { s.mark s.next with hand := (s.next + 1) % s.n } := by unfold BSet.take; rw [if_pos hlt]
  refine ⟨s.next, hm, by unfold takeRes; rw [if_pos hlt], by rw [h.eq _ hm]; exact hno, ?_, ?_⟩
  · rw [e]
    exact h.mark hm _ (by rw [← h.n]; exact Nat.mod_lt _ h.ok.n1)
  · rw [e]
    exact cnt_mark h.ok hlt hno
/-- All are taken. -/
theorem UsedIs.full {many : Nat} {s : BSet} {L : List Bool} (h : UsedIs many s L) (hl : s.cnt = many) : takeRes s.n s.next = .tuple #[.int .i64 0, .bool false] ∧ s.take = s ∧ s.all.length = many := by
  have hf := full_cnt (s := s) (by rw [h.n]; exact hl)
  have hn : ¬ s.next < s.n := fun hlt => by
    have := next_free s h.ok.hand hlt
    rw [hf _ hlt] at this
    cases this
  exact ⟨by unfold takeRes; rw [if_neg hn], by unfold BSet.take; rw [if_neg hn], by rw [all_length]; exact hl⟩
/-- One is freed, and comes again. -/
theorem UsedIs.again {many : Nat} {s : BSet} {L : List Bool} (h : UsedIs many s L) (hl : s.cnt = many) {k : Nat} (hk : k < many) :
    s.hasB (k : Int) = true ∧ s.clearI (k : Int) = s.clear k ∧ (s.clear k).hasB (k : Int) = false ∧ (s.clear k).clearI (k : Int) = s.clear k ∧ takeRes (s.clear k).n (s.clear k).next = .tuple #[.int .i64 k, .bool true] := by
  have hks : k < s.n := by rw [h.n]; exact hk
  have hf := full_cnt (s := s) (by rw [h.n]; exact hl)
  have hb : s.hasB (k : Int) = true := by unfold BSet.hasB inB; simp [hks, hf k hks]
  have hc := has_clear s k
  have hno : (s.clear k).has k = false := by rw [hc k (h.ok.div hks)]; simp
  have hb2 : (s.clear k).hasB (k : Int) = false := by unfold BSet.hasB; simp [hno]
  have hh : (s.clear k).hand < (s.clear k).n := h.ok.hand
  have hlt : (s.clear k).next < (s.clear k).n := by
    refine Classical.byContradiction fun hn => ?_
    have := next_full hh hn k hks
    rw [hno] at this
    cases this
  have hnf := next_free (s.clear k) hh hlt
  have hnk : (s.clear k).next = k := by
    refine Classical.byContradiction fun hne => ?_
    rw [hc _ (h.ok.div hks), hf _ hlt] at hnf
    simp [hne] at hnf
  refine ⟨hb, by unfold BSet.clearI; rw [if_pos hb]; rfl, hb2, by unfold BSet.clearI; rw [if_neg (by simp [hb2])], ?_⟩
  unfold takeRes
  rw [if_pos hlt, hnk]
end Go.Proofs.YtpljbjceokoeiaaDoor

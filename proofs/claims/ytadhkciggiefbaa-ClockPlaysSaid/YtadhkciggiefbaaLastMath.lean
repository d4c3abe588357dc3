/-
  A clock's hand and the place that was filled last.
  Conditions: none.
-/
import Derived.Test.YtadhkciggiefbaaClock6
namespace Go.Proofs.Ytadhkciggiefbaa
open Go.RowKit

theorem pF_set {ps : List Pl} {i : Nat} (hi : i < ps.length) (q : Pl) (j : Nat) : pF (ps.set i q) j = if i = j then q.full else pF ps j := by
  unfold pF
  rw [List.getElem?_set]
  by_cases h : i = j
  · rw [if_pos h, if_pos h, if_pos hi]; rfl
  · rw [if_neg h, if_neg h]
theorem pM_set {ps : List Pl} {i : Nat} (hi : i < ps.length) (q : Pl) (j : Nat) : pM (ps.set i q) j = if i = j then q.marked else pM ps j := by
  unfold pM
  rw [List.getElem?_set]
  by_cases h : i = j
  · rw [if_pos h, if_pos h, if_pos hi]; rfl
  · rw [if_neg h, if_neg h]
theorem pK_set {ps : List Pl} {i : Nat} (hi : i < ps.length) (q : Pl) (j : Nat) : pK (ps.set i q) j = if i = j then q.key else pK ps j := by
  unfold pK
  rw [List.getElem?_set]
  by_cases h : i = j
  · rw [if_pos h, if_pos h, if_pos hi]; rfl
  · rw [if_neg h, if_neg h]
theorem p_get {ps : List Pl} {i : Nat} (hi : i < ps.length) : ∃ p, ps[i]? = some p ∧ p.full = pF ps i ∧ p.key = pK ps i ∧ p.marked = pM ps i := by
  refine ⟨ps[i], List.getElem?_eq_getElem hi, ?_, ?_, ?_⟩ <;> simp [pF, pK, pM, List.getElem?_eq_getElem hi]
theorem p_of {ps : List Pl} {i : Nat} {p : Pl} (h : ps[i]? = some p) : pF ps i = p.full ∧ pK ps i = p.key ∧ pM ps i = p.marked := by
  simp [pF, pK, pM, h]
/-- Where the hand stands behind k steps. -/
def stepAt (n h k : Nat) : Nat := if h + k < n then h + k else h + k - n
theorem step_next {n h k : Nat} (hh : h < n) (hk : k < n) : (stepAt n h k + 1) % n = stepAt n h (k + 1) := by
  unfold stepAt
  by_cases h1 : h + k < n
  · rw [if_pos h1]
    by_cases h2 : h + (k + 1) < n
    · rw [if_pos h2, Nat.mod_eq_of_lt (by omega)]; omega
    · rw [if_neg h2]
      have : h + k + 1 = n := by omega
      rw [this, Nat.mod_self]; omega
  · rw [if_neg h1, if_neg (by omega), Nat.mod_eq_of_lt (by omega)]; omega
/-- A hand that sets out from h never stops at a place that is marked, unless it is h itself. -/
theorem swp_ne {n h e ke : Nat} (hh : h < n) (hke : stepAt n h ke = e) (hk1 : 1 ≤ ke) (hk2 : ke < n) : ∀ (f k : Nat) (ps : List Pl), f + k = n + 1 → k ≤ n → ps.length = n → (k ≤ ke → pM ps e = true) → (1 ≤ k → pM ps h = false) → (swp f ps (stepAt n h k)).2 ≠ e
  | 0, k, ps, hf, hk, _, _, _ => by omega
  | f + 1, k, ps, hf, hk, hl, h1, h2 => by
    have hst : stepAt n h k < n := by unfold stepAt; split <;> omega
    unfold swp
    have hm : (ps[stepAt n h k]?.getD default).marked = pM ps (stepAt n h k) := rfl
    rw [hm]
    cases hmk : pM ps (stepAt n h k) with
    | true =>
      rw [if_pos rfl]
      have hkn : k < n := by
        rcases Nat.lt_or_ge k n with h3 | h3
        · exact h3
        · have e3 : stepAt n h k = h := by unfold stepAt; rw [if_neg (by omega)]; omega
          rw [e3, h2 (by omega)] at hmk
          cases hmk
      rw [hl, step_next hh hkn]
      refine swp_ne hh hke hk1 hk2 f (k + 1) _ (by omega) (by omega) (by rw [List.length_set]; exact hl) ?_ ?_
      · intro hle
        rw [pM_set (by omega), if_neg]
        · exact h1 (by omega)
        · rw [← hke]
          unfold stepAt
          split <;> split <;> omega
      · intro _
        rw [pM_set (by omega)]
        by_cases e4 : stepAt n h k = h
        · rw [if_pos e4]
        · rw [if_neg e4]
          refine h2 ?_
          rcases Nat.eq_zero_or_pos k with h5 | h5
          · subst h5
            exact absurd (by unfold stepAt; rw [if_pos (by omega)]; omega) e4
          · exact h5
    | false =>
      rw [if_neg (by decide)]
      show stepAt n h k ≠ e
      intro he
      rcases Nat.lt_or_ge ke k with h3 | h3
      · rw [← hke] at he
        unfold stepAt at he
        split at he <;> split at he <;> omega
      · rw [he, h1 h3] at hmk
        cases hmk
theorem goes_ne {s : Ck} (hok : s.Ok) {e : Nat} (he : e < s.ps.length) (hm : pM s.ps e = true) (hne : e ≠ s.hand) : s.goes ≠ e := by
  have hh := hok.hand
  have h0 : stepAt s.ps.length s.hand 0 = s.hand := by unfold stepAt; rw [if_pos (by omega)]; omega
  have := swp_ne (n := s.ps.length) (h := s.hand) (e := e) (ke := if s.hand < e then e - s.hand else s.ps.length + e - s.hand) hh (by unfold stepAt; split <;> split <;> omega) (by split <;> omega) (by split <;> omega) (s.ps.length + 1) 0 s.ps (by omega) (by omega) rfl (fun _ => hm) (by omega)
  rw [h0] at this
  exact this
/-- What holds at a round's head: no number of 901 or more, and the last empty place isn't the hand's. -/
structure Ck.Last (s : Ck) : Prop where
  two : 2 ≤ s.ps.length
  keys : ∀ i, i < s.ps.length → pF s.ps i = true → pK s.ps i < 901
  gap : ∃ e, e < s.ps.length ∧ pF s.ps e = false ∧ e ≠ s.hand ∧ ∀ i, e < i → i < s.ps.length → pF s.ps i = true
/-- Two clocks with the same full places, the same numbers and hand. -/
theorem Ck.Last.like {s t : Ck} (h : s.Last) (hl : t.ps.length = s.ps.length) (hh : t.hand = s.hand) (hf : ∀ i, i < s.ps.length → pF t.ps i = pF s.ps i) (hk : ∀ i, i < s.ps.length → pF s.ps i = true → pK t.ps i = pK s.ps i) : t.Last := by
  obtain ⟨e, e1, e2, e3, e4⟩ := h.gap
  refine ⟨by rw [hl]; exact h.two, ?_, e, by rw [hl]; exact e1, by rw [hf e e1]; exact e2, by rw [hh]; exact e3, ?_⟩
  · intro i hi hfi
    rw [hl] at hi
    rw [hf i hi] at hfi
    rw [hk i hi hfi]
    exact h.keys i hi hfi
  · intro i h1 h2
    rw [hl] at h2
    rw [hf i h2]
    exact e4 i h1 h2
theorem last_new (z : Value) {n : Nat} (hn : 2 ≤ n) : (Ck.new z n).Last := by
  have hp : ∀ i, pF (Ck.new z n).ps i = false := by
    intro i
    unfold pF Ck.new
    rcases Nat.lt_or_ge i n with h | h
    · simp [h, Pl.zero]
    · simp [Nat.not_lt.2 h]; rfl
  have hl : (Ck.new z n).ps.length = n := by simp [Ck.new]
  refine ⟨by omega, fun i _ h => (by rw [hp i] at h; cases h), n - 1, by omega, hp _, ?_, fun i h1 h2 => by omega⟩
  show n - 1 ≠ 0
  omega
theorem at_p {s : Ck} {key : Int} {i : Nat} (h : s.at key = some i) : i < s.ps.length ∧ pF s.ps i = true ∧ pK s.ps i = key := by
  obtain ⟨p, hp, hf, hk⟩ := at_some h
  obtain ⟨e1, e2, _⟩ := p_of hp
  exact ⟨at_lt h, by rw [e1]; exact hf, by rw [e2]; exact hk⟩
theorem at_here {s : Ck} (hok : s.Ok) {key : Int} {i : Nat} (hi : i < s.ps.length) (hf : pF s.ps i = true) (hk : pK s.ps i = key) : s.at key = some i := by
  obtain ⟨p, hp, e1, e2, _⟩ := p_get hi
  exact at_is hok.uniq hp (by rw [e1]; exact hf) (by rw [e2]; exact hk)
theorem at_gone {s : Ck} {key : Int} (h : ∀ i, i < s.ps.length → pF s.ps i = true → pK s.ps i ≠ key) : s.at key = none := by
  refine at_not fun i p hp hf => ?_
  obtain ⟨e1, e2, _⟩ := p_of hp
  rw [← e2]
  exact h i (List.getElem?_eq_some_iff.1 hp).1 (by rw [e1]; exact hf)
theorem last_got {s : Ck} (h : s.Last) (key : Int) : (s.got key).Last := by
  unfold Ck.got
  cases hat : s.at key with
  | none => exact h
  | some i =>
    obtain ⟨hi, hf, hk⟩ := at_p hat
    refine h.like (by simp [Ck.setP]) rfl (fun j _ => ?_) (fun j _ _ => ?_)
    · show pF (s.ps.set i _) j = _
      rw [pF_set hi]
      split
      · next e => subst e; rfl
      · rfl
    · show pK (s.ps.set i _) j = _
      rw [pK_set hi]
      split
      · next e => subst e; rfl
      · rfl
theorem full_p {ps : List Pl} (h : ps.findIdx? (fun p => !p.full) = none) {i : Nat} (hi : i < ps.length) : pF ps i = true := by
  obtain ⟨p, hp, e1, _⟩ := p_get hi
  rw [← e1]
  exact full_none h p (List.mem_of_getElem? hp)
theorem some_p {ps : List Pl} {i : Nat} (h : ps.findIdx? (fun p => !p.full) = some i) : i < ps.length ∧ pF ps i = false ∧ ∀ j, j < i → pF ps j = true := by
  obtain ⟨hlt, hp, hj⟩ := List.findIdx?_eq_some_iff_getElem.1 h
  refine ⟨hlt, ?_, fun j hji => ?_⟩
  · simp [pF, List.getElem?_eq_getElem hlt]; simpa using hp
  · have := hj j hji
    simp [pF, List.getElem?_eq_getElem (Nat.lt_trans hji hlt)]; simpa using this
/-- What stands behind a put of a number below 901 at a round's head: an empty place is left, or all are full and its own is marked and not the hand's. -/
structure Ck.Mid (s : Ck) (key : Int) : Prop where
  two : 2 ≤ s.ps.length
  keys : ∀ i, i < s.ps.length → pF s.ps i = true → pK s.ps i < 901
  gap : s.Last ∨ ((∀ i, i < s.ps.length → pF s.ps i = true) ∧ ∃ i, i < s.ps.length ∧ pK s.ps i = key ∧ pM s.ps i = true ∧ i ≠ s.hand)
theorem mid_put (z : Value) {s : Ck} (h : s.Last) {key : Int} (hk : key < 901) (v : Value) : (s.put z key v).Mid key ∧ s.told z key = .tuple #[.int .i64 0, z, .bool false] := by
  obtain ⟨e, e1, e2, e3, e4⟩ := h.gap
  unfold Ck.put Ck.told
  cases hat : s.at key with
  | some i =>
    obtain ⟨hi, hf, hki⟩ := at_p hat
    have hL : (s.setP i ⟨true, true, key, v⟩).Last := by
      refine h.like (by simp [Ck.setP]) rfl (fun j _ => ?_) (fun j _ _ => ?_)
      · show pF (s.ps.set i _) j = _
        rw [pF_set hi]
        split
        · next e => subst e; exact hf.symm
        · rfl
      · show pK (s.ps.set i _) j = _
        rw [pK_set hi]
        split
        · next e => subst e; exact hki.symm
        · rfl
    exact ⟨⟨hL.two, hL.keys, .inl hL⟩, rfl⟩
  | none =>
    cases hx : s.ps.findIdx? (fun p => !p.full) with
    | none =>
      have := full_p hx e1
      rw [e2] at this
      cases this
    | some i =>
      obtain ⟨hi, hf, hb⟩ := some_p hx
      refine ⟨?_, rfl⟩
      show (s.fill i key v).Mid key
      have hF : ∀ j, pF (s.fill i key v).ps j = if i = j then true else pF s.ps j := fun j => pF_set hi _ j
      have hK : ∀ j, pK (s.fill i key v).ps j = if i = j then key else pK s.ps j := fun j => pK_set hi _ j
      have hM : ∀ j, pM (s.fill i key v).ps j = if i = j then true else pM s.ps j := fun j => pM_set hi _ j
      have hl : (s.fill i key v).ps.length = s.ps.length := by simp [Ck.fill]
      have hkeys : ∀ j, j < (s.fill i key v).ps.length → pF (s.fill i key v).ps j = true → pK (s.fill i key v).ps j < 901 := by
        intro j hj hfj
        rw [hl] at hj
        rw [hF] at hfj
        rw [hK]
        split
        · exact hk
        · next ne => rw [if_neg ne] at hfj; exact h.keys j hj hfj
      have hie : i ≤ e := by
        rcases Nat.lt_or_ge e i with h5 | h5
        · rw [hb e h5] at e2; cases e2
        · exact h5
      refine ⟨by rw [hl]; exact h.two, hkeys, ?_⟩
      by_cases hei : i = e
      · subst hei
        refine .inr ⟨fun j hj => ?_, i, by rw [hl]; exact hi, by rw [hK, if_pos rfl], by rw [hM, if_pos rfl], e3⟩
        rw [hF]
        split
        · rfl
        · next ne =>
          rcases Nat.lt_or_ge i j with h5 | h5
          · exact e4 j h5 (by rw [hl] at hj; exact hj)
          · exact hb j (by omega)
      · refine .inl ⟨by rw [hl]; exact h.two, hkeys, e, by rw [hl]; exact e1, by rw [hF, if_neg hei]; exact e2, e3, fun j h1 h2 => ?_⟩
        rw [hF]
        split
        · rfl
        · exact e4 j h1 (by rw [hl] at h2; exact h2)
/-- The next number of 901 or more, put and taken out again. -/
theorem last_round (z : Value) {s : Ck} (hok : s.Ok) {key T : Int} (h : s.Mid key) (hT : 901 ≤ T) (v : Value) :
    ((s.put z T v).Ok → ((s.put z T v).dropped z T).Last) ∧ ∃ (gone : Int) (was : Value) (went : Bool), s.told z T = .tuple #[.int .i64 gone, was, .bool went] ∧ (went = true → gone ≠ key) := by
  have hno : s.at T = none := at_gone fun i hi hf hk => by have := h.keys i hi hf; omega
  unfold Ck.put Ck.told
  rw [hno]
  cases hx : s.ps.findIdx? (fun p => !p.full) with
  | some i =>
    obtain ⟨hi, hf, _⟩ := some_p hx
    refine ⟨fun hok2 => ?_, 0, z, false, rfl, fun h => (by cases h)⟩
    have hL : s.Last := by
      rcases h.gap with h5 | ⟨h5, _⟩
      · exact h5
      · rw [h5 i hi] at hf; cases hf
    show ((s.fill i T v).dropped z T).Last
    have hat : (s.fill i T v).at T = some i := at_here hok2 (by show i < (s.ps.set i _).length; rw [List.length_set]; exact hi) (by show pF (s.ps.set i _) i = true; rw [pF_set hi, if_pos rfl]) (by show pK (s.ps.set i _) i = T; rw [pK_set hi, if_pos rfl])
    unfold Ck.dropped
    rw [hat]
    have hi2 : i < (s.ps.set i ⟨true, true, T, v⟩).length := by rw [List.length_set]; exact hi
    refine hL.like (by show ((s.ps.set i _).set i _).length = _; simp) rfl (fun j hj => ?_) (fun j hj hfj => ?_)
    · show pF ((s.ps.set i _).set i (Pl.zero z)) j = _
      rw [pF_set hi2, pF_set hi]
      split
      · next e => subst e; exact hf.symm
      · rfl
    · show pK ((s.ps.set i _).set i (Pl.zero z)) j = _
      rw [pK_set hi2, pK_set hi]
      split
      · next e => subst e; rw [hf] at hfj; cases hfj
      · rfl
  | none =>
    have hfull : ∀ i, i < s.ps.length → pF s.ps i = true := fun i hi => full_p hx hi
    obtain ⟨i, hi, hki, hmi, hni⟩ : ∃ i, i < s.ps.length ∧ pK s.ps i = key ∧ pM s.ps i = true ∧ i ≠ s.hand := by
      rcases h.gap with h5 | ⟨_, h5⟩
      · obtain ⟨e, e1, e2, _⟩ := h5.gap
        rw [hfull e e1] at e2; cases e2
      · exact h5
    have hgo := goes_ne hok hi hmi hni
    have hgl : s.goes < s.ps.length := swp_lt _ _ _ hok.hand
    have hsl : s.swept.ps.length = s.ps.length := swp_len _ _ _
    have hsg : ∀ j, j < s.ps.length → pF s.swept.ps j = true ∧ pK s.swept.ps j = pK s.ps j := by
      intro j hj
      obtain ⟨p, hp, f1, k1, _⟩ := p_get (ps := s.swept.ps) (i := j) (by omega)
      obtain ⟨q, hq, f2, k2, _⟩ := swp_get _ _ _ j p hp
      obtain ⟨f3, k3, _⟩ := p_of hq
      have := hfull j hj
      exact ⟨by rw [← f1, f2, ← f3]; exact this, by rw [← k1, k2, ← k3]⟩
    refine ⟨fun hok2 => ?_, _, _, true, rfl, fun _ he => ?_⟩
    · have hok2 : ((s.swept.empty z s.goes (s.swept.ps[s.goes]?.getD default).key).fill s.goes T v).Ok := hok2
      show (((s.swept.empty z s.goes (s.swept.ps[s.goes]?.getD default).key).fill s.goes T v).dropped z T).Last
      have l1 : s.goes < s.swept.ps.length := by omega
      have l2 : s.goes < (s.swept.ps.set s.goes (Pl.zero z)).length := by rw [List.length_set]; exact l1
      have l3 : s.goes < ((s.swept.ps.set s.goes (Pl.zero z)).set s.goes ⟨true, true, T, v⟩).length := by rw [List.length_set]; exact l2
      have hat : ((s.swept.empty z s.goes (s.swept.ps[s.goes]?.getD default).key).fill s.goes T v).at T = some s.goes :=
        at_here hok2 l3 (by show pF ((s.swept.ps.set s.goes _).set s.goes _) s.goes = true; rw [pF_set l2, if_pos rfl]) (by show pK ((s.swept.ps.set s.goes _).set s.goes _) s.goes = T; rw [pK_set l2, if_pos rfl])
      unfold Ck.dropped
      rw [hat]
      have hF : ∀ j, pF (((s.swept.ps.set s.goes (Pl.zero z)).set s.goes ⟨true, true, T, v⟩).set s.goes (Pl.zero z)) j = if s.goes = j then false else pF s.swept.ps j := by
        intro j
        rw [pF_set l3, pF_set l2, pF_set l1]
        split <;> rfl
      have hK : ∀ j, s.goes ≠ j → pK (((s.swept.ps.set s.goes (Pl.zero z)).set s.goes ⟨true, true, T, v⟩).set s.goes (Pl.zero z)) j = pK s.swept.ps j := by
        intro j hj
        rw [pK_set l3, pK_set l2, pK_set l1, if_neg hj, if_neg hj, if_neg hj]
      have hl4 : (((s.swept.ps.set s.goes (Pl.zero z)).set s.goes ⟨true, true, T, v⟩).set s.goes (Pl.zero z)).length = s.ps.length := by rw [List.length_set, List.length_set, List.length_set, hsl]
      have htwo := h.two
      have goal : ∀ t : Ck, t.ps = ((s.swept.ps.set s.goes (Pl.zero z)).set s.goes ⟨true, true, T, v⟩).set s.goes (Pl.zero z) → t.hand = (s.goes + 1) % s.ps.length → t.Last := by
        rintro ⟨ps, hand, m⟩ e1 e2
        simp only at e1 e2
        subst e1 e2
        refine ⟨by rw [hl4]; exact htwo, ?_, s.goes, by rw [hl4]; exact hgl, by rw [hF, if_pos rfl], ?_, ?_⟩
        · intro j hj hfj
          rw [hl4] at hj
          rw [hF] at hfj
          by_cases e : s.goes = j
          · rw [if_pos e] at hfj; cases hfj
          · rw [hK j e, (hsg j hj).2]
            exact h.keys j hj (hfull j hj)
        · show s.goes ≠ (s.goes + 1) % s.ps.length
          by_cases e : s.goes + 1 < s.ps.length
          · rw [Nat.mod_eq_of_lt e]; omega
          · have e5 : s.goes + 1 = s.ps.length := by omega
            rw [e5, Nat.mod_self]; omega
        · intro j h1 h2
          rw [hl4] at h2
          rw [hF, if_neg (by omega)]
          exact (hsg j h2).1
      exact goal _ rfl rfl
    · have h7 : pK s.ps s.goes = key := by rw [← (hsg s.goes hgl).2]; exact he
      have a1 := at_here hok hgl (hfull _ hgl) h7
      have a2 := at_here hok hi (hfull _ hi) hki
      rw [a1] at a2
      exact hgo (Option.some.inj a2)
end Go.Proofs.Ytadhkciggiefbaa

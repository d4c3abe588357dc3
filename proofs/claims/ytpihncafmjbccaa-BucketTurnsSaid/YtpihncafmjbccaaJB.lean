/-
  Joined: Bkt24, Bkt25, Bkt26.
  Conditions: none.
-/
import Derived.Test.YtpihncafmjbccaaBkt23
namespace Go.Proofs.Ytpihncafmjbccaa

/-- In order. -/
def Asc (es : List Ent) : Prop := ∀ i j, i < j → j < es.length → U (es[i]?.getD default).hash < U (es[j]?.getD default).hash
theorem asc_of {es : List Ent} (h : ∀ i, i + 1 < es.length → U (es[i]?.getD default).hash < U (es[i + 1]?.getD default).hash) : Asc es := by
  intro i j
  induction j with
  | zero => intro h0; omega
  | succ j ih =>
    intro hij hj
    by_cases he : i = j
    · subst he; exact h i hj
    · exact Int.lt_trans (ih (by omega) (by omega)) (h j hj)
theorem Right14.asc {d p s : Int} {es : List Ent} (h : Right14 d p s es) : Asc es := asc_of fun i hi => by
  have := (h.all (i + 1) hi).ord (Nat.succ_pos i)
  rwa [Nat.add_sub_cancel] at this
theorem putE_mid (y : Ent) (xs ms ys : List Ent) (h1 : ∀ x ∈ xs, U x.hash < U y.hash) (h2 : ∀ x ∈ ms, x.hash = y.hash) (h3 : ∀ x ∈ ys, U y.hash < U x.hash) : putE y (xs ++ ms ++ ys) = xs ++ [y] ++ ys := by
  have ne1 : ∀ x ∈ xs, ¬ x.hash = y.hash := fun x hx e => by have := h1 x hx; rw [e] at this; omega
  have ne3 : ∀ x ∈ ys, ¬ x.hash = y.hash := fun x hx e => by have := h3 x hx; rw [e] at this; omega
  have f0 : (xs ++ ms ++ ys).filter (fun x => !decide (x.hash = y.hash)) = xs ++ ys := by
    rw [List.filter_append, List.filter_append, List.filter_eq_self.2 (fun x hx => by simp [ne1 x hx]), List.filter_eq_nil_iff.2 (fun x hx => by simp [h2 x hx]), List.filter_eq_self.2 (fun x hx => by simp [ne3 x hx])]
    simp
  unfold putE
  rw [f0, List.filter_append, List.filter_append, List.filter_eq_self.2 (fun x hx => by simp [h1 x hx]), List.filter_eq_nil_iff.2 (fun x hx => by have := h3 x hx; simp; omega), List.filter_eq_nil_iff.2 (fun x hx => by have := h1 x hx; simp; omega), List.filter_eq_self.2 (fun x hx => by have := h3 x hx; simp; omega)]
  simp
theorem getD_of {es : List Ent} {i : Nat} (h : i < es.length) : es[i]?.getD default = es[i] := by rw [List.getElem?_eq_getElem h]; rfl
theorem putE_set {y : Ent} {es : List Ent} (hs : Asc es) {i : Nat} (hi : i < es.length) (he : (es[i]?.getD default).hash = y.hash) : putE y es = es.take i ++ [y] ++ es.drop (i + 1) := by
  have h := putE_mid y (es.take i) [es[i]] (es.drop (i + 1)) (fun x hx => by
    obtain ⟨j, hj, rfl⟩ := List.mem_iff_getElem.1 hx
    rw [List.length_take] at hj
    rw [List.getElem_take, ← getD_of (by omega), ← he]
    exact hs j i (by omega) hi) (fun x hx => by
    rw [List.mem_singleton] at hx
    rw [hx, ← getD_of hi]
    exact he) (fun x hx => by
    obtain ⟨j, hj, rfl⟩ := List.mem_iff_getElem.1 hx
    rw [List.length_drop] at hj
    rw [List.getElem_drop, ← getD_of (by omega), ← he]
    exact hs i _ (by omega) (by omega))
  rw [List.append_assoc, List.singleton_append, List.getElem_cons_drop, List.take_append_drop] at h
  exact h
theorem putE_ins {y : Ent} {es : List Ent} (hs : Asc es) {k : Nat} (hk : k ≤ es.length) (h1 : ∀ i, i < k → U (es[i]?.getD default).hash < U y.hash) (h2 : k < es.length → U y.hash < U (es[k]?.getD default).hash) : putE y es = es.take k ++ [y] ++ es.drop k := by
  have h := putE_mid y (es.take k) [] (es.drop k) (fun x hx => by
    obtain ⟨j, hj, rfl⟩ := List.mem_iff_getElem.1 hx
    rw [List.length_take] at hj
    rw [List.getElem_take, ← getD_of (by omega)]
    exact h1 j (by omega)) (fun x hx => by simp at hx) (fun x hx => by
    obtain ⟨j, hj, rfl⟩ := List.mem_iff_getElem.1 hx
    rw [List.length_drop] at hj
    rw [List.getElem_drop, ← getD_of (by omega)]
    have h3 := h2 (by omega)
    by_cases h0 : j = 0
    · subst h0; exact h3
    · exact Int.lt_trans h3 (hs k _ (by omega) (by omega)))
  rw [List.append_nil, List.take_append_drop] at h
  exact h
theorem putE_len (y : Ent) (es : List Ent) : (putE y es).length ≤ es.length + 1 := by
  unfold putE
  have h0 := List.length_filter_le (fun x : Ent => !decide (x.hash = y.hash)) es
  generalize (es.filter fun x => !decide (x.hash = y.hash)) = l at h0
  have h1 : ∀ l : List Ent, (l.filter fun x => decide (U x.hash < U y.hash)).length + (l.filter fun x => !decide (U x.hash < U y.hash)).length = l.length := fun l => by
    induction l with
    | nil => rfl
    | cons x l ih =>
      by_cases h : U x.hash < U y.hash
      · simp [h] at ih ⊢; omega
      · simp [h] at ih ⊢; omega
  have := h1 l
  simp only [List.length_append, List.length_singleton]
  omega
end Go.Proofs.Ytpihncafmjbccaa
namespace Go.Proofs.Ytpihncafmjbccaa
open Go.RowKit
attribute [local go_sem] Oper.semAt_some

/-- An owned row of the document's entries. -/
def OwnD (n₀ : Nat) (W : World) (v : Value) (l : List Ent) : Prop := W.ownsRow n₀ 27 4 v l.length (ents l)
theorem OwnD.app {n₀ : Nat} {W' : World} {v' : Value} {l : List Ent} {n : Nat} (hn : n = l.length) (h : W'.ownsRow n₀ 27 4 v' n (ents l)) : OwnD n₀ W' v' l := by
  subst hn; exact h
theorem OwnD.empty (w : World) (base : Nat) (hb : base ≤ w.heap.size) : OwnD base (w.alloc (.cells #[] 27)) (.slice (some ⟨w.heap.size, 0, none⟩) 0 0) [] :=
  World.ownsRow_lit (base := base) (e := 27) (size := 4) w #[] 0 hb (by decide) rfl
theorem run_append_entsD {w : World} (base : Nat) (i0 : TypeInfo) (hi : Try.prog.info? 27 = some i0) (hz0 : i0.zero = some (.agg #[.int .u64 0, .int .i64 0, .int .i64 0, .int .i64 0])) (hz1 : i0.size = 4) (hz2 : i0.bytes = 32)
    (v : Value) (xs : List Ent) (hown : w.ownsRow base 27 4 v xs.length (ents xs)) (u : Value) (n₀ : Nat) (l : List Ent) (hu : EntsAt n₀ w u l) (hnil : ∀ m c, u = .slice none m c → m = 0 ∧ c = 0) (hlen : xs.length + l.length ≤ 1073741824) (hb : base ≤ w.heap.size) :
    ∃ v' w', (Builtin.append_ #[22, 22] 22 #[v, u]).run Try.prog w = .ok v' w' ∧ w'.ownsRow base 27 4 v' (xs ++ l).length (ents (xs ++ l)) ∧ w.grownBy w' v.ownBlock ∧
      (v'.ownBlock = v.ownBlock ∨ v'.ownBlock = some w.heap.size) := by
  have hu0 := hu
  obtain ⟨a, cap, rfl, hl, hu⟩ := hu
  cases a with
  | none =>
    obtain ⟨h0, hc⟩ := hnil _ _ rfl
    subst hc
    have he : l = [] := List.eq_nil_of_length_eq_zero h0
    subst he
    refine ⟨v, w, ?_, by simpa using hown, ⟨rfl, rfl, rfl, Nat.le_refl _, fun _ _ _ => rfl⟩, .inl rfl⟩
    exact run_append_owned_none (P := Try.prog) (w := w) base 22 22 27 i0 4 Try.underlying22 hi v xs.length (ents xs) hown
  | some ad =>
    obtain ⟨v', w', hr, h2, h3, _, h5⟩ := run_append_own_at (P := Try.prog) w base 22 22 27 i0 _ 4 32 Try.underlying22 hi hz0 hz1 hz2 rfl (by decide) v xs.length (ents xs) hown ad l.length cap (ents l)
      (by rw [ents_len]; omega) hu0.news.2 (ents_one l) (by unfold maxLen; omega) (by omega) hb
    exact ⟨v', w', hr, by rw [ents_append, List.length_append]; exact h2, h3, h5⟩
theorem step_append_entsD {w : World} {ops : Array Oper} {o : Oper} {a : Act} {K : Act → World → Prop} {Q : Exit → Act → World → Prop} {E : Prop} (hgd : o.guard = none) (s x : Operand) (hty : o.type = 22)
    (ho : o.op = .call { callee := .builtin .append, args := #[s, x], argTypes := #[22, 22] })
    (base : Nat) (i0 : TypeInfo) (hi : Try.prog.info? 27 = some i0) (hz0 : i0.zero = some (.agg #[.int .u64 0, .int .i64 0, .int .i64 0, .int .i64 0])) (hz1 : i0.size = 4) (hz2 : i0.bytes = 32)
    (v : Value) (hs : a.eval s = v) (xs : List Ent) (hown : w.ownsRow base 27 4 v xs.length (ents xs)) (u : Value) (hx : a.eval x = u) (n₀ : Nat) (l : List Ent) (hu : EntsAt n₀ w u l) (hnil : ∀ m c, u = .slice none m c → m = 0 ∧ c = 0) (hlen : xs.length + l.length ≤ 1073741824) (hb : base ≤ w.heap.size)
    (h : ∀ v' w' n, Hid (n = (xs ++ l).length) → w'.ownsRow base 27 4 v' n (ents (xs ++ l)) → w.grownBy w' v.ownBlock → (v'.ownBlock = v.ownBlock ∨ v'.ownBlock = some w.heap.size) → K (a.put o.dst v') w') :
    if Region.wanted o (yielded ops a.tmps) = true then Oper.wp Try.prog o a w K Q else E := by
  have hw : Region.wanted o (yielded ops a.tmps) = true := by simp [Region.wanted, hgd]
  rw [if_pos hw]
  obtain ⟨v', w', hr, h2, h3, h4⟩ := run_append_entsD (w := w) base i0 hi hz0 hz1 hz2 v xs hown u n₀ l hu hnil hlen hb
  unfold Oper.wp
  simp [execOp, ho, resolve, invoke, builtin, hs, hx, hty, hr, Result.andThen]
  exact h v' w' _ rfl h2 h3 h4
theorem wpList_append_entsD {w : World} {ops : Array Oper} {rest : List Oper} {o : Oper} {a : Act} {Q : Exit → Act → World → Prop} (hgd : o.guard = none) (s x : Operand) (hty : o.type = 22)
    (ho : o.op = .call { callee := .builtin .append, args := #[s, x], argTypes := #[22, 22] })
    (base : Nat) (i0 : TypeInfo) (hi : Try.prog.info? 27 = some i0) (hz0 : i0.zero = some (.agg #[.int .u64 0, .int .i64 0, .int .i64 0, .int .i64 0])) (hz1 : i0.size = 4) (hz2 : i0.bytes = 32)
    (v : Value) (hs : a.eval s = v) (xs : List Ent) (hown : w.ownsRow base 27 4 v xs.length (ents xs)) (u : Value) (hx : a.eval x = u) (n₀ : Nat) (l : List Ent) (hu : EntsAt n₀ w u l) (hnil : ∀ m c, u = .slice none m c → m = 0 ∧ c = 0) (hlen : xs.length + l.length ≤ 1073741824) (hb : base ≤ w.heap.size)
    (h : ∀ v' w' n, Hid (n = (xs ++ l).length) → w'.ownsRow base 27 4 v' n (ents (xs ++ l)) → w.grownBy w' v.ownBlock → (v'.ownBlock = v.ownBlock ∨ v'.ownBlock = some w.heap.size) → wpList Try.prog ops Q rest (a.put o.dst v') w') : wpList Try.prog ops Q (o :: rest) a w := by
  refine wpList_plain hgd fun K hK => ?_
  obtain ⟨v', w', hr, h2, h3, h4⟩ := run_append_entsD (w := w) base i0 hi hz0 hz1 hz2 v xs hown u n₀ l hu hnil hlen hb
  unfold Oper.wp
  simp [execOp, ho, resolve, invoke, builtin, hs, hx, hty, hr, Result.andThen]
  exact hK _ _ (h v' w' _ rfl h2 h3 h4)
end Go.Proofs.Ytpihncafmjbccaa
namespace Go.Proofs.Ytpihncafmjbccaa
open Go.RowKit

theorem EntsAt.take {n : Nat} {w : World} {a : Option Addr} {m c : Nat} {l : List Ent} (h : EntsAt n w (.slice a m c) l) {k : Nat} (hk : k ≤ l.length) : EntsAt n w (.slice a k c) (l.take k) := by
  obtain ⟨a', c', e, hc, h⟩ := h
  cases e
  have hl : (l.take k).length = k := by rw [List.length_take]; omega
  refine ⟨a, c, by rw [hl], by rw [hl]; omega, ?_⟩
  rcases h with h | ⟨g, off, ha, hg, h⟩
  · left; rw [h]; exact List.take_nil
  · right
    refine ⟨g, off, ha, hg, fun i hi => ?_⟩
    rw [hl] at hi
    have := h i (by omega)
    rwa [List.getElem?_take, if_pos hi]
theorem EntsAt.drop {n : Nat} {w : World} {g off m c : Nat} {l : List Ent} (h : EntsAt n w (.slice (some ⟨g, off, none⟩) m c) l) {k : Nat} (hk : k ≤ l.length) : EntsAt n w (.slice (some ⟨g, off + k * 4, none⟩) (l.length - k : Nat) (c - k)) (l.drop k) := by
  obtain ⟨a', c', e, hc, h⟩ := h
  cases e
  have hl : (l.drop k).length = l.length - k := List.length_drop
  refine ⟨_, _, by rw [hl], by rw [hl]; omega, ?_⟩
  rcases h with h | ⟨g', off', ha, hg, h⟩
  · left; rw [h]; exact List.drop_nil
  · cases ha
    right
    refine ⟨g, off + k * 4, rfl, hg, fun i hi => ?_⟩
    rw [hl] at hi
    have := h (k + i) (by omega)
    rw [List.getElem?_drop]
    rwa [Nat.add_mul, ← Nat.add_assoc] at this
end Go.Proofs.Ytpihncafmjbccaa

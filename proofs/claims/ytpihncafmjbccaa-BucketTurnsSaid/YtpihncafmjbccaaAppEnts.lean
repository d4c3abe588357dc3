/-
  An append of entries, whatever the source.
  Conditions: none.
-/
import Derived.Test.YtpihncafmjbccaaBkt7
namespace Go.Proofs.Ytpihncafmjbccaa
open Go.RowKit

theorem EntsAt.news {n : Nat} {w : World} {ad : Addr} {len cap : Nat} {l : List Ent} (h : EntsAt n w (.slice (some ad) len cap) l) :
    len = l.length ∧ ∀ j u, (ents l)[j]? = some u → w.cell? (ad.add j) = some u := by
  obtain ⟨a, c, e, _, h⟩ := h
  cases e
  refine ⟨rfl, fun j u hj => ?_⟩
  have hlt : j < 4 * l.length := by
    have := (List.getElem?_eq_some_iff.1 hj).1
    rwa [ents_len] at this
  rcases h with rfl | ⟨g, off, hg, _, hc⟩
  · simp at hlt
  · cases hg
    have hi : j / 4 < l.length := by omega
    obtain ⟨c0, c1, c2, c3⟩ := hc (j / 4) hi
    obtain ⟨e0, e1, e2, e3⟩ := ents_get l (j / 4) hi
    rw [add_plain]
    have hr : j = j / 4 * 4 ∨ j = j / 4 * 4 + 1 ∨ j = j / 4 * 4 + 2 ∨ j = j / 4 * 4 + 3 := by omega
    rcases hr with hr | hr | hr | hr
    · rw [hr] at hj; rw [e0] at hj; rw [show off + j = off + j / 4 * 4 by omega, c0, hj]
    · rw [hr] at hj; rw [e1] at hj; rw [show off + j = off + j / 4 * 4 + 1 by omega, c1, hj]
    · rw [hr] at hj; rw [e2] at hj; rw [show off + j = off + j / 4 * 4 + 2 by omega, c2, hj]
    · rw [hr] at hj; rw [e3] at hj; rw [show off + j = off + j / 4 * 4 + 3 by omega, c3, hj]
theorem ents_one (l : List Ent) : ∀ u ∈ ents l, u.oneCell' = true := by
  intro u hu
  obtain ⟨x, _, h⟩ := List.mem_flatMap.1 hu
  exact x.one u h
theorem run_append_ents {w : World} (base : Nat) (i0 : TypeInfo) (hi : Try.prog.info? 40 = some i0) (hz0 : i0.zero = some (.agg #[.int .u64 0, .int .i64 0, .int .i64 0, .int .i64 0])) (hz1 : i0.size = 4) (hz2 : i0.bytes = 32)
    (v : Value) (xs : List Ent) (hown : w.ownsRow base 40 4 v xs.length (ents xs)) (u : Value) (n₀ : Nat) (l : List Ent) (hu : EntsAt n₀ w u l) (hnil : ∀ m c, u = .slice none m c → m = 0 ∧ c = 0) (hlen : xs.length + l.length ≤ 1073741824) (hb : base ≤ w.heap.size) :
    ∃ v' w', (Builtin.append_ #[30, 30] 30 #[v, u]).run Try.prog w = .ok v' w' ∧ w'.ownsRow base 40 4 v' (xs ++ l).length (ents (xs ++ l)) ∧ w.grownBy w' v.ownBlock ∧
      (v'.ownBlock = v.ownBlock ∨ v'.ownBlock = some w.heap.size) := by
  have hu0 := hu
  obtain ⟨a, cap, rfl, hl, hu⟩ := hu
  cases a with
  | none =>
    obtain ⟨h0, hc⟩ := hnil _ _ rfl
    subst hc
    have he : l = [] := List.eq_nil_of_length_eq_zero h0
    subst he
    refine ⟨v, w, ?_, by simpa using hown, ⟨rfl, rfl, rfl, Nat.le_refl _, fun _ _ _ => rfl⟩, .inl rfl⟩
    exact run_append_owned_none (P := Try.prog) (w := w) base 30 30 40 i0 4 Try.underlying30 hi v xs.length (ents xs) hown
  | some ad =>
    obtain ⟨v', w', hr, h2, h3, _, h5⟩ := run_append_own_at (P := Try.prog) w base 30 30 40 i0 _ 4 32 Try.underlying30 hi hz0 hz1 hz2 rfl (by decide) v xs.length (ents xs) hown ad l.length cap (ents l)
      (by rw [ents_len]; omega) hu0.news.2 (ents_one l) (by unfold maxLen; omega) (by omega) hb
    exact ⟨v', w', hr, by rw [ents_append, List.length_append]; exact h2, h3, h5⟩
theorem step_append_ents {w : World} {ops : Array Oper} {o : Oper} {a : Act} {K : Act → World → Prop} {Q : Exit → Act → World → Prop} {E : Prop} (hgd : o.guard = none) (s x : Operand) (hty : o.type = 30)
    (ho : o.op = .call { callee := .builtin .append, args := #[s, x], argTypes := #[30, 30] })
    (base : Nat) (i0 : TypeInfo) (hi : Try.prog.info? 40 = some i0) (hz0 : i0.zero = some (.agg #[.int .u64 0, .int .i64 0, .int .i64 0, .int .i64 0])) (hz1 : i0.size = 4) (hz2 : i0.bytes = 32)
    (v : Value) (hs : a.eval s = v) (xs : List Ent) (hown : w.ownsRow base 40 4 v xs.length (ents xs)) (u : Value) (hx : a.eval x = u) (n₀ : Nat) (l : List Ent) (hu : EntsAt n₀ w u l) (hnil : ∀ m c, u = .slice none m c → m = 0 ∧ c = 0) (hlen : xs.length + l.length ≤ 1073741824) (hb : base ≤ w.heap.size)
    (h : ∀ v' w' n, Hid (n = (xs ++ l).length) → w'.ownsRow base 40 4 v' n (ents (xs ++ l)) → w.grownBy w' v.ownBlock → (v'.ownBlock = v.ownBlock ∨ v'.ownBlock = some w.heap.size) → K (a.put o.dst v') w') :
    if Region.wanted o (yielded ops a.tmps) = true then Oper.wp Try.prog o a w K Q else E := by
  have hw : Region.wanted o (yielded ops a.tmps) = true := by simp [Region.wanted, hgd]
  rw [if_pos hw]
  obtain ⟨v', w', hr, h2, h3, h4⟩ := run_append_ents (w := w) base i0 hi hz0 hz1 hz2 v xs hown u n₀ l hu hnil hlen hb
  unfold Oper.wp
  simp [execOp, ho, resolve, invoke, builtin, hs, hx, hty, hr, Result.andThen]
  exact h v' w' _ rfl h2 h3 h4
end Go.Proofs.Ytpihncafmjbccaa

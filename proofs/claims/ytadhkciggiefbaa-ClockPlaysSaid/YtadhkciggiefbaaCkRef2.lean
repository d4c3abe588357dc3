/-
  The document's own clock: with.
  Conditions: none.
-/
import Derived.Test.YtadhkciggiefbaaCkRef1
namespace Go.Proofs.Ytadhkciggiefbaa
open Go.RowKit

theorem infoRPl : (Try.prog.info? 39).map (fun i => (i.zero, i.size, i.bytes)) = some (some (.agg #[.bool false, .bool false, .int .i64 0, .int .i64 0]), 4, 24) := by kernel_rfl
theorem info_partsP {i : Option TypeInfo} {z : Value} {s b : Nat} (h : i.map (fun i => (i.zero, i.size, i.bytes)) = some (some z, s, b)) : ∃ i0, i = some i0 ∧ i0.zero = some z ∧ i0.size = s ∧ i0.bytes = b := by
  cases i with
  | none => cases h
  | some i0 => simp at h; exact ⟨i0, rfl, h.1, h.2.1, h.2.2⟩
theorem plCells_one {ps : List Pl} (hth : ∀ p ∈ ps, ∃ t, p.thing = .int .i64 t) : ∀ u ∈ plCells ps, u.oneCell' = true := by
  intro u hu
  obtain ⟨p, hp, h⟩ := List.mem_flatMap.1 hu
  obtain ⟨t, ht⟩ := hth p hp
  rw [ht] at h
  simp only [List.mem_cons, List.not_mem_nil, or_false] at h
  rcases h with rfl | rfl | rfl | rfl <;> rfl
theorem plCells_app (xs ys : List Pl) : plCells (xs ++ ys) = plCells xs ++ plCells ys := by simp [plCells]
theorem wpList_append_pls {w : World} {ops : Array Oper} {rest : List Oper} {o : Oper} {a : Act} {Q : Exit → Act → World → Prop} (hgd : o.guard = none) (s x : Operand) (hty : o.type = 27)
    (ho : o.op = .call { callee := .builtin .append, args := #[s, x], argTypes := #[27, 27] })
    (base : Nat) (v : Value) (hs : a.eval s = v) (hown : w.ownsRow base 39 4 v 0 []) (u : Value) (hx : a.eval x = u) (n₀ : Nat) (ps : List Pl) (hth : ∀ p ∈ ps, ∃ t, p.thing = .int .i64 t) (hu : PlsAt n₀ w u ps) (hpos : 0 < ps.length) (hlen : ps.length ≤ 4096) (hb : base ≤ w.heap.size)
    (h : ∀ g cc w', w'.ownsRow base 39 4 (.slice (some ⟨g, 0, none⟩) ps.length cc) ps.length (plCells ps) → w.grownBy w' v.ownBlock → wpList Try.prog ops Q rest (a.put o.dst (.slice (some ⟨g, 0, none⟩) ps.length cc)) w') : wpList Try.prog ops Q (o :: rest) a w := by
  refine wpList_plain hgd fun K hK => ?_
  obtain ⟨i0, hi, hz0, hz1, hz2⟩ := info_partsP infoRPl
  obtain ⟨aa, cap, rfl, hl, h0, hu'⟩ := id hu
  obtain ⟨ad, rfl⟩ : ∃ ad, aa = some ad := by
    cases aa with
    | none => have := h0 rfl; omega
    | some ad => exact ⟨ad, rfl⟩
  obtain ⟨v', w', hr, h2, h3, _, _⟩ := run_append_own_at (P := Try.prog) w base 27 27 39 i0 _ 4 24 Try.underlying27 hi hz0 hz1 hz2 rfl (by decide) v 0 [] hown ad ps.length cap (plCells ps)
    (by rw [plCells_len]) hu.news.2 (plCells_one hth) (by unfold maxLen; omega) (by omega) hb
  simp only [Nat.zero_add, List.nil_append] at h2
  obtain ⟨L, hL⟩ : ∃ L, ps.length = L + 1 := ⟨ps.length - 1, by omega⟩
  rw [hL] at h2
  obtain ⟨g, cc, rfl⟩ := ownsRow_succ h2
  rw [← hL] at h2 hr
  unfold Oper.wp
  simp [execOp, ho, resolve, invoke, builtin, hs, hx, hty, hr, Result.andThen]
  exact hK _ _ (h g cc w' h2 h3)
theorem ownPls_empty (w : World) (base : Nat) (hb : base ≤ w.heap.size) : (w.alloc (.cells #[] 39)).ownsRow base 39 4 (.slice (some ⟨w.heap.size, 0, none⟩) 0 0) 0 [] :=
  World.ownsRow_made w #[] 0 hb (by unfold maxLen; omega) rfl
theorem grownBy_setCell2 (w : World) (b o : Nat) (v : Value) : w.grownBy (w.setCell ⟨b, o, none⟩ v) (some b) := ⟨rfl, rfl, rfl, by simp [World.setCell], fun k _ hk => Below.heap_setCell _ _ _ _ (fun e => hk (by simp [e]))⟩
/-- What with leaves. -/
def WithDid (ps : List Pl) (hand : Int) (w : World) (e : Ending) (w' : World) : Prop := ∃ v, e = .returned (.agg #[v, .int .i64 hand]) ∧ PlsAt w'.heap.size w' v ps ∧ Below w.heap.size w w' ∧ (∀ g off n c, v = .slice (some ⟨g, off, none⟩) n c → w.heap.size ≤ g)
set_option maxRecDepth 100000 in
set_option maxHeartbeats 4000000 in
theorem with_any {w : World} {v : Value} {ps : List Pl} (h : PlsAt w.heap.size w v ps) (hth : ∀ p ∈ ps, ∃ t, p.thing = .int .i64 t) (hl : ps.length ≤ 4096) (hand : Int) {i : Nat} (hi : i < ps.length) (f m : Bool) (key t : Int) :
    Calls Try.prog 20 #[.agg #[v, .int .i64 hand], .int .i64 i, .agg #[.bool f, .bool m, .int .i64 key, .int .i64 t]] w (WithDid (ps.set i ⟨f, m, key, .int .i64 t⟩) hand w) := by
  obtain ⟨a, c, rfl⟩ := h.slice
  have l1 : (ps.length : Int) ≤ 4096 := by omega
  have i1 : (i : Int) < ps.length := by omega
  have HP := Lib.hid h
  have HTH := Lib.hid hth
  have HI := Lib.hid hi
  clear h hth hi
  go_enter Try.func20, Try.ntmps20
  go_upto_region 1 with fail
  obtain ⟨w1, hw1⟩ : ∃ w1, ((w.alloc (.cells #[.slice a ps.length c, .int .i64 hand] 29)).alloc (.cells #[.bool f, .bool m, .int .i64 key, .int .i64 t] 39)).alloc (.cells #[.slice none 0 0, .int .i64 0] 29) = w1 := ⟨_, rfl⟩
  have b0 : w1.heap[w.heap.size]? = some (.cells #[.slice a ps.length c, .int .i64 hand] 29 (0, 0)) := by rw [← hw1]; exact blk_alloc (blk_alloc (heap_alloc_new _ _) _) _
  have b1 : w1.heap[w.heap.size + 1]? = some (.cells #[.bool f, .bool m, .int .i64 key, .int .i64 t] 39 (0, 0)) := by
    rw [← hw1]
    have := heap_alloc_new (w.alloc (.cells #[.slice a ps.length c, .int .i64 hand] 29)) (.cells #[.bool f, .bool m, .int .i64 key, .int .i64 t] 39)
    rw [World.size_alloc] at this
    exact blk_alloc this _
  have b2 : w1.heap[w.heap.size + 2]? = some (.cells #[.slice none 0 0, .int .i64 0] 29 (0, 0)) := by
    rw [← hw1]
    have := heap_alloc_new ((w.alloc (.cells #[.slice a ps.length c, .int .i64 hand] 29)).alloc (.cells #[.bool f, .bool m, .int .i64 key, .int .i64 t] 39)) (.cells #[.slice none 0 0, .int .i64 0] 29)
    rw [World.size_alloc, World.size_alloc] at this
    exact this
  have hz : w1.heap.size = w.heap.size + 3 := by rw [← hw1]; simp
  have hB1 : Below w.heap.size w w1 := by rw [← hw1]; exact (((Below.refl _ _).alloc (Nat.le_refl _) _).alloc (by simp) _).alloc (by simp; omega) _
  change (Code.region _ _ _).wp _ _ _ (((w.alloc (.cells #[.slice a ps.length c, .int .i64 hand] 29)).alloc (.cells #[.bool f, .bool m, .int .i64 key, .int .i64 t] 39)).alloc (.cells #[.slice none 0 0, .int .i64 0] 29))
  rw [hw1]
  clear hw1
  have c0 : (w1.alloc (.cells #[] 39)).cell? ⟨w.heap.size, 0, none⟩ = some (.slice a ps.length c) := blk_cell (blk_alloc b0 _) 0
  have HU := Lib.hid ((HP.out.below hB1).below ((Below.refl w.heap.size w1).alloc hB1.size (.cells #[] 39)))
  have HZ := Lib.hid hz
  have HB1 := Lib.hid hB1
  have B0 := Lib.hid b0
  have B1 := Lib.hid b1
  have B2 := Lib.hid b2
  clear hz hB1 b0 b1 b2
  go_upto_region 2 with (at_builtin; refine wpList_append_pls (by rfl) _ _ (by rfl) (by rfl) w1.heap.size _ (by rfl) (ownPls_empty w1 w1.heap.size (Nat.le_refl _)) (.slice a ps.length c) (by rfl) w.heap.size ps HTH.out HU.out (by have := HI.out; omega) hl (by simp) ?_; intro g cc w3 hown hgrow; have HG := Lib.hid hgrow; have HO := Lib.hid hown; have hg0 := (hown.lt g rfl).1; have hk3 : ∀ b, b < w1.heap.size → w3.heap[b]? = w1.heap[b]? := (fun b hb => (hgrow.block b (by simp; omega) (by simp [Value.ownBlock]; omega)).trans (Below.heap_alloc w1 _ b hb)); have q0 := (hk3 w.heap.size (by have := HZ.out; omega)).trans B0.out; have e0 : w3.cell? ⟨w.heap.size, 0, none⟩ = some (.slice a ps.length c) := blk_cell q0 0; have f0 := blk_frozen q0 0; have HK3 := Lib.hid hk3; have HQ0 := Lib.hid q0; have HG0 := Lib.hid hg0; clear hown hgrow hg0 hk3 q0 c0)
  have hq0 := HQ0.out
  have hz := HZ.out
  have q1 := (HK3.out (w.heap.size + 1) (by omega)).trans B1.out
  have q2 := (HK3.out (w.heap.size + 2) (by omega)).trans B2.out
  have hgl := HG0.out
  have hne0 : g ≠ w.heap.size := by omega
  have hne1 : g ≠ w.heap.size + 1 := by omega
  have hne2 : g ≠ w.heap.size + 2 := by omega
  have s0 := blk_set hq0 0 (.slice (some ⟨g, 0, none⟩) ps.length cc)
  have s1 := (Below.heap_setCell w3 ⟨w.heap.size, 0, none⟩ (.slice (some ⟨g, 0, none⟩) ps.length cc) (w.heap.size + 1) (by simp)).trans q1
  have s2 := (Below.heap_setCell w3 ⟨w.heap.size, 0, none⟩ (.slice (some ⟨g, 0, none⟩) ps.length cc) (w.heap.size + 2) (by simp)).trans q2
  have so := HO.out.kept (grownBy_setCell' w3 w.heap.size (.slice (some ⟨g, 0, none⟩) ps.length cc)) (.inr (by simp [Value.ownBlock]; omega))
  have sb : Below w.heap.size w (w3.setCell ⟨w.heap.size, 0, none⟩ (.slice (some ⟨g, 0, none⟩) ps.length cc)) := ((HB1.out.alloc HB1.out.size _).grown HG.out (by simp; omega) (fun b e => by simp [Value.ownBlock] at e; omega)).setCell (p := ⟨w.heap.size, 0, none⟩) (Nat.le_refl _) _
  change (Code.region _ _ _).wp _ _ _ (w3.setCell ⟨w.heap.size, 0, none⟩ (.slice (some ⟨g, 0, none⟩) ps.length cc))
  generalize w3.setCell ⟨w.heap.size, 0, none⟩ (.slice (some ⟨g, 0, none⟩) ps.length cc) = w4 at s0 s1 s2 so sb ⊢
  simp only [List.setIfInBounds_toArray, List.set_cons_zero] at s0
  have HS0 := Lib.hid s0
  have HS1 := Lib.hid s1
  have HS2 := Lib.hid s2
  have HSO := Lib.hid so
  have HSB := Lib.hid sb
  obtain ⟨p, hp⟩ : ∃ p, ps[i]? = some p := ⟨ps[i]'HI.out, List.getElem?_eq_getElem HI.out⟩
  obtain ⟨k0, k1, k2, k3⟩ := plCells_get ps i p hp
  have hil := HI.out
  have d0 := so.cellAt (i * 4) (by omega)
  have d1 := so.cellAt (i * 4 + 1) (by omega)
  have d2 := so.cellAt (i * 4 + 2) (by omega)
  have d3 := so.cellAt (i * 4 + 3) (by omega)
  rw [k0] at d0
  rw [k1] at d1
  rw [k2] at d2
  rw [k3] at d3
  have g0 := so.frozenAt (i * 4)
  have g1 := so.frozenAt (i * 4 + 1)
  have g2 := so.frozenAt (i * 4 + 2)
  have g3 := so.frozenAt (i * 4 + 3)
  have e0' : w4.cell? ⟨w.heap.size, 0, none⟩ = some (.slice (some ⟨g, 0, none⟩) ps.length cc) := blk_cell s0 0
  have p0 : w4.cell? ⟨w.heap.size + 1, 0, none⟩ = some (.bool f) := blk_cell s1 0
  have p1 : w4.cell? ⟨w.heap.size + 1, 1, none⟩ = some (.bool m) := blk_cell s1 1
  have p2 : w4.cell? ⟨w.heap.size + 1, 2, none⟩ = some (.int .i64 key) := blk_cell s1 2
  have p3 : w4.cell? ⟨w.heap.size + 1, 3, none⟩ = some (.int .i64 t) := blk_cell s1 3
  clear hq0 hz q1 q2 hgl s0 s1 s2 so sb hp k0 k1 k2 k3 hil e0 f0 hne0 hne1 hne2 HO HG HK3 HQ0 HB1 B0 B1 B2 HU
  go_upto_region 3 with fail
  have hz := HZ.out
  have hgl := HG0.out
  have hmv := set4_moves w4 g (i * 4) (.bool f) (.bool m) (.int .i64 key) (.int .i64 t)
  have s0 := (hmv.block w.heap.size (blk_lt HS0.out) (by omega)).trans HS0.out
  have s2 := (hmv.block (w.heap.size + 2) (blk_lt HS2.out) (by omega)).trans HS2.out
  have so : (set4 w4 g (i * 4) (.bool f) (.bool m) (.int .i64 key) (.int .i64 t)).ownsRow w1.heap.size 39 4 (.slice (some ⟨g, 0, none⟩) ps.length cc) ps.length _ := ((((HSO.out.stored (i * 4) (.bool f)).1.stored (i * 4 + 1) (.bool m)).1.stored (i * 4 + 2) (.int .i64 key)).1.stored (i * 4 + 3) (.int .i64 t)).1
  rw [plCells_put ps i ⟨f, m, key, .int .i64 t⟩ HI.out] at so
  have sb := HSB.out.trans (hmv.below (B := w.heap.size) (fun b h => by omega) HSB.out.size)
  change (Code.region _ _ _).wp _ _ _ (set4 w4 g (i * 4) (.bool f) (.bool m) (.int .i64 key) (.int .i64 t))
  generalize set4 w4 g (i * 4) (.bool f) (.bool m) (.int .i64 key) (.int .i64 t) = w5 at s0 s2 so sb hmv ⊢
  have x0 : w5.cell? ⟨w.heap.size, 0, none⟩ = some (.slice (some ⟨g, 0, none⟩) ps.length cc) := blk_cell s0 0
  have x1 : w5.cell? ⟨w.heap.size, 1, none⟩ = some (.int .i64 hand) := blk_cell s0 1
  have y0 : w5.cell? ⟨w.heap.size + 2, 0, none⟩ = some (.slice none 0 0) := blk_cell s2 0
  have y1 : w5.cell? ⟨w.heap.size + 2, 1, none⟩ = some (.int .i64 0) := blk_cell s2 1
  have h0 := blk_frozen s2 0
  have h1 := blk_frozen s2 1
  have t0 := blk_set (blk_set s2 0 (.slice (some ⟨g, 0, none⟩) ps.length cc)) 1 (.int .i64 hand)
  simp only [List.setIfInBounds_toArray, List.set_cons_zero, List.set_cons_succ] at t0
  have tow := (so.kept (grownBy_setCell2 w5 (w.heap.size + 2) 0 (.slice (some ⟨g, 0, none⟩) ps.length cc)) (.inr (by simp [Value.ownBlock]; omega))).kept (grownBy_setCell2 (w5.setCell ⟨w.heap.size + 2, 0, none⟩ (.slice (some ⟨g, 0, none⟩) ps.length cc)) (w.heap.size + 2) 1 (.int .i64 hand)) (.inr (by simp [Value.ownBlock]; omega))
  have tb := (sb.setCell (p := ⟨w.heap.size + 2, 0, none⟩) (Nat.le_add_right _ _) (.slice (some ⟨g, 0, none⟩) ps.length cc)).setCell (p := ⟨w.heap.size + 2, 1, none⟩) (Nat.le_add_right _ _) (.int .i64 hand)
  have HT0 := Lib.hid t0
  have HTO := Lib.hid tow
  have HTB := Lib.hid tb
  clear hz hgl hmv s0 s2 so sb t0 tow tb d0 d1 d2 d3 g0 g1 g2 g3 e0' p0 p1 p2 p3
  go_wp2
  refine bodyPost_ret (results_cell_row rfl _ _ (w.heap.size + 2) 29 #[.slice (some ⟨g, 0, none⟩) ps.length cc, .int .i64 hand] (0, 0) _ rfl HT0.out Try.underlying29 rfl (by kernel_rfl)) rfl ?_
  exact ⟨_, rfl, PlsAt.of_owns HTO.out (by simp), HTB.out, fun g' off' n' c' e => by cases e; have := (HTO.out.lt g rfl).1; have := HZ.out; omega⟩
end Go.Proofs.Ytadhkciggiefbaa

/-
  The document's own set of numbers: a row of bools in memory; with.
  Conditions: none.
-/
import Derived.Test.YtpljbjceokoeiaaDoorBools
import Derived.Test.YtpljbjceokoeiaaDoorBitsAllM
import Derived.Test.YtpljbjceokoeiaaDoorMem
import Derived.Laws.OwnMore
import Derived.Maps.AppendAt
import Derived.WalkKit
import Derived.RangeFuncBox
import Derived.IntWalk
import Derived.Outline
namespace Go.Proofs.YtpljbjceokoeiaaDoor
open Go.RowKit

/-- A block of bools that was there. -/
def InBl (n : Nat) (W : World) (g : Nat) : Prop := g < n ∧ ∃ cs cur, W.heap[g]? = some (.cells cs 4 cur)
theorem InBl.below {n : Nat} {w w' : World} {g : Nat} (h : InBl n w g) (hb : Below n w w') : InBl n w' g := by
  obtain ⟨h1, cs, cur, e⟩ := h
  exact ⟨h1, cs, cur, (hb.block g h1).trans e⟩
theorem InBl.to {n m : Nat} {w w' : World} {g : Nat} (h : InBl n w g) (hm : g < m) (e : w'.heap[g]? = w.heap[g]?) : InBl m w' g := by
  obtain ⟨_, cs, cur, h2⟩ := h
  exact ⟨hm, cs, cur, e.trans h2⟩
/-- A slice of bools, in a block below n. -/
def BoolsAt (n : Nat) (W : World) (v : Value) (l : List Bool) : Prop :=
  ∃ a cap, v = .slice a l.length cap ∧ l.length ≤ cap ∧ (a = none → cap = 0) ∧ (l = [] ∨ ∃ g off, a = some ⟨g, off, none⟩ ∧ InBl n W g ∧ ∀ j, j < l.length → W.cell? ⟨g, off + j, none⟩ = some (.bool (l[j]?.getD false)))
theorem BoolsAt.keep {n m : Nat} {w w' : World} {v : Value} {l : List Bool} (h : BoolsAt n w v l) (hm : n ≤ m) (hk : ∀ g, InBl n w g → w'.heap[g]? = w.heap[g]?) : BoolsAt m w' v l := by
  obtain ⟨a, cap, rfl, hl, h0, h⟩ := h
  refine ⟨a, cap, rfl, hl, h0, h.imp id ?_⟩
  rintro ⟨g, off, rfl, hg, hc⟩
  have e := hk g hg
  refine ⟨g, off, rfl, hg.to (Nat.lt_of_lt_of_le hg.1 hm) e, fun j hj => ?_⟩
  have := hc j hj
  unfold World.cell? at this ⊢
  rw [e]
  exact this
theorem BoolsAt.below {n : Nat} {w w' : World} {v : Value} {l : List Bool} (h : BoolsAt n w v l) (hb : Below n w w') : BoolsAt n w' v l := h.keep (Nat.le_refl _) fun g hg => hb.block g hg.1
theorem BoolsAt.mono {n m : Nat} {w : World} {v : Value} {l : List Bool} (h : BoolsAt n w v l) (hm : n ≤ m) : BoolsAt m w v l := h.keep hm fun _ _ => rfl
theorem BoolsAt.next {w w' : World} {v : Value} {l : List Bool} (h : BoolsAt w.heap.size w v l) (hb : Below w.heap.size w w') : BoolsAt w'.heap.size w' v l := (h.below hb).mono hb.size
theorem BoolsAt.slice {n : Nat} {w : World} {v : Value} {l : List Bool} (h : BoolsAt n w v l) : ∃ a c, v = .slice a l.length c := by
  obtain ⟨a, c, rfl, _⟩ := h; exact ⟨a, c, rfl⟩
theorem BoolsAt.get {n : Nat} {w : World} {a : Option Addr} {k c : Nat} {l : List Bool} (h : BoolsAt n w (.slice a k c) l) {i : Nat} (hi : i < l.length) : ∃ g off, a = some ⟨g, off, none⟩ ∧ g < n ∧ w.cell? ⟨g, off + i, none⟩ = some (.bool (l[i]?.getD false)) := by
  obtain ⟨a', c', e, hl, _, h⟩ := h
  cases e
  rcases h with h | ⟨g, off, rfl, hg, hc⟩
  · subst h; simp at hi
  · exact ⟨g, off, rfl, hg.1, hc i hi⟩
theorem BoolsAt.of_owns {w : World} {base : Nat} {v : Value} {n : Nat} {l : List Bool} (h : w.ownsRow base 4 1 v n (bools l)) (hn : n = l.length) : BoolsAt w.heap.size w v l := by
  subst hn
  have h0 := h
  rcases h.2 with ⟨rfl, h1⟩ | ⟨g, cap, cur, rfl, _, hg, hn, _⟩
  · have : l = [] := List.eq_nil_of_length_eq_zero h1
    subst this; exact ⟨none, 0, rfl, Nat.le_refl _, fun _ => rfl, .inl rfl⟩
  · refine ⟨_, cap, rfl, hn, fun h => (by cases h), .inr ⟨g, 0, rfl, ⟨(Array.getElem?_eq_some_iff.1 hg).1, _, _, hg⟩, fun j hj => ?_⟩⟩
    have := h0.cells (g := g) rfl _ _ (bools_get l hj)
    rwa [add_plain] at this
theorem BoolsAt.news {n₀ : Nat} {w : World} {ad : Addr} {len cap : Nat} {l : List Bool} (h : BoolsAt n₀ w (.slice (some ad) len cap) l) :
    len = l.length ∧ ∀ j u, (bools l)[j]? = some u → w.cell? (ad.add j) = some u := by
  obtain ⟨a, cap', e, _, _, h⟩ := h
  simp only [Value.slice.injEq] at e
  obtain ⟨rfl, rfl, rfl⟩ := e
  refine ⟨rfl, fun j u hj => ?_⟩
  have hlt : j < l.length := by
    have := (List.getElem?_eq_some_iff.1 hj).1
    rwa [bools_len] at this
  rcases h with rfl | ⟨g, off, hg, _, hc⟩
  · simp at hlt
  · cases hg
    rw [add_plain, hc j hlt]
    rw [bools_get l hlt] at hj
    exact hj
theorem BoolsAt.of_blk {w : World} {g : Nat} {l : List Bool} (h : BoolsBlk w g l) : BoolsAt w.heap.size w (.slice (some ⟨g, 0, none⟩) l.length l.length) l :=
  ⟨_, _, rfl, Nat.le_refl _, fun h => (by cases h), .inr ⟨g, 0, rfl, ⟨h.lt, _, _, h⟩, fun j hj => by rw [Nat.zero_add]; exact h.cell hj⟩⟩
theorem wpList_append_bools {w : World} {ops : Array Oper} {rest : List Oper} {o : Oper} {a : Act} {Q : Exit → Act → World → Prop} (hgd : o.guard = none) (s x : Operand) (hty : o.type = 27)
    (ho : o.op = .call { callee := .builtin .append, args := #[s, x], argTypes := #[27, 27] })
    (base : Nat) (v : Value) (hs : a.eval s = v) (hown : w.ownsRow base 4 1 v 0 []) (u : Value) (hx : a.eval x = u) (n₀ : Nat) (l : List Bool) (hu : BoolsAt n₀ w u l) (hpos : 0 < l.length) (hlen : l.length ≤ 70000) (hb : base ≤ w.heap.size)
    (h : ∀ g cc w', w'.ownsRow base 4 1 (.slice (some ⟨g, 0, none⟩) l.length cc) l.length (bools l) → w.grownBy w' v.ownBlock → wpList Tryd.prog ops Q rest (a.put o.dst (.slice (some ⟨g, 0, none⟩) l.length cc)) w') : wpList Tryd.prog ops Q (o :: rest) a w := by
  refine wpList_plain hgd fun K hK => ?_
  obtain ⟨i0, hi, hz0, hz1, hz2⟩ := info_partsB infoBool
  obtain ⟨aa, cap, rfl, hl, h0, hu'⟩ := id hu
  obtain ⟨ad, rfl⟩ : ∃ ad, aa = some ad := by
    cases aa with
    | none => have := h0 rfl; omega
    | some ad => exact ⟨ad, rfl⟩
  obtain ⟨v', w', hr, h2, h3, _, _⟩ := run_append_own_at (P := Tryd.prog) w base 27 27 4 i0 _ 1 1 Tryd.underlying27 hi hz0 hz1 hz2 rfl (by decide) v 0 [] hown ad l.length cap (bools l)
    (by rw [bools_len]; simp) hu.news.2 (bools_one l) (by unfold maxLen; omega) (by omega) hb
  simp only [Nat.zero_add, List.nil_append] at h2
  obtain ⟨L, hL⟩ : ∃ L, l.length = L + 1 := ⟨l.length - 1, by omega⟩
  rw [hL] at h2
  obtain ⟨g, cc, rfl⟩ := ownsRow_succ h2
  rw [← hL] at h2 hr
  unfold Oper.wp
  simp [execOp, ho, resolve, invoke, builtin, hs, hx, hty, hr, Result.andThen]
  exact hK _ _ (h g cc w' h2 h3)
theorem ownBools_empty (w : World) (base : Nat) (hb : base ≤ w.heap.size) : (w.alloc (.cells #[] 4)).ownsRow base 4 1 (.slice (some ⟨w.heap.size, 0, none⟩) 0 0) 0 [] :=
  World.ownsRow_made w #[] 0 hb (by unfold maxLen; omega) rfl
theorem grownBy_setCell2 (w : World) (b o : Nat) (v : Value) : w.grownBy (w.setCell ⟨b, o, none⟩ v) (some b) := ⟨rfl, rfl, rfl, by simp [World.setCell], fun k _ hk => Below.heap_setCell _ _ _ _ (fun e => hk (by simp [e]))⟩
/-- What with leaves. -/
def WithDid (l : List Bool) (hand : Int) (w : World) (e : Ending) (w' : World) : Prop := ∃ v, e = .returned (.agg #[v, .int .i64 hand]) ∧ BoolsAt w'.heap.size w' v l ∧ Below w.heap.size w w'
set_option maxRecDepth 100000 in
set_option maxHeartbeats 4000000 in
theorem with_any {w : World} {v : Value} {l : List Bool} (h : BoolsAt w.heap.size w v l) (hl : l.length ≤ 70000) (hand : Int) {i : Nat} (hi : i < l.length) (x : Bool) :
    Calls Tryd.prog 22 #[.agg #[v, .int .i64 hand], .int .i64 i, .bool x] w (WithDid (l.set i x) hand w) := by
  obtain ⟨a, c, rfl⟩ := h.slice
  have l1 : (l.length : Int) ≤ 70000 := by omega
  have i1 : (i : Int) < l.length := by omega
  have HP := Lib.hid h
  have HI := Lib.hid hi
  clear h hi
  go_enter Tryd.func22, Tryd.ntmps22
  go_upto_region 1 with fail
  obtain ⟨w1, hw1⟩ : ∃ w1, (w.alloc (.cells #[.slice a l.length c, .int .i64 hand] 29)).alloc (.cells #[.slice none 0 0, .int .i64 0] 29) = w1 := ⟨_, rfl⟩
  have b0 : w1.heap[w.heap.size]? = some (.cells #[.slice a l.length c, .int .i64 hand] 29 (0, 0)) := by rw [← hw1]; exact blk_alloc (heap_alloc_new _ _) _
  have b2 : w1.heap[w.heap.size + 1]? = some (.cells #[.slice none 0 0, .int .i64 0] 29 (0, 0)) := by
    rw [← hw1]
    have := heap_alloc_new (w.alloc (.cells #[.slice a l.length c, .int .i64 hand] 29)) (.cells #[.slice none 0 0, .int .i64 0] 29)
    rw [World.size_alloc] at this
    exact this
  have hz : w1.heap.size = w.heap.size + 2 := by rw [← hw1]; simp
  have hB1 : Below w.heap.size w w1 := by rw [← hw1]; exact ((Below.refl _ _).alloc (Nat.le_refl _) _).alloc (by simp) _
  change (Code.region _ _ _).wp _ _ _ ((w.alloc (.cells #[.slice a l.length c, .int .i64 hand] 29)).alloc (.cells #[.slice none 0 0, .int .i64 0] 29))
  rw [hw1]
  clear hw1
  have c0 : (w1.alloc (.cells #[] 4)).cell? ⟨w.heap.size, 0, none⟩ = some (.slice a l.length c) := blk_cell (blk_alloc b0 _) 0
  have HU := Lib.hid ((HP.out.below hB1).below ((Below.refl w.heap.size w1).alloc hB1.size (.cells #[] 4)))
  have HZ := Lib.hid hz
  have HB1 := Lib.hid hB1
  have B0 := Lib.hid b0
  have B2 := Lib.hid b2
  clear hz hB1 b0 b2
  go_upto_region 2 with (at_builtin; refine wpList_append_bools (by rfl) _ _ (by rfl) (by rfl) w1.heap.size _ (by rfl) (ownBools_empty w1 w1.heap.size (Nat.le_refl _)) (.slice a l.length c) (by rfl) w.heap.size l HU.out (by have := HI.out; omega) hl (by simp) ?_; intro g cc w3 hown hgrow; have HG := Lib.hid hgrow; have HO := Lib.hid hown; have hg0 := (hown.lt g rfl).1; have hk3 : ∀ b, b < w1.heap.size → w3.heap[b]? = w1.heap[b]? := (fun b hb => (hgrow.block b (by simp; omega) (by simp [Value.ownBlock]; omega)).trans (Below.heap_alloc w1 _ b hb)); have q0 := (hk3 w.heap.size (by have := HZ.out; omega)).trans B0.out; have e0 : w3.cell? ⟨w.heap.size, 0, none⟩ = some (.slice a l.length c) := blk_cell q0 0; have f0 := blk_frozen q0 0; have HK3 := Lib.hid hk3; have HQ0 := Lib.hid q0; have HG0 := Lib.hid hg0; clear hown hgrow hg0 hk3 q0 c0)
  have hq0 := HQ0.out
  have hz := HZ.out
  have q2 := (HK3.out (w.heap.size + 1) (by omega)).trans B2.out
  have hgl := HG0.out
  have s0 := blk_set hq0 0 (.slice (some ⟨g, 0, none⟩) l.length cc)
  have s2 := (Below.heap_setCell w3 ⟨w.heap.size, 0, none⟩ (.slice (some ⟨g, 0, none⟩) l.length cc) (w.heap.size + 1) (by simp)).trans q2
  have so := HO.out.kept (grownBy_setCell2 w3 w.heap.size 0 (.slice (some ⟨g, 0, none⟩) l.length cc)) (.inr (by simp [Value.ownBlock]; omega))
  have sb : Below w.heap.size w (w3.setCell ⟨w.heap.size, 0, none⟩ (.slice (some ⟨g, 0, none⟩) l.length cc)) := ((HB1.out.alloc HB1.out.size _).grown HG.out (by simp; omega) (fun b e => by simp [Value.ownBlock] at e; omega)).setCell (p := ⟨w.heap.size, 0, none⟩) (Nat.le_refl _) _
  change (Code.region _ _ _).wp _ _ _ (w3.setCell ⟨w.heap.size, 0, none⟩ (.slice (some ⟨g, 0, none⟩) l.length cc))
  generalize w3.setCell ⟨w.heap.size, 0, none⟩ (.slice (some ⟨g, 0, none⟩) l.length cc) = w4 at s0 s2 so sb ⊢
  simp only [List.setIfInBounds_toArray, List.set_cons_zero] at s0
  have HS0 := Lib.hid s0
  have HS2 := Lib.hid s2
  have HSO := Lib.hid so
  have HSB := Lib.hid sb
  have d0 := so.cellAt i (by have := HI.out; omega)
  rw [bools_get l HI.out] at d0
  have g0 := so.frozenAt i
  have e0' : w4.cell? ⟨w.heap.size, 0, none⟩ = some (.slice (some ⟨g, 0, none⟩) l.length cc) := blk_cell s0 0
  clear hq0 hz q2 hgl s0 s2 so sb e0 f0 HO HG HK3 HQ0 HB1 B0 B2 HU
  go_upto_region 3 with fail
  have hz := HZ.out
  have hgl := HG0.out
  have hmv := (Moves.refl (fun k => k = g) w4).setCell (p := ⟨g, i, none⟩) (fun _ => rfl) (.bool x)
  have s0 := (hmv.block w.heap.size (blk_lt HS0.out) (by omega)).trans HS0.out
  have s2 := (hmv.block (w.heap.size + 1) (blk_lt HS2.out) (by omega)).trans HS2.out
  have so := (HSO.out.stored i (.bool x)).1
  rw [show (bools l).set i (.bool x) = bools (l.set i x) by simp [bools, List.map_set]] at so
  have sb := HSB.out.trans (hmv.below (B := w.heap.size) (fun b h => by omega) HSB.out.size)
  change (Code.region _ _ _).wp _ _ _ (w4.setCell ⟨g, i, none⟩ (.bool x))
  generalize w4.setCell ⟨g, i, none⟩ (.bool x) = w5 at s0 s2 so sb hmv ⊢
  have x0 : w5.cell? ⟨w.heap.size, 0, none⟩ = some (.slice (some ⟨g, 0, none⟩) l.length cc) := blk_cell s0 0
  have x1 : w5.cell? ⟨w.heap.size, 1, none⟩ = some (.int .i64 hand) := blk_cell s0 1
  have y0 : w5.cell? ⟨w.heap.size + 1, 0, none⟩ = some (.slice none 0 0) := blk_cell s2 0
  have y1 : w5.cell? ⟨w.heap.size + 1, 1, none⟩ = some (.int .i64 0) := blk_cell s2 1
  have h0 := blk_frozen s2 0
  have h1 := blk_frozen s2 1
  have t0 := blk_set (blk_set s2 0 (.slice (some ⟨g, 0, none⟩) l.length cc)) 1 (.int .i64 hand)
  simp only [List.setIfInBounds_toArray, List.set_cons_zero, List.set_cons_succ] at t0
  have tow := (so.kept (grownBy_setCell2 w5 (w.heap.size + 1) 0 (.slice (some ⟨g, 0, none⟩) l.length cc)) (.inr (by simp [Value.ownBlock]; omega))).kept (grownBy_setCell2 (w5.setCell ⟨w.heap.size + 1, 0, none⟩ (.slice (some ⟨g, 0, none⟩) l.length cc)) (w.heap.size + 1) 1 (.int .i64 hand)) (.inr (by simp [Value.ownBlock]; omega))
  have tb := (sb.setCell (p := ⟨w.heap.size + 1, 0, none⟩) (Nat.le_add_right _ _) (.slice (some ⟨g, 0, none⟩) l.length cc)).setCell (p := ⟨w.heap.size + 1, 1, none⟩) (Nat.le_add_right _ _) (.int .i64 hand)
  have HT0 := Lib.hid t0
  have HTO := Lib.hid tow
  have HTB := Lib.hid tb
  clear hz hgl hmv s0 s2 so sb t0 tow tb d0 g0 e0'
  go_wp2
  refine bodyPost_ret (results_cell_row rfl _ _ (w.heap.size + 1) 29 #[.slice (some ⟨g, 0, none⟩) l.length cc, .int .i64 hand] (0, 0) _ rfl HT0.out Tryd.underlying29 rfl (by kernel_rfl)) rfl ?_
  exact ⟨_, rfl, BoolsAt.of_owns HTO.out (by simp), HTB.out⟩
end Go.Proofs.YtpljbjceokoeiaaDoor

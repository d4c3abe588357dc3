/-
  Proved: a layout's parts do not overlap, and fill the device; a plan with more sectors has a layout, too, but for the limit. Whatever plan comes in, the law PlanParts answers true and the argument reads as it did.
  Conditions: none.
-/
import Derived.Test.YtcaahpnpddhiiaaPlanLaw2
namespace Go.Proofs.Ytcaahpnpddhiiaa
open Go.ChangeShapes Go.WideShapes Go.ChangeAt Go.RowKit

set_option maxRecDepth 100000 in
set_option maxHeartbeats 4000000 in
theorem planParts_no (p : PlanP) (hfit : p.fits = false) (w : World) : Calls Try.prog 5 #[.agg p.cells] w (Good w) := by
  have HF := Lib.hid (fit_any p)
  obtain ⟨e1, e2⟩ := fit_no hfit
  rw [e1, e2] at HF
  clear hfit e1 e2
  go_enter Try.func5, Try.ntmps5
  go_upto_region 2 with (first
    | (refine wpList_load_row (o := ⟨some 8, _, _, _, _, _⟩) rfl 24 (.tmp 1) rfl w.heap.size rfl 24 p.cells (0, 0) _ (heap_alloc_new _ _) Try.underlying24 rfl (kr_sz _) ?_)
    | (go_at_call 9; (with_reducible refine (of06 p _).mono ?_); rintro e w1 ⟨rfl, hb1⟩; have HB1 := Lib.hid hb1; clear hb1)
    | (go_at_call 8; (with_reducible refine (HF.out _).mono ?_); rintro e w2 ⟨rfl, hb2⟩; have HB2 := Lib.hid hb2; clear hb2)
    | (refine wpList_store_row (o := ⟨none, _, _, _, _, _⟩) rfl 26 (.tmp 3) (.tmp 11) rfl w2.heap.size LayP.zero.cells rfl rfl 26 LayP.zero.cells (heap_alloc_new _ _) (kl_sz _) rfl ?_ ?_; exact kl_one _))
  have hr := round_lay LayP.zero (heap_alloc_new w (.cells p.cells 24)) HB1.out HB2.out
  obtain ⟨_, hx3, hb3, _, _⟩ := hr
  change (Code.region _ _ _).wp _ _ _ ((w2.alloc (.cells LayP.zero.cells 26)).setRow w2.heap.size LayP.zero.cells)
  generalize (w2.alloc (.cells LayP.zero.cells 26)).setRow w2.heap.size LayP.zero.cells = V at hx3 hb3 ⊢
  have HB3 : Hid (Below w.heap.size w V) := ((Below.refl w.heap.size w).alloc (Nat.le_refl _) _).trans (hb3.mono (by simp))
  have HX3 : Hid (V.heap[w2.heap.size]? = some (.cells #[.int .i64 0, .int .i64 0, .int .i64 0, .int .i64 0, .int .i64 0, .int .i64 0, .int .i64 0, .int .i64 0] 26 (0, 0))) := hx3
  clear hb3 hx3
  go_wp2_with (first
    | (refine wpList_load_row (o := ⟨some 15, _, _, _, _, _⟩) rfl 26 (.tmp 3) rfl w2.heap.size rfl 26 #[.int .i64 0, .int .i64 0, .int .i64 0, .int .i64 0, .int .i64 0, .int .i64 0, .int .i64 0, .int .i64 0] (0, 0) _ HX3.out Try.underlying26 rfl (kl_sz LayP.zero) ?_)
    | (go_at_call 13; (with_reducible refine (awake06 _).mono ?_); rintro e w4 ⟨rfl, hb4⟩))
  go_ret
  exact ⟨rfl, HB3.out.trans (hb4.mono HB3.out.size)⟩

set_option maxRecDepth 100000 in
set_option maxHeartbeats 4000000 in
theorem planParts_yes (p : PlanP) (hfit : p.fits = true) (w : World) : Calls Try.prog 5 #[.agg p.cells] w (Good w) := by
  have HF := Lib.hid (fit_any p)
  obtain ⟨e1, e2⟩ := fit_yes hfit
  rw [e1, e2] at HF
  obtain ⟨hA, hB2, hC1, hC2⟩ := (fits_iff p).1 hfit
  have hlb := lay_bound hA
  have hsec := hA.sectors
  have hlog := hA.log
  obtain ⟨⟨pe1, pe2⟩, ⟨sl1, sl2⟩, ⟨tr1, tr2⟩, ⟨rr1, rr2⟩, _, _⟩ := hlb
  have hx0 : p.lay.log = 2 := rfl
  have hx1 : 2 + p.log = p.lay.region := rfl
  have hx2 : p.lay.region + p.regions * p.rs = p.lay.page := rfl
  have hx3 : p.lay.page + p.lay.pages = p.sectors := by show (2 + p.log + p.regions * p.rs) + (p.sectors - (2 + p.log + p.regions * p.rs)) = _; omega
  have hw1 : wrap64 (p.regions * p.rs) = p.regions * p.rs := IntWalk.wrap64_in _ ⟨by omega, by omega⟩
  have hQ : p.sectors < 16384 → Hid (∀ W, Calls Try.prog 8 #[.agg (p.withS (p.sectors + 1)).cells] W fun e w' => e = .returned (.tuple #[.agg ({ p.lay with pages := p.lay.pages + 1 } : LayP).cells, .int .i64 0]) ∧ Below W.heap.size W w') := fun hlt W => by
    have hq1 := fits_withS hfit (s := p.sectors + 1) (by omega) (by omega)
    have := fit_any (p.withS (p.sectors + 1)) W
    rw [(fit_yes hq1).1, (fit_yes hq1).2, withS_lay, show p.sectors + 1 - p.lay.page = p.lay.pages + 1 by omega] at this
    exact this
  obtain ⟨sec1, sec2⟩ := hsec
  obtain ⟨lg1, lg2⟩ := hlog
  have rg1 : 0 ≤ p.lay.region := by omega
  have rg2 : p.lay.region ≤ 300 := by omega
  have pg1 : 0 ≤ p.lay.page := by omega
  have pg2 : p.lay.page ≤ 3000 := by omega
  have n1 : 0 ≤ p.lay.pages := by omega
  clear hfit e1 e2 hA hB2
  generalize p.lay = x at *
  have HX0 := Lib.hid hx0
  have HX := Lib.hid (And.intro hx1 (And.intro hx2 (And.intro hx3 hw1)))
  clear hx0 hx1 hx2 hx3 hw1
  go_enter Try.func5, Try.ntmps5
  go_upto_region 2 with (first
    | (refine wpList_load_row (o := ⟨some 8, _, _, _, _, _⟩) rfl 24 (.tmp 1) rfl w.heap.size rfl 24 p.cells (0, 0) _ (heap_alloc_new _ _) Try.underlying24 rfl (kr_sz _) ?_)
    | (go_at_call 9; (with_reducible refine (of06 p _).mono ?_); rintro e w1 ⟨rfl, hb1⟩; have HB1 := Lib.hid hb1; clear hb1)
    | (go_at_call 8; (with_reducible refine (HF.out _).mono ?_); rintro e w2 ⟨rfl, hb2⟩; have HB2 := Lib.hid hb2; clear hb2)
    | (refine wpList_store_row (o := ⟨none, _, _, _, _, _⟩) rfl 26 (.tmp 3) (.tmp 11) rfl w2.heap.size x.cells rfl rfl 26 LayP.zero.cells (heap_alloc_new _ _) (kl_sz _) rfl ?_ ?_; exact kl_one _))
  have hr1 := round_lay x (heap_alloc_new w (.cells p.cells 24)) HB1.out HB2.out
  change (Code.region _ _ _).wp _ _ _ ((w2.alloc (.cells LayP.zero.cells 26)).setRow w2.heap.size x.cells)
  generalize (w2.alloc (.cells LayP.zero.cells 26)).setRow w2.heap.size x.cells = V1 at hr1 ⊢
  obtain ⟨hp1, hx1, hb1, hs1, hs2⟩ := hr1
  have HB3 : Hid (Below w.heap.size w V1) := ((Below.refl w.heap.size w).alloc (Nat.le_refl _) _).trans (hb1.mono (by simp))
  have HP1 := Lib.hid hp1
  have HX1 := Lib.hid hx1
  have HXS : Hid (w.heap.size < w2.heap.size) := by unfold Hid; simp at hs1; omega
  have c0 : V1.cell? ⟨w.heap.size, 0, none⟩ = some (.int .i64 p.sectors) := blk_cell hp1 0
  have c2 : V1.cell? ⟨w.heap.size, 2, none⟩ = some (.int .i64 p.regions) := blk_cell hp1 2
  have c3 : V1.cell? ⟨w.heap.size, 3, none⟩ = some (.int .i64 p.rs) := blk_cell hp1 3
  have c4 : V1.cell? ⟨w.heap.size, 4, none⟩ = some (.int .i64 p.log) := blk_cell hp1 4
  have f0 := blk_frozen hp1 0
  have x0 : V1.cell? ⟨w2.heap.size, 0, none⟩ = some (.int .i64 2) := by rw [← HX0.out]; exact blk_cell hx1 0
  have x1 : V1.cell? ⟨w2.heap.size, 1, none⟩ = some (.int .i64 x.region) := blk_cell hx1 1
  have x2 : V1.cell? ⟨w2.heap.size, 2, none⟩ = some (.int .i64 x.page) := blk_cell hx1 2
  have x3 : V1.cell? ⟨w2.heap.size, 3, none⟩ = some (.int .i64 x.pages) := blk_cell hx1 3
  have x4 : V1.cell? ⟨w2.heap.size, 4, none⟩ = some (.int .i64 x.per) := blk_cell hx1 4
  have x5 : V1.cell? ⟨w2.heap.size, 5, none⟩ = some (.int .i64 x.slots) := blk_cell hx1 5
  have x6 : V1.cell? ⟨w2.heap.size, 6, none⟩ = some (.int .i64 x.tree) := blk_cell hx1 6
  clear hp1 hx1 hb1 hs1 hs2
  obtain ⟨y1, y2, y3, y4⟩ := HX.out
  by_cases hlt : p.sectors < 16384
  · have HQ := hQ hlt
    clear hQ
    go_upto_region 8 with (fail)
    obtain ⟨y, hy⟩ : ∃ y : LayP, { x with pages := x.pages + 1 } = y := ⟨_, rfl⟩
    have hyp : y.pages = x.pages + 1 := by rw [← hy]
    rw [hy] at HQ
    have HYP := Lib.hid hyp
    clear hy hyp y1 y2 y3 y4
    have hp2 : (V1.setCell ⟨w.heap.size, 0, none⟩ (.int .i64 (p.sectors + 1))).heap[w.heap.size]? = some (.cells (p.withS (p.sectors + 1)).cells 24 (0, 0)) := by
      rw [← withS_cells]; exact blk_set HP1.out 0 _
    have hx2 : (V1.setCell ⟨w.heap.size, 0, none⟩ (.int .i64 (p.sectors + 1))).heap[w2.heap.size]? = some (.cells x.cells 26 (0, 0)) := (Below.heap_setCell _ _ _ _ (by show w2.heap.size ≠ w.heap.size; have := HXS.out; omega)).trans HX1.out
    have hb2 : Below w.heap.size w (V1.setCell ⟨w.heap.size, 0, none⟩ (.int .i64 (p.sectors + 1))) := HB3.out.setCell (p := ⟨w.heap.size, 0, none⟩) (Nat.le_refl _) _
    generalize V1.setCell ⟨w.heap.size, 0, none⟩ (.int .i64 (p.sectors + 1)) = V2 at hp2 hx2 hb2 ⊢
    have HP2 := Lib.hid hp2
    have HX2 := Lib.hid hx2
    have HW2 := Lib.hid hb2
    clear hp2 hx2 hb2 c0 c2 c3 c4 f0 x0 x1 x2 x3 x4 x5 x6
    go_upto_region 9 with (first
      | (refine wpList_load_row (o := ⟨some 84, _, _, _, _, _⟩) rfl 24 (.tmp 1) rfl w.heap.size rfl 24 (p.withS (p.sectors + 1)).cells (0, 0) _ HP2.out Try.underlying24 rfl (kr_sz _) ?_)
      | (go_at_call 9; (with_reducible refine (of06 (p.withS (p.sectors + 1)) _).mono ?_); rintro e w3 ⟨rfl, hb3⟩; have HC3 := Lib.hid hb3; clear hb3)
      | (go_at_call 8; (with_reducible refine (HQ.out _).mono ?_); rintro e w4 ⟨rfl, hb4⟩; have HC4 := Lib.hid hb4; clear hb4)
      | (refine wpList_store_row (o := ⟨none, _, _, _, _, _⟩) rfl 26 (.tmp 5) (.tmp 87) rfl w4.heap.size y.cells rfl rfl 26 LayP.zero.cells (heap_alloc_new _ _) (kl_sz _) rfl ?_ ?_; exact kl_one _))
    have hr3 := round_lay y HP2.out HC3.out HC4.out
    change (Code.region _ _ _).wp _ _ _ ((w4.alloc (.cells LayP.zero.cells 26)).setRow w4.heap.size y.cells)
    generalize (w4.alloc (.cells LayP.zero.cells 26)).setRow w4.heap.size y.cells = V3 at hr3 ⊢
    obtain ⟨_, hy3, hb3, _, _⟩ := hr3
    have HB5 : Hid (Below w.heap.size w V3) := HW2.out.trans (hb3.mono HW2.out.size)
    have hx3 : V3.heap[w2.heap.size]? = some (.cells x.cells 26 (0, 0)) := (hb3.block _ (blk_lt HX2.out)).trans HX2.out
    have x3 : V3.cell? ⟨w2.heap.size, 3, none⟩ = some (.int .i64 x.pages) := blk_cell hx3 3
    have y3 : V3.cell? ⟨w4.heap.size, 3, none⟩ = some (.int .i64 (x.pages + 1)) := by rw [← HYP.out]; exact blk_cell hy3 3
    clear hb3 hx3 hy3
    have n2 : x.pages ≤ 16384 := by omega
    go_wp2_with (go_at_call 13; (with_reducible refine (awake06 _).mono ?_); rintro e w7 ⟨rfl, hb7⟩)
    go_ret
    exact ⟨rfl, HB5.out.trans (hb7.mono HB5.out.size)⟩
  · have hge : 16384 ≤ p.sectors := by omega
    clear hQ hlt
    go_wp2_with (go_at_call 13; (with_reducible refine (awake06 _).mono ?_); rintro e w7 ⟨rfl, hb7⟩)
    go_ret
    exact ⟨rfl, HB3.out.trans (hb7.mono HB3.out.size)⟩

theorem planParts_walk (p : PlanP) (w : World) : Calls Try.prog 5 #[.agg p.cells] w (Good w) := by
  cases h : p.fits with
  | true => exact planParts_yes p h w
  | false => exact planParts_no p h w

set_option maxRecDepth 100000 in
theorem planParts_lifted (os : Os) (started : os.Started) (H : Type) (enc : TypeId × Value → H) :
    ReturnsInHanded {} Try.checked os 5 .any (Rows.planPartsSpec.pre6 enc Try.prog Try.f5 Rows.planPartsRow.domain false) (Rows.planPartsSpec.post enc Try.prog Try.f5 false true false false) :=
  law_lifted 5 Try.f5 Rows.planPartsSpec Try.func5 (by kernel_rfl) rfl rfl
    (fun ds h => by match ds, h with | [_], _ => rfl) (by kernel_rfl) os started
    (ChangeSpec.witness6 (enc := enc) (C := Try.checked) false ⟨#[], #[.agg #[.int .i64 0, .int .i64 0, .int .i64 0, .int .i64 0, .int .i64 0, .int .i64 0, .int .i64 0, .int .u64 0]], []⟩ 8 (by kernel_rfl) (by kernel_rfl) (by kernel_rfl) (by kernel_rfl))
    fun W args ds ps hval hA => by
      rw [Try.params5] at hA hval
      obtain ⟨v0, vs0, d0, ds0, p0, q0, hargs, rfl, rfl, h0, r0⟩ := trodAll_cons hA
      obtain ⟨rfl, rfl, rfl⟩ := trodAll_nil r0
      obtain rfl : args = #[v0] := by cases args; simp_all
      obtain ⟨b0, o0⟩ := hval 0 _ v0 rfl rfl
      obtain ⟨q0, rfl, hq0⟩ := open_plan o0 h0
      exact planParts_walk q0 W

/-- The statement. -/
theorem planParts_holds : Rows.PlanPartsSaid :=
  OpenClaim.holds_of_wide 5 Try.f5 rfl rfl rfl rfl rfl rfl rfl ⟨rfl, rfl, rfl, rfl, rfl⟩ rfl rfl rfl rfl rfl (by kernel_rfl) Try.func5 (by kernel_rfl)
    (of_decide_eq_true (by kernel_rfl)) (by unfold Func.isWrapper; first | (rw [if_pos (by decide +kernel)]; kernel_rfl) | (rw [if_neg (by decide +kernel)]; exact ⟨rfl, rfl⟩))
    (fun os started H enc _ => planParts_lifted os started H enc)
#print axioms planParts_holds

end Go.Proofs.Ytcaahpnpddhiiaa

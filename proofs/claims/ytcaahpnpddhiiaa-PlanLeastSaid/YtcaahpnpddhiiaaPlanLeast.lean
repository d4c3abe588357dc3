/-
  Proved: a plan that has a layout has one with just as many pages as three trees and 4, and with one less none. Whatever plan comes in, the law PlanLeast answers true and the argument reads as it did.
  Conditions: none.
-/
import Derived.Test.YtcaahpnpddhiiaaPlanLaw2
namespace Go.Proofs.Ytcaahpnpddhiiaa
open Go.ChangeShapes Go.WideShapes Go.ChangeAt Go.RowKit

set_option maxRecDepth 100000 in
set_option maxHeartbeats 4000000 in
theorem planLeast_walk (p : PlanP) (w : World) : Calls Try.prog 7 #[.agg p.cells] w (Good w) := by
  have HF := Lib.hid (fit_any p)
  cases hfit : p.fits with
  | false =>
    obtain ⟨e1, e2⟩ := fit_no hfit
    rw [e1, e2] at HF
    clear hfit e1 e2
    go_enter Try.func7, Try.ntmps7
    go_upto_region 2 with (first
      | (refine wpList_load_row (o := ⟨some 10, _, _, _, _, _⟩) rfl 24 (.tmp 1) rfl w.heap.size rfl 24 p.cells (0, 0) _ (heap_alloc_new _ _) Try.underlying24 rfl (kr_sz _) ?_)
      | (go_at_call 9; (with_reducible refine (of06 p _).mono ?_); rintro e w1 ⟨rfl, hb1⟩; have HB1 := Lib.hid hb1; clear hb1)
      | (go_at_call 8; (with_reducible refine (HF.out _).mono ?_); rintro e w2 ⟨rfl, hb2⟩; have HB2 := Lib.hid hb2; clear hb2)
      | (refine wpList_store_row (o := ⟨none, _, _, _, _, _⟩) rfl 26 (.tmp 3) (.tmp 13) rfl w2.heap.size LayP.zero.cells rfl rfl 26 LayP.zero.cells (heap_alloc_new _ _) (kl_sz _) rfl ?_ ?_; exact kl_one _))
    have hr := round_lay LayP.zero (heap_alloc_new w (.cells p.cells 24)) HB1.out HB2.out
    obtain ⟨_, _, hb3, _, _⟩ := hr
    change (Code.region _ _ _).wp _ _ _ ((w2.alloc (.cells LayP.zero.cells 26)).setRow w2.heap.size LayP.zero.cells)
    generalize (w2.alloc (.cells LayP.zero.cells 26)).setRow w2.heap.size LayP.zero.cells = V at hb3 ⊢
    have HB3 : Hid (Below w.heap.size w V) := ((Below.refl w.heap.size w).alloc (Nat.le_refl _) _).trans (hb3.mono (by simp))
    clear hb3
    go_wp2_with (go_at_call 13; (with_reducible refine (awake06 _).mono ?_); rintro e w4 ⟨rfl, hb4⟩)
    go_ret
    exact ⟨rfl, HB3.out.trans (hb4.mono HB3.out.size)⟩
  | true =>
    obtain ⟨e1, e2⟩ := fit_yes hfit
    rw [e1, e2] at HF
    obtain ⟨hA, hB2, hC1, hC2⟩ := (fits_iff p).1 hfit
    have hlb := lay_bound hA
    have hsec := hA.sectors
    have hpg : p.lay.page + p.lay.pages = p.sectors := by show (2 + p.log + p.regions * p.rs) + (p.sectors - (2 + p.log + p.regions * p.rs)) = _; omega
    have hpg2 : 2 ≤ p.lay.page := by
      show 2 ≤ 2 + p.log + p.regions * p.rs
      have := hA.log; have := hlb.2.2.2.1.1; omega
    obtain ⟨tr1, tr2⟩ := hlb.2.2.1
    have hq1 := fits_withS hfit (s := p.lay.page + 3 * p.lay.tree + 4) (by omega) (by omega)
    have hq2 := fits_less (p := p) (s := p.lay.page + 3 * p.lay.tree + 4 - 1) (by omega)
    have HQ := Lib.hid (fit_any (p.withS (p.lay.page + 3 * p.lay.tree + 4)))
    have HR := Lib.hid (fit_any (p.withS (p.lay.page + 3 * p.lay.tree + 4 - 1)))
    rw [(fit_yes hq1).1, (fit_yes hq1).2, withS_lay] at HQ
    rw [(fit_no hq2).1, (fit_no hq2).2] at HR
    have hpages : p.lay.page + 3 * p.lay.tree + 4 - p.lay.page = 3 * p.lay.tree + 4 := by omega
    rw [hpages] at HQ
    have hpgb : p.lay.page ≤ 16384 := by omega
    clear hfit e1 e2 hA hB2 hC1 hC2 hlb hsec hpg hq1 hq2 hpages
    generalize p.lay = x at *
    obtain ⟨y, hy⟩ : ∃ y : LayP, { x with pages := 3 * x.tree + 4 } = y := ⟨_, rfl⟩
    have hyp : y.pages = 3 * x.tree + 4 := by rw [← hy]
    rw [hy] at HQ
    have HYP := Lib.hid hyp
    clear hy hyp
    go_enter Try.func7, Try.ntmps7
    go_upto_region 2 with (first
      | (refine wpList_load_row (o := ⟨some 10, _, _, _, _, _⟩) rfl 24 (.tmp 1) rfl w.heap.size rfl 24 p.cells (0, 0) _ (heap_alloc_new _ _) Try.underlying24 rfl (kr_sz _) ?_)
      | (go_at_call 9; (with_reducible refine (of06 p _).mono ?_); rintro e w1 ⟨rfl, hb1⟩; have HB1 := Lib.hid hb1; clear hb1)
      | (go_at_call 8; (with_reducible refine (HF.out _).mono ?_); rintro e w2 ⟨rfl, hb2⟩; have HB2 := Lib.hid hb2; clear hb2)
      | (refine wpList_store_row (o := ⟨none, _, _, _, _, _⟩) rfl 26 (.tmp 3) (.tmp 13) rfl w2.heap.size x.cells rfl rfl 26 LayP.zero.cells (heap_alloc_new _ _) (kl_sz _) rfl ?_ ?_; exact kl_one _))
    have hr1 := round_lay x (heap_alloc_new w (.cells p.cells 24)) HB1.out HB2.out
    change (Code.region _ _ _).wp _ _ _ ((w2.alloc (.cells LayP.zero.cells 26)).setRow w2.heap.size x.cells)
    generalize (w2.alloc (.cells LayP.zero.cells 26)).setRow w2.heap.size x.cells = V1 at hr1 ⊢
    obtain ⟨hp1, hx1, hb1, hs1, hs2⟩ := hr1
    have HB3 : Hid (Below w.heap.size w V1) := ((Below.refl w.heap.size w).alloc (Nat.le_refl _) _).trans (hb1.mono (by simp))
    have HP1 := Lib.hid hp1
    have HX1 := Lib.hid hx1
    have HX : Hid (w.heap.size < w2.heap.size) := by unfold Hid; simp at hs1; omega
    have c0 : V1.cell? ⟨w.heap.size, 0, none⟩ = some (.int .i64 p.sectors) := blk_cell hp1 0
    have f0 := blk_frozen hp1 0
    have x2 : V1.cell? ⟨w2.heap.size, 2, none⟩ = some (.int .i64 x.page) := blk_cell hx1 2
    have x6 : V1.cell? ⟨w2.heap.size, 6, none⟩ = some (.int .i64 x.tree) := blk_cell hx1 6
    clear hp1 hx1 hb1 hs1 hs2
    go_upto_region 5 with (fail)
    have hp2 : (V1.setCell ⟨w.heap.size, 0, none⟩ (.int .i64 (x.page + 3 * x.tree + 4))).heap[w.heap.size]? = some (.cells (p.withS (x.page + 3 * x.tree + 4)).cells 24 (0, 0)) := by
      rw [← withS_cells]; exact blk_set HP1.out 0 _
    have hx2 : (V1.setCell ⟨w.heap.size, 0, none⟩ (.int .i64 (x.page + 3 * x.tree + 4))).heap[w2.heap.size]? = some (.cells x.cells 26 (0, 0)) := (Below.heap_setCell _ _ _ _ (by show w2.heap.size ≠ w.heap.size; have := HX.out; omega)).trans HX1.out
    have hb2 : Below w.heap.size w (V1.setCell ⟨w.heap.size, 0, none⟩ (.int .i64 (x.page + 3 * x.tree + 4))) := HB3.out.setCell (p := ⟨w.heap.size, 0, none⟩) (Nat.le_refl _) _
    generalize V1.setCell ⟨w.heap.size, 0, none⟩ (.int .i64 (x.page + 3 * x.tree + 4)) = V2 at hp2 hx2 hb2 ⊢
    have HP2 := Lib.hid hp2
    have HX2 := Lib.hid hx2
    have HW2 := Lib.hid hb2
    clear hp2 hx2 hb2 c0 f0 x2 x6
    go_upto_region 6 with (first
      | (refine wpList_load_row (o := ⟨some 27, _, _, _, _, _⟩) rfl 24 (.tmp 1) rfl w.heap.size rfl 24 (p.withS (x.page + 3 * x.tree + 4)).cells (0, 0) _ HP2.out Try.underlying24 rfl (kr_sz _) ?_)
      | (go_at_call 9; (with_reducible refine (of06 (p.withS (x.page + 3 * x.tree + 4)) _).mono ?_); rintro e w3 ⟨rfl, hb3⟩; have HB3 := Lib.hid hb3; clear hb3)
      | (go_at_call 8; (with_reducible refine (HQ.out _).mono ?_); rintro e w4 ⟨rfl, hb4⟩; have HB4 := Lib.hid hb4; clear hb4)
      | (refine wpList_store_row (o := ⟨none, _, _, _, _, _⟩) rfl 26 (.tmp 5) (.tmp 30) rfl w4.heap.size y.cells rfl rfl 26 LayP.zero.cells (heap_alloc_new _ _) (kl_sz _) rfl ?_ ?_; exact kl_one _))
    have hr3 := round_lay y HP2.out HB3.out HB4.out
    change (Code.region _ _ _).wp _ _ _ ((w4.alloc (.cells LayP.zero.cells 26)).setRow w4.heap.size y.cells)
    generalize (w4.alloc (.cells LayP.zero.cells 26)).setRow w4.heap.size y.cells = V3 at hr3 ⊢
    obtain ⟨hp3, hy3, hb3, hs3, hs4⟩ := hr3
    have HB5 : Hid (Below w.heap.size w V3) := HW2.out.trans (hb3.mono HW2.out.size)
    have hxl := blk_lt HX2.out
    have hx3 : V3.heap[w2.heap.size]? = some (.cells x.cells 26 (0, 0)) := (hb3.block _ hxl).trans HX2.out
    have HP3 := Lib.hid hp3
    have HX3 := Lib.hid hx3
    have HY3 := Lib.hid hy3
    have HYB : Hid (w.heap.size < w4.heap.size ∧ w2.heap.size < w4.heap.size) := ⟨hs4, by omega⟩
    have c0 : V3.cell? ⟨w.heap.size, 0, none⟩ = some (.int .i64 (x.page + 3 * x.tree + 4)) := blk_cell hp3 0
    have f0 := blk_frozen hp3 0
    clear hp3 hx3 hy3 hb3 hs3 hs4 hxl
    go_upto_region 7 with (fail)
    have hp4 : (V3.setCell ⟨w.heap.size, 0, none⟩ (.int .i64 (x.page + 3 * x.tree + 4 - 1))).heap[w.heap.size]? = some (.cells (p.withS (x.page + 3 * x.tree + 4 - 1)).cells 24 (0, 0)) := by
      have := blk_set HP3.out 0 (.int .i64 (x.page + 3 * x.tree + 4 - 1))
      exact this
    have hx4 : (V3.setCell ⟨w.heap.size, 0, none⟩ (.int .i64 (x.page + 3 * x.tree + 4 - 1))).heap[w2.heap.size]? = some (.cells x.cells 26 (0, 0)) := (Below.heap_setCell _ _ _ _ (by show w2.heap.size ≠ w.heap.size; have := HX.out; omega)).trans HX3.out
    have hy4 : (V3.setCell ⟨w.heap.size, 0, none⟩ (.int .i64 (x.page + 3 * x.tree + 4 - 1))).heap[w4.heap.size]? = some (.cells y.cells 26 (0, 0)) := (Below.heap_setCell _ _ _ _ (by show w4.heap.size ≠ w.heap.size; have := HYB.out; omega)).trans HY3.out
    have hb4 : Below w.heap.size w (V3.setCell ⟨w.heap.size, 0, none⟩ (.int .i64 (x.page + 3 * x.tree + 4 - 1))) := HB5.out.setCell (p := ⟨w.heap.size, 0, none⟩) (Nat.le_refl _) _
    generalize V3.setCell ⟨w.heap.size, 0, none⟩ (.int .i64 (x.page + 3 * x.tree + 4 - 1)) = V4 at hp4 hx4 hy4 hb4 ⊢
    have HP4 := Lib.hid hp4
    have HX4 := Lib.hid hx4
    have HY4 := Lib.hid hy4
    have HW4 := Lib.hid hb4
    clear hp4 hx4 hy4 hb4 c0 f0
    go_upto_region 8 with (first
      | (refine wpList_load_row (o := ⟨some 37, _, _, _, _, _⟩) rfl 24 (.tmp 1) rfl w.heap.size rfl 24 (p.withS (x.page + 3 * x.tree + 4 - 1)).cells (0, 0) _ HP4.out Try.underlying24 rfl (kr_sz _) ?_)
      | (go_at_call 9; (with_reducible refine (of06 (p.withS (x.page + 3 * x.tree + 4 - 1)) _).mono ?_); rintro e w5 ⟨rfl, hb5⟩; have HC5 := Lib.hid hb5; clear hb5)
      | (go_at_call 8; (with_reducible refine (HR.out _).mono ?_); rintro e w6 ⟨rfl, hb6⟩; have HC6 := Lib.hid hb6; clear hb6)
      | (refine wpList_store_row (o := ⟨none, _, _, _, _, _⟩) rfl 26 (.tmp 7) (.tmp 40) rfl w6.heap.size LayP.zero.cells rfl rfl 26 LayP.zero.cells (heap_alloc_new _ _) (kl_sz _) rfl ?_ ?_; exact kl_one _))
    have hr5 := round_lay LayP.zero HP4.out HC5.out HC6.out
    change (Code.region _ _ _).wp _ _ _ ((w6.alloc (.cells LayP.zero.cells 26)).setRow w6.heap.size LayP.zero.cells)
    generalize (w6.alloc (.cells LayP.zero.cells 26)).setRow w6.heap.size LayP.zero.cells = V5 at hr5 ⊢
    obtain ⟨_, _, hb5, _, _⟩ := hr5
    have HW5 : Hid (Below w.heap.size w V5) := HW4.out.trans (hb5.mono HW4.out.size)
    have hx5 := (hb5.block _ (blk_lt HX4.out)).trans HX4.out
    have hy5 := (hb5.block _ (blk_lt HY4.out)).trans HY4.out
    have x6 : V5.cell? ⟨w2.heap.size, 6, none⟩ = some (.int .i64 x.tree) := blk_cell hx5 6
    have y3 : V5.cell? ⟨w4.heap.size, 3, none⟩ = some (.int .i64 (3 * x.tree + 4)) := by rw [← HYP.out]; exact blk_cell hy5 3
    clear hb5 hx5 hy5
    go_wp2_with (go_at_call 13; (with_reducible refine (awake06 _).mono ?_); rintro e w7 ⟨rfl, hb7⟩)
    go_ret
    exact ⟨rfl, HW5.out.trans (hb7.mono HW5.out.size)⟩

set_option maxRecDepth 100000 in
theorem planLeast_lifted (os : Os) (started : os.Started) (H : Type) (enc : TypeId × Value → H) :
    ReturnsInHanded {} Try.checked os 7 .any (Rows.planLeastSpec.pre6 enc Try.prog Try.f7 Rows.planLeastRow.domain false) (Rows.planLeastSpec.post enc Try.prog Try.f7 false true false false) :=
  law_lifted 7 Try.f7 Rows.planLeastSpec Try.func7 (by kernel_rfl) rfl rfl
    (fun ds h => by match ds, h with | [_], _ => rfl) (by kernel_rfl) os started
    (ChangeSpec.witness6 (enc := enc) (C := Try.checked) false ⟨#[], #[.agg #[.int .i64 0, .int .i64 0, .int .i64 0, .int .i64 0, .int .i64 0, .int .i64 0, .int .i64 0, .int .u64 0]], []⟩ 8 (by kernel_rfl) (by kernel_rfl) (by kernel_rfl) (by kernel_rfl))
    fun W args ds ps hval hA => by
      rw [Try.params7] at hA hval
      obtain ⟨v0, vs0, d0, ds0, p0, q0, hargs, rfl, rfl, h0, r0⟩ := trodAll_cons hA
      obtain ⟨rfl, rfl, rfl⟩ := trodAll_nil r0
      obtain rfl : args = #[v0] := by cases args; simp_all
      obtain ⟨b0, o0⟩ := hval 0 _ v0 rfl rfl
      obtain ⟨q0, rfl, hq0⟩ := open_plan o0 h0
      exact planLeast_walk q0 W

/-- The statement. -/
theorem planLeast_holds : Rows.PlanLeastSaid :=
  OpenClaim.holds_of_wide 7 Try.f7 rfl rfl rfl rfl rfl rfl rfl ⟨rfl, rfl, rfl, rfl, rfl⟩ rfl rfl rfl rfl rfl (by kernel_rfl) Try.func7 (by kernel_rfl)
    (of_decide_eq_true (by kernel_rfl)) (by unfold Func.isWrapper; first | (rw [if_pos (by decide +kernel)]; kernel_rfl) | (rw [if_neg (by decide +kernel)]; exact ⟨rfl, rfl⟩))
    (fun os started H enc _ => planLeast_lifted os started H enc)
#print axioms planLeast_holds

end Go.Proofs.Ytcaahpnpddhiiaa

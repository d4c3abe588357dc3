/-
  PlanFits: its walk.
  Conditions: what the reference's Fit answers.
-/
import Derived.Test.YthdclndpckojcaaPlanBack
import Derived.Test.YthdclndpckojcaaRefUnpackQ
import Derived.Test.YthdclndpckojcaaRefPack6
import Derived.Deep.RegionHeldLaw
import Derived.Test.YthdclndpckojcaaStr
namespace Go.Proofs.Ythdclndpckojcaa
open Go.ChangeShapes Go.WideShapes Go.ChangeAt Go.RowKit

set_option maxRecDepth 100000 in
theorem lay_eql (a0 a1 a2 a3 a4 a5 a6 a7 : Int) (V : World) : (binOp .eql 26 (.agg #[.int .i64 a0, .int .i64 a1, .int .i64 a2, .int .i64 a3, .int .i64 a4, .int .i64 a5, .int .i64 a6, .int .i64 a7]) (.agg #[.int .i64 a0, .int .i64 a1, .int .i64 a2, .int .i64 a3, .int .i64 a4, .int .i64 a5, .int .i64 a6, .int .i64 a7])).run Try.prog V = .ok (.bool true) V := by
  rw [run_eql_struct, show (10000 : Nat) = 9999 + 1 from rfl, run_equalIn_struct _ _ _ _ _ (by kernel_rfl) (by kernel_rfl)]
  have h3 : ∀ (a : Int) (W : World), (Op.equalIn 9999 3 (.int .i64 a) (.int .i64 a)).run Try.prog W = .ok true W := fun a W => by
    rw [show (9999 : Nat) = 9998 + 1 from rfl, run_equalIn_int W 9998 3 .i64 _ a a Try.underlying3, beq_self_eq_true]
  simp [Program.fieldsOf, Try.underlying26, Op.eqFields, part, h3]
set_option maxRecDepth 100000 in
theorem lay_guard (a0 a1 a2 a3 a4 a5 a6 a7 : Int) (x y : Operand) (V : World) : (eqGuard .eql 26 x y (.agg #[.int .i64 a0, .int .i64 a1, .int .i64 a2, .int .i64 a3, .int .i64 a4, .int .i64 a5, .int .i64 a6, .int .i64 a7]) (.agg #[.int .i64 a0, .int .i64 a1, .int .i64 a2, .int .i64 a3, .int .i64 a4, .int .i64 a5, .int .i64 a6, .int .i64 a7])).run Try.prog V = .ok () V := run_eqGuard_agg _ _ _ _ _ _ _ (by kernel_rfl)
section
attribute [-go_sem] run_eql_struct run_eqGuard_agg
attribute [local go_sem] lay_eql lay_guard
set_option maxRecDepth 100000 in
set_option maxHeartbeats 8000000 in
theorem planFits_walk (hRF : RefFits) (p : PlanP) (w : World) : Calls Try.prog 3 #[.agg p.cells] w (Good w) := by
  have HF := Lib.hid (fit_any p)
  have HRF := Lib.hid (hRF p)
  have HPK := Lib.hid (pack_any p)
  have HRP := Lib.hid (refPack_any p)
  obtain ⟨x, hx⟩ : ∃ x, p.fit = x := ⟨_, rfl⟩
  obtain ⟨er, her⟩ : ∃ er, p.err = er := ⟨_, rfl⟩
  obtain ⟨bs, hbs⟩ : ∃ bs, p.bytes = bs := ⟨_, rfl⟩
  rw [hx, her] at HF HRF
  rw [hbs] at HPK HRP
  clear hx her hbs hRF
  go_enter Try.func3, Try.ntmps3
  go_upto_region 2 with (first
    | (refine wpList_load_row (o := ⟨some 8, _, _, _, _, _⟩) rfl 24 (.tmp 1) rfl w.heap.size rfl 24 p.cells (0, 0) _ (heap_alloc_new _ _) Try.underlying24 rfl (kr_sz _) ?_)
    | (go_at_call 6; (with_reducible refine (of06 p _).mono ?_); rintro e w1 ⟨rfl, hb1⟩; have HB1 := Lib.hid hb1; clear hb1)
    | (go_at_call 5; (with_reducible refine (HF.out _).mono ?_); rintro e w2 ⟨rfl, hb2⟩; have HB2 := Lib.hid hb2; clear hb2)
    | (refine wpList_store_row (o := ⟨none, _, _, _, _, _⟩) rfl 26 (.tmp 3) (.tmp 11) rfl w2.heap.size x.cells rfl rfl 26 LayP.zero.cells (heap_alloc_new _ _) (kl_sz _) rfl ?_ ?_; exact kl_one _))
  have hr := round_lay x (heap_alloc_new w (.cells p.cells 24)) HB1.out HB2.out
  change (Code.region _ _ _).wp _ _ _ ((w2.alloc (.cells LayP.zero.cells 26)).setRow w2.heap.size x.cells)
  generalize (w2.alloc (.cells LayP.zero.cells 26)).setRow w2.heap.size x.cells = V at hr ⊢
  obtain ⟨hp1, hl1, hb3, _, _⟩ := hr
  have HP1 := Lib.hid hp1
  have HL1 := Lib.hid hl1
  have HB3 : Hid (Below w.heap.size w V) := ((Below.refl w.heap.size w).alloc (Nat.le_refl _) _).trans (hb3.mono (by simp))
  obtain ⟨L1, hL1⟩ : ∃ L1, w2.heap.size = L1 := ⟨_, rfl⟩
  rw [hL1] at HL1 ⊢
  clear hp1 hl1 hb3 HB1 HB2 HF hL1
  go_upto_region 3 with (first
    | (refine wpList_load_row (o := ⟨some 14, _, _, _, _, _⟩) rfl 24 (.tmp 1) rfl w.heap.size rfl 24 p.cells (0, 0) _ HP1.out Try.underlying24 rfl (kr_sz _) ?_)
    | (go_at_call 7; (with_reducible refine (HRF.out _).mono ?_); rintro e w5 ⟨rfl, hb5⟩; have HB5 := Lib.hid hb5; clear hb5)
    | (refine wpList_store_row (o := ⟨none, _, _, _, _, _⟩) rfl 32 (.tmp 5) (.tmp 16) rfl w5.heap.size x.cells rfl rfl 32 LayP.zero.cells (heap_alloc_new _ _) (klr_sz _) rfl ?_ ?_; exact kl_one _))
  have hbw : Below w5.heap.size w5 ((w5.alloc (.cells LayP.zero.cells 32)).setRow w5.heap.size x.cells) := below_setRow ((Below.refl _ _).alloc (Nat.le_refl _) _) (Nat.le_refl _) _
  have hP2 : ((w5.alloc (.cells LayP.zero.cells 32)).setRow w5.heap.size x.cells).heap[w5.heap.size]? = some (.cells x.cells 32 (0, 0)) := setRow_heap _ _ _ _ _ _ (heap_alloc_new _ _)
  change (Code.region _ _ _).wp _ _ _ ((w5.alloc (.cells LayP.zero.cells 32)).setRow w5.heap.size x.cells)
  generalize (w5.alloc (.cells LayP.zero.cells 32)).setRow w5.heap.size x.cells = V2 at hbw hP2 ⊢
  have hb42 : Below V.heap.size V V2 := HB5.out.trans (hbw.mono HB5.out.size)
  have hq1 : V2.drew.heap[L1]? = some (.cells x.cells 26 (0, 0)) := (hb42.block _ (blk_lt HL1.out)).trans HL1.out
  have hq2 : V2.drew.heap[w5.heap.size]? = some (.cells x.cells 32 (0, 0)) := hP2
  have hq3 : V2.drew.heap[w.heap.size]? = some (.cells p.cells 24 (0, 0)) := (hb42.block _ (blk_lt HP1.out)).trans HP1.out
  have HB6 := Lib.hid (HB3.out.trans (hb42.mono HB3.out.size))
  obtain ⟨L2, hL2⟩ : ∃ L2, w5.heap.size = L2 := ⟨_, rfl⟩
  obtain ⟨X, hX⟩ : ∃ X, w.heap.size = X := ⟨_, rfl⟩
  rw [hL2] at hq2 ⊢
  rw [hX] at hq3 ⊢
  have HS : Hid (∀ W, Below V2.heap.size V2 W → W.cell? ⟨L1, 0, none⟩ = some (.int .i64 x.log) ∧ W.cell? ⟨L1, 1, none⟩ = some (.int .i64 x.region) ∧ W.cell? ⟨L1, 2, none⟩ = some (.int .i64 x.page) ∧ W.cell? ⟨L1, 3, none⟩ = some (.int .i64 x.pages) ∧ W.cell? ⟨L1, 4, none⟩ = some (.int .i64 x.per) ∧ W.cell? ⟨L1, 5, none⟩ = some (.int .i64 x.slots) ∧ W.cell? ⟨L1, 6, none⟩ = some (.int .i64 x.tree) ∧ W.cell? ⟨L1, 7, none⟩ = some (.int .i64 x.room) ∧ W.cell? ⟨L2, 0, none⟩ = some (.int .i64 x.log) ∧ W.cell? ⟨L2, 1, none⟩ = some (.int .i64 x.region) ∧ W.cell? ⟨L2, 2, none⟩ = some (.int .i64 x.page) ∧ W.cell? ⟨L2, 3, none⟩ = some (.int .i64 x.pages) ∧ W.cell? ⟨L2, 4, none⟩ = some (.int .i64 x.per) ∧ W.cell? ⟨L2, 5, none⟩ = some (.int .i64 x.slots) ∧ W.cell? ⟨L2, 6, none⟩ = some (.int .i64 x.tree) ∧ W.cell? ⟨L2, 7, none⟩ = some (.int .i64 x.room) ∧ W.cell? ⟨X, 0, none⟩ = some (.int .i64 p.sectors) ∧ W.cell? ⟨X, 1, none⟩ = some (.int .i64 p.size) ∧ W.cell? ⟨X, 2, none⟩ = some (.int .i64 p.regions) ∧ W.cell? ⟨X, 3, none⟩ = some (.int .i64 p.rs) ∧ W.cell? ⟨X, 4, none⟩ = some (.int .i64 p.log) ∧ W.cell? ⟨X, 5, none⟩ = some (.int .i64 p.depth) ∧ W.cell? ⟨X, 6, none⟩ = some (.int .i64 p.memory) ∧ W.cell? ⟨X, 7, none⟩ = some (.int .u64 (U p.seed))) := fun W hW => by
    have h1 := (hW.block _ (blk_lt hq1)).trans hq1
    have h2 := (hW.block _ (blk_lt hq2)).trans hq2
    have h3 := (hW.block _ (blk_lt hq3)).trans hq3
    exact ⟨blk_cell h1 0, blk_cell h1 1, blk_cell h1 2, blk_cell h1 3, blk_cell h1 4, blk_cell h1 5, blk_cell h1 6, blk_cell h1 7, blk_cell h2 0, blk_cell h2 1, blk_cell h2 2, blk_cell h2 3, blk_cell h2 4, blk_cell h2 5, blk_cell h2 6, blk_cell h2 7, blk_cell h3 0, blk_cell h3 1, blk_cell h3 2, blk_cell h3 3, blk_cell h3 4, blk_cell h3 5, blk_cell h3 6, blk_cell h3 7⟩
  have hee : (er == er) = true := by simp
  have hss : ((strB bs).toList == (strB bs).toList) = true := by rw [strB_beq]; simp
  have HC : Hid (p.cells = #[.int .i64 p.sectors, .int .i64 p.size, .int .i64 p.regions, .int .i64 p.rs, .int .i64 p.log, .int .i64 p.depth, .int .i64 p.memory, .int .u64 (U p.seed)]) := rfl
  have HOF := Lib.hid (of06 p)
  rw [HC.out] at HOF HPK HRP
  have hBc := Lib.hid ((Below.refl V2.heap.size V2).drew)
  clear hq1 hq2 hq3 hb42 hbw hP2 HB5 HP1 HL1 HRF HC
  go_cut [2] (fun s2 wx => s2 = .bool true ∧ Below V2.heap.size V2 wx)
  case first =>
    go_region_held_law (fun W => W.cell? ⟨L1, 0, none⟩ = some (.int .i64 x.log) ∧ W.cell? ⟨L1, 1, none⟩ = some (.int .i64 x.region) ∧ W.cell? ⟨L1, 2, none⟩ = some (.int .i64 x.page) ∧ W.cell? ⟨L1, 3, none⟩ = some (.int .i64 x.pages) ∧ W.cell? ⟨L1, 4, none⟩ = some (.int .i64 x.per) ∧ W.cell? ⟨L1, 5, none⟩ = some (.int .i64 x.slots) ∧ W.cell? ⟨L1, 6, none⟩ = some (.int .i64 x.tree) ∧ W.cell? ⟨L1, 7, none⟩ = some (.int .i64 x.room) ∧ W.cell? ⟨L2, 0, none⟩ = some (.int .i64 x.log) ∧ W.cell? ⟨L2, 1, none⟩ = some (.int .i64 x.region) ∧ W.cell? ⟨L2, 2, none⟩ = some (.int .i64 x.page) ∧ W.cell? ⟨L2, 3, none⟩ = some (.int .i64 x.pages) ∧ W.cell? ⟨L2, 4, none⟩ = some (.int .i64 x.per) ∧ W.cell? ⟨L2, 5, none⟩ = some (.int .i64 x.slots) ∧ W.cell? ⟨L2, 6, none⟩ = some (.int .i64 x.tree) ∧ W.cell? ⟨L2, 7, none⟩ = some (.int .i64 x.room) ∧ W.cell? ⟨X, 0, none⟩ = some (.int .i64 p.sectors) ∧ W.cell? ⟨X, 1, none⟩ = some (.int .i64 p.size) ∧ W.cell? ⟨X, 2, none⟩ = some (.int .i64 p.regions) ∧ W.cell? ⟨X, 3, none⟩ = some (.int .i64 p.rs) ∧ W.cell? ⟨X, 4, none⟩ = some (.int .i64 p.log) ∧ W.cell? ⟨X, 5, none⟩ = some (.int .i64 p.depth) ∧ W.cell? ⟨X, 6, none⟩ = some (.int .i64 p.memory) ∧ W.cell? ⟨X, 7, none⟩ = some (.int .u64 (U p.seed)))
      (exact HS.out _ hBc.out)
      (first
      | (go_at_call 6; (with_reducible refine (HOF.out _).mono ?_); rintro e w7 ⟨rfl, hb7⟩; (try (have RA := Lib.hid ((HU8.out.below hb7).mono hb7.size); clear HU8; have HU8 := RA; clear RA; have hc8 := conv_str HU8.out)); (try (have RB := Lib.hid ((HU9.out.below hb7).mono hb7.size); clear HU9; have HU9 := RB; clear RB; have hc9 := conv_str HU9.out)); have hBn := hBc.out.trans (hb7.mono hBc.out.size); clear hBc hb7; have hBc := Lib.hid hBn; clear hBn)
      | (go_at_call 8; (with_reducible refine (HPK.out _).mono ?_); rintro e w8 ⟨u8, rfl, ho8, hb8⟩; have HU8 := Lib.hid (BytesAt.of_owns ho8); have hc8 := conv_str HU8.out; (try (have RB := Lib.hid ((HU9.out.below hb8).mono hb8.size); clear HU9; have HU9 := RB; clear RB; have hc9 := conv_str HU9.out)); have hBn := hBc.out.trans (hb8.mono hBc.out.size); clear hBc hb8 ho8; have hBc := Lib.hid hBn; clear hBn)
      | (go_at_call 9; (with_reducible refine (HRP.out _).mono ?_); rintro e w9 ⟨u9, rfl, ho9, hb9⟩; have HU9 := Lib.hid (BytesAt.of_owns ho9); have hc9 := conv_str HU9.out; (try (have RA := Lib.hid ((HU8.out.below hb9).mono hb9.size); clear HU8; have HU8 := RA; clear RA; have hc8 := conv_str HU8.out)); have hBn := hBc.out.trans (hb9.mono hBc.out.size); clear hBc hb9 ho9; have hBc := Lib.hid hBn; clear hBn)
      | (go_at_call 10; (with_reducible refine (awake06 _).mono ?_); rintro e w10 ⟨rfl, hb10⟩; have hBn := hBc.out.trans (hb10.mono hBc.out.size); clear hBc hb10; have hBc := Lib.hid hBn; clear hBn))
    all_goals (go_wp2_with fail)
    all_goals go_meet
    all_goals exact ⟨rfl, hBc.out⟩
  case rest =>
    obtain ⟨rfl, hbx⟩ := hcut
    have HBX := Lib.hid hbx
    clear hbx
    go_wp2
    go_ret
    exact ⟨rfl, HB6.out.trans (HBX.out.mono HB6.out.size)⟩
end
end Go.Proofs.Ythdclndpckojcaa

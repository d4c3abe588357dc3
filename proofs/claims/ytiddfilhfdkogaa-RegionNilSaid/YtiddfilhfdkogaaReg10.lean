/-
  ground.Lay.
  Conditions: none.
-/
import Derived.Test.YtiddfilhfdkogaaReg1
import Derived.Test.YtiddfilhfdkogaaPlan3
namespace Go.Proofs.Ytiddfilhfdkogaa
open Go.RowKit

theorem glay_res (w : World) (z : Nat) (x : LayP) (n : Int) (tmps : Array Value) (h : w.heap[z]? = some (.cells x.cells 67 (0, 0))) (h4 : tmps.getD 4 undef = .pointer (some ⟨z, 0, none⟩)) (h5 : tmps.getD 5 undef = .int .i64 n) :
    (results Try.f24 tmps).run Try.prog w = .ok (.tuple #[.agg x.cells, .int .i64 n]) w := by
  have h4' : tmps[4]?.getD undef = .pointer (some ⟨z, 0, none⟩) := by simpa using h4
  have h5' : tmps[5]?.getD undef = .int .i64 n := by simpa using h5
  simp [results, Try.results24, h4', h5', asAddr, run_loadVar_row w z 67 67 x.cells (0, 0) _ h Try.underlying67 rfl (kl_sz x)]
/-- The layout of a plan on a device. -/
def PlanP.on (p : PlanP) (d : Dev) : Prop := p.sectors = d.sectors ∧ p.size = d.size
/-- What ground.Lay leaves. -/
def LaidDid (x : LayP) (n : Int) (w : World) (e : Ending) (w' : World) : Prop := e = .returned (.tuple #[.agg x.cells, .int .i64 n]) ∧ Below w.heap.size w w'
/-- The plan's block, and the layout's, made ahead. -/
structure GLay (p : PlanP) (w W : World) : Prop where
  b0 : W.heap[w.heap.size]? = some (.cells p.cells 31 (0, 0))
  b1 : W.heap[w.heap.size + 1]? = some (.cells LayP.zero.cells 67 (0, 0))
  hb : Below w.heap.size w W
theorem GLay.next {p : PlanP} {w W W' : World} (h : GLay p w W) (hb : Below W.heap.size W W') : GLay p w W' :=
  ⟨(hb.block _ (blk_lt h.b0)).trans h.b0, (hb.block _ (blk_lt h.b1)).trans h.b1, h.hb.trans (hb.mono h.hb.size)⟩
theorem glay (p : PlanP) (w : World) : GLay p w ((w.alloc (.cells p.cells 31)).alloc (.cells LayP.zero.cells 67)) := by
  refine ⟨blk_alloc (heap_alloc_new _ _) _, ?_, ((Below.refl _ _).alloc (Nat.le_refl _) _).alloc (by simp) _⟩
  have := heap_alloc_new (w.alloc (.cells p.cells 31)) (.cells LayP.zero.cells 67)
  rwa [World.size_alloc] at this
set_option maxRecDepth 100000 in
set_option maxHeartbeats 4000000 in
theorem glay_nil (p : PlanP) (w : World) : Calls Try.prog 24 #[.pointer none, .agg p.cells] w (LaidDid LayP.zero 1 w) := by
  have HL := Lib.hid (glay p w)
  unfold PlanP.cells LayP.cells LayP.zero at HL
  go_enter Try.func24, Try.ntmps24
  unfold PlanP.cells
  go_upto_region 2 with (fail)
  generalize (w.alloc (.cells #[.int .i64 p.sectors, .int .i64 p.size, .int .i64 p.regions, .int .i64 p.rs, .int .i64 p.log, .int .i64 p.depth, .int .i64 p.memory, .int .u64 (U p.seed)] 31)).alloc (.cells #[.int .i64 0, .int .i64 0, .int .i64 0, .int .i64 0, .int .i64 0, .int .i64 0, .int .i64 0, .int .i64 0] 67) = W at HL ⊢
  go_wp2_with (refine wpList_store_row (o := ⟨none, _, _, _, _, _⟩) rfl 67 (.tmp 4) (.tmp 8) rfl (w.heap.size + 1) LayP.zero.cells rfl rfl 67 LayP.zero.cells HL.out.b1 (kl_sz _) rfl ?_ ?_; exact kl_one _)
  exact bodyPost_ret (glay_res _ (w.heap.size + 1) LayP.zero _ _ (setRow_heap _ _ _ _ _ _ HL.out.b1) rfl rfl) rfl ⟨rfl, below_setRow HL.out.hb (by omega) _⟩
theorem sec_cell {w : World} {D : Nat} {n : Int} (c0 : w.cell? ⟨D, 0, none⟩ = some (.int .i64 n)) : Calls Try.prog 46 #[.pointer (some ⟨D, 0, none⟩)] w fun e w' => e = .returned (.int .i64 n) ∧ w' = w := by
  go_enter Try.func46, Try.ntmps46
  go_wp2
  go_ret
  exact ⟨rfl, rfl⟩
theorem size_cell {w : World} {D : Nat} {n : Int} (c0 : w.cell? ⟨D, 1, none⟩ = some (.int .i64 n)) : Calls Try.prog 47 #[.pointer (some ⟨D, 0, none⟩)] w fun e w' => e = .returned (.int .i64 n) ∧ w' = w := by
  go_enter Try.func47, Try.ntmps47
  go_wp2
  go_ret
  exact ⟨rfl, rfl⟩
theorem below_drewG {n : Nat} {a b : World} (h : Below n a b) (k : Nat) : Below n a (b.drewN k) := ⟨h.os, h.tape, h.output, h.size, h.block⟩
set_option maxRecDepth 100000 in
set_option maxHeartbeats 8000000 in
theorem glay_not (p : PlanP) {D : Nat} {sec siz : Int} {w : World} (c0 : w.cell? ⟨D, 0, none⟩ = some (.int .i64 sec)) (c1 : w.cell? ⟨D, 1, none⟩ = some (.int .i64 siz)) (hno : ¬ (p.sectors = sec ∧ p.size = siz)) : Calls Try.prog 24 #[.pointer (some ⟨D, 0, none⟩), .agg p.cells] w (LaidDid LayP.zero 12 w) := by
  have HL := Lib.hid (glay p w)
  have hd := World.block_lt_of_cell? _ _ c0
  have HC := Lib.hid (And.intro (a := ((w.alloc (.cells p.cells 31)).alloc (.cells LayP.zero.cells 67)).cell? ⟨D, 0, none⟩ = some (.int .i64 sec)) (b := ((w.alloc (.cells p.cells 31)).alloc (.cells LayP.zero.cells 67)).cell? ⟨D, 1, none⟩ = some (.int .i64 siz)) ((HL.out.hb.cell (p := ⟨D, 0, none⟩) hd).trans c0) ((HL.out.hb.cell (p := ⟨D, 1, none⟩) hd).trans c1))
  unfold PlanP.cells LayP.cells LayP.zero at HL HC
  go_enter Try.func24, Try.ntmps24
  unfold PlanP.cells
  go_upto_region 3 with (fail)
  generalize (w.alloc (.cells #[.int .i64 p.sectors, .int .i64 p.size, .int .i64 p.regions, .int .i64 p.rs, .int .i64 p.log, .int .i64 p.depth, .int .i64 p.memory, .int .u64 (U p.seed)] 31)).alloc (.cells #[.int .i64 0, .int .i64 0, .int .i64 0, .int .i64 0, .int .i64 0, .int .i64 0, .int .i64 0, .int .i64 0] 67) = W at HL HC ⊢
  have e0 := HC.out.1
  have e1 := HC.out.2
  have p0 : W.cell? ⟨w.heap.size, 0, none⟩ = some (.int .i64 p.sectors) := blk_cell HL.out.b0 0
  have p1 : W.cell? ⟨w.heap.size, 1, none⟩ = some (.int .i64 p.size) := blk_cell HL.out.b0 1
  clear HC c0 c1 hd
  by_cases h0 : p.sectors = sec
  · have h1 : ¬ p.size = siz := fun e => hno ⟨h0, e⟩
    clear hno
    go_quiet ((first | (go_at_call 46; exact Calls.quiet_of_same (sec_cell e0)) | (go_at_call 47; exact Calls.quiet_of_same (size_cell e1))))
    go_wp2_with (refine wpList_store_row (o := ⟨none, _, _, _, _, _⟩) rfl 67 (.tmp 4) (.tmp 21) rfl (w.heap.size + 1) LayP.zero.cells rfl rfl 67 LayP.zero.cells HL.out.b1 (kl_sz _) rfl ?_ ?_; exact kl_one _)
    exact bodyPost_ret (glay_res _ (w.heap.size + 1) LayP.zero _ _ (setRow_heap _ _ _ _ _ _ HL.out.b1) rfl rfl) rfl ⟨rfl, below_setRow (below_drewG HL.out.hb _) (by omega) _⟩
  · clear hno
    go_quiet ((first | (go_at_call 46; exact Calls.quiet_of_same (sec_cell e0)) | (go_at_call 47; exact Calls.quiet_of_same (size_cell e1))))
    go_wp2_with (refine wpList_store_row (o := ⟨none, _, _, _, _, _⟩) rfl 67 (.tmp 4) (.tmp 21) rfl (w.heap.size + 1) LayP.zero.cells rfl rfl 67 LayP.zero.cells HL.out.b1 (kl_sz _) rfl ?_ ?_; exact kl_one _)
    exact bodyPost_ret (glay_res _ (w.heap.size + 1) LayP.zero _ _ (setRow_heap _ _ _ _ _ _ HL.out.b1) rfl rfl) rfl ⟨rfl, below_setRow (below_drewG HL.out.hb _) (by omega) _⟩
set_option maxRecDepth 100000 in
set_option maxHeartbeats 8000000 in
theorem glay_fit (p : PlanP) {D : Nat} {w : World} (c0 : w.cell? ⟨D, 0, none⟩ = some (.int .i64 p.sectors)) (c1 : w.cell? ⟨D, 1, none⟩ = some (.int .i64 p.size)) : Calls Try.prog 24 #[.pointer (some ⟨D, 0, none⟩), .agg p.cells] w (LaidDid p.fit p.err w) := by
  have HL := Lib.hid (glay p w)
  have hd := World.block_lt_of_cell? _ _ c0
  have HF := Lib.hid (fit_any p)
  have HC := Lib.hid (And.intro (a := ((w.alloc (.cells p.cells 31)).alloc (.cells LayP.zero.cells 67)).cell? ⟨D, 0, none⟩ = some (.int .i64 p.sectors)) (b := ((w.alloc (.cells p.cells 31)).alloc (.cells LayP.zero.cells 67)).cell? ⟨D, 1, none⟩ = some (.int .i64 p.size)) ((HL.out.hb.cell (p := ⟨D, 0, none⟩) hd).trans c0) ((HL.out.hb.cell (p := ⟨D, 1, none⟩) hd).trans c1))
  unfold PlanP.cells LayP.cells LayP.zero at HL HC
  unfold PlanP.cells at HF
  go_enter Try.func24, Try.ntmps24
  unfold PlanP.cells
  go_upto_region 3 with (fail)
  generalize (w.alloc (.cells #[.int .i64 p.sectors, .int .i64 p.size, .int .i64 p.regions, .int .i64 p.rs, .int .i64 p.log, .int .i64 p.depth, .int .i64 p.memory, .int .u64 (U p.seed)] 31)).alloc (.cells #[.int .i64 0, .int .i64 0, .int .i64 0, .int .i64 0, .int .i64 0, .int .i64 0, .int .i64 0, .int .i64 0] 67) = W at HL HC ⊢
  have e0 := HC.out.1
  have e1 := HC.out.2
  have p0 : W.cell? ⟨w.heap.size, 0, none⟩ = some (.int .i64 p.sectors) := blk_cell HL.out.b0 0
  have p1 : W.cell? ⟨w.heap.size, 1, none⟩ = some (.int .i64 p.size) := blk_cell HL.out.b0 1
  have p2 : W.cell? ⟨w.heap.size, 2, none⟩ = some (.int .i64 p.regions) := blk_cell HL.out.b0 2
  have p3 : W.cell? ⟨w.heap.size, 3, none⟩ = some (.int .i64 p.rs) := blk_cell HL.out.b0 3
  have p4 : W.cell? ⟨w.heap.size, 4, none⟩ = some (.int .i64 p.log) := blk_cell HL.out.b0 4
  have p5 : W.cell? ⟨w.heap.size, 5, none⟩ = some (.int .i64 p.depth) := blk_cell HL.out.b0 5
  have p6 : W.cell? ⟨w.heap.size, 6, none⟩ = some (.int .i64 p.memory) := blk_cell HL.out.b0 6
  have p7 : W.cell? ⟨w.heap.size, 7, none⟩ = some (.int .u64 (U p.seed)) := blk_cell HL.out.b0 7
  clear HC c0 c1 hd
  go_quiet ((first | (go_at_call 46; exact Calls.quiet_of_same (sec_cell e0)) | (go_at_call 47; exact Calls.quiet_of_same (size_cell e1))))
  go_wp2_with (first
    | (go_at_call 48; (with_reducible refine (HF.out _).mono ?_); rintro e w2 ⟨rfl, hb2⟩; have HL2 : Hid (GLay p w w2) := ⟨(hb2.block w.heap.size (blk_lt HL.out.b0)).trans HL.out.b0, (hb2.block (w.heap.size + 1) (blk_lt HL.out.b1)).trans HL.out.b1, (below_drewG HL.out.hb _).trans (hb2.mono HL.out.hb.size)⟩; clear hb2 HL)
    | (refine wpList_store_row (o := ⟨none, _, _, _, _, _⟩) rfl 67 (.tmp 4) (.tmp 24) rfl (w.heap.size + 1) p.fit.cells rfl rfl 67 LayP.zero.cells HL2.out.b1 (kl_sz _) rfl ?_ ?_; exact kl_one _))
  exact bodyPost_ret (glay_res _ (w.heap.size + 1) p.fit _ _ (setRow_heap _ _ _ _ _ _ HL2.out.b1) rfl rfl) rfl ⟨rfl, below_setRow HL2.out.hb (by omega) _⟩
end Go.Proofs.Ytiddfilhfdkogaa

/-
  sgraffitolaw10's of: a document's head as the program's.
  Conditions: none.
-/
import Derived.Test.YtfdipeaddofjaaaSup13
namespace Go.Proofs.Ytfdipeaddofjaaa
open Go.RowKit
attribute [-go_sem] Instr.build Instr.fill

theorem store_cells_row {w : World} {g : Nat} {t : TypeId} {old cells : Array Value} (hg : w.heap[g]? = some (.cells old t (0, 0))) (ho : old.size = cells.size) (h1 : cells.all (·.oneCell') = true) : (storeCells ⟨g, 0, none⟩ cells.toList).run Try.prog w = .ok () (w.setRow g cells) := by
  have := run_storeCells_from (P := Try.prog) g t cells.toList 0 old w hg (by simp; omega) (fun v hv => (Array.all_eq_true_iff_forall_mem.1 h1) v (by simpa using hv))
  have e : old.toList.drop cells.size = [] := List.drop_eq_nil_of_le (by simp; omega)
  simpa [e] using this
@[local go_sem] theorem build_ref (a b : Int) (W : World) : (Instr.build 33 #[(0, .int .i64 a), (1, .int .i64 b)]).run Try.prog W = .ok (.agg #[.int .i64 a, .int .i64 b]) W := run_build W _ _ _ (by kernel_rfl)
@[local go_sem] theorem build_all (x : HeadP) (W : World) : (Instr.build 35 #[(0, .agg x.plan.cells), (1, .int .i64 x.gen), (2, .agg #[.int .i64 x.page, .int .i64 x.stamp]), (3, .int .i64 x.depth), (4, .int .i64 x.log), (5, .int .i64 x.region), (6, .int .i64 x.time)]).run Try.prog W = .ok (.agg x.cells) W := run_build W _ _ _ (by kernel_rfl)

set_option maxRecDepth 100000 in
set_option maxHeartbeats 4000000 in
theorem of_any (x : HeadP) (w : World) : Calls Try.prog 6 #[.agg x.cells] w (AggRet x.cells w) := by
  have hz : ((w.alloc (.cells x.cells 26)).alloc (.cells HeadP.zero.cells 35)).heap[w.heap.size + 1]? = some (.cells HeadP.zero.cells 35 (0, 0)) := by
    have := heap_alloc_new (w.alloc (.cells x.cells 26)) (.cells HeadP.zero.cells 35)
    simpa using this
  have hx : ((w.alloc (.cells x.cells 26)).alloc (.cells HeadP.zero.cells 35)).heap[w.heap.size]? = some (.cells x.cells 26 (0, 0)) := blk_alloc (heap_alloc_new _ _) _
  have hb : Below w.heap.size w ((w.alloc (.cells x.cells 26)).alloc (.cells HeadP.zero.cells 35)) := ((Below.refl _ _).alloc (Nat.le_refl _) _).alloc (by simp) _
  obtain ⟨w1, hw1⟩ : ∃ w1, (w.alloc (.cells x.cells 26)).alloc (.cells HeadP.zero.cells 35) = w1 := ⟨_, rfl⟩
  rw [hw1] at hz hx hb
  have HSC : Hid (∀ V : World, V.heap[w.heap.size]? = some (.cells x.cells 26 (0, 0)) → V.cell? ⟨w.heap.size, 0, none⟩ = some (.int .i64 x.plan.sectors) ∧ V.cell? ⟨w.heap.size, 1, none⟩ = some (.int .i64 x.plan.size) ∧ V.cell? ⟨w.heap.size, 2, none⟩ = some (.int .i64 x.plan.regions) ∧ V.cell? ⟨w.heap.size, 3, none⟩ = some (.int .i64 x.plan.rs) ∧ V.cell? ⟨w.heap.size, 4, none⟩ = some (.int .i64 x.plan.log) ∧ V.cell? ⟨w.heap.size, 5, none⟩ = some (.int .i64 x.plan.depth) ∧ V.cell? ⟨w.heap.size, 6, none⟩ = some (.int .i64 x.plan.memory) ∧ V.cell? ⟨w.heap.size, 7, none⟩ = some (.int .u64 (U x.plan.seed)) ∧ V.cell? ⟨w.heap.size, 8, none⟩ = some (.int .i64 x.gen) ∧ V.cell? ⟨w.heap.size, 9, none⟩ = some (.int .i64 x.page) ∧ V.cell? ⟨w.heap.size, 10, none⟩ = some (.int .i64 x.stamp) ∧ V.cell? ⟨w.heap.size, 11, none⟩ = some (.int .i64 x.depth) ∧ V.cell? ⟨w.heap.size, 12, none⟩ = some (.int .i64 x.log) ∧ V.cell? ⟨w.heap.size, 13, none⟩ = some (.int .i64 x.region) ∧ V.cell? ⟨w.heap.size, 14, none⟩ = some (.int .i64 x.time)) := fun V h => head_all h (Below.refl _ _)
  have HPL : Hid (∀ V, Calls Try.prog 27 #[.agg #[.int .i64 x.plan.sectors, .int .i64 x.plan.size, .int .i64 x.plan.regions, .int .i64 x.plan.rs, .int .i64 x.plan.log, .int .i64 x.plan.depth, .int .i64 x.plan.memory, .int .u64 (U x.plan.seed)]] V (AggRet x.plan.cells V)) := fun V => planOf_any x.plan V
  have HBX : Hid (w1.drew.heap[w.heap.size]? = some (.cells x.cells 26 (0, 0))) := hx
  have HBZ : Hid (w1.drew.heap[w.heap.size + 1]? = some (.cells HeadP.zero.cells 35 (0, 0))) := hz
  have HBB := Lib.hid hb.drew
  clear hz hx hb
  go_enter Try.func6, Try.ntmps6
  go_upto_region 1 with (fail)
  change (Code.region _ _ _).wp _ _ _ ((w.alloc (.cells x.cells 26)).alloc (.cells HeadP.zero.cells 35))
  rw [hw1]
  clear hw1
  go_region_held3 (fun V => V.cell? ⟨w.heap.size, 0, none⟩ = some (.int .i64 x.plan.sectors) ∧ V.cell? ⟨w.heap.size, 1, none⟩ = some (.int .i64 x.plan.size) ∧ V.cell? ⟨w.heap.size, 2, none⟩ = some (.int .i64 x.plan.regions) ∧ V.cell? ⟨w.heap.size, 3, none⟩ = some (.int .i64 x.plan.rs) ∧ V.cell? ⟨w.heap.size, 4, none⟩ = some (.int .i64 x.plan.log) ∧ V.cell? ⟨w.heap.size, 5, none⟩ = some (.int .i64 x.plan.depth) ∧ V.cell? ⟨w.heap.size, 6, none⟩ = some (.int .i64 x.plan.memory) ∧ V.cell? ⟨w.heap.size, 7, none⟩ = some (.int .u64 (U x.plan.seed)) ∧ V.cell? ⟨w.heap.size, 8, none⟩ = some (.int .i64 x.gen) ∧ V.cell? ⟨w.heap.size, 9, none⟩ = some (.int .i64 x.page) ∧ V.cell? ⟨w.heap.size, 10, none⟩ = some (.int .i64 x.stamp) ∧ V.cell? ⟨w.heap.size, 11, none⟩ = some (.int .i64 x.depth) ∧ V.cell? ⟨w.heap.size, 12, none⟩ = some (.int .i64 x.log) ∧ V.cell? ⟨w.heap.size, 13, none⟩ = some (.int .i64 x.region) ∧ V.cell? ⟨w.heap.size, 14, none⟩ = some (.int .i64 x.time))
    (first | exact HSC.out _ HBX.out | exact HSC.out _ ((setRow_other (show w.heap.size ≠ w.heap.size + 1 by omega)).trans HBX.out))
    (first
      | (go_at_call 27; (with_reducible refine (HPL.out _).mono ?_); rintro e w2 ⟨rfl, hb2⟩; have HBX2 := Lib.hid ((hb2.block _ (blk_lt HBX.out)).trans HBX.out); have HBZ2 := Lib.hid ((hb2.block _ (blk_lt HBZ.out)).trans HBZ.out); have HBB2 := Lib.hid (HBB.out.trans (hb2.mono HBB.out.size)); clear HBX HBZ HBB hb2; have HBX := HBX2; have HBZ := HBZ2; have HBB := HBB2; clear HBX2 HBZ2 HBB2; have hst := store_cells_row (cells := x.cells) HBZ.out rfl (kh_one _)))
  all_goals go_wp2
  all_goals exact bodyPost_ret (results_cell_row rfl _ _ (w.heap.size + 1) 35 x.cells (0, 0) _ rfl (setRow_heap _ _ _ x.cells _ _ HBZ.out) Try.underlying35 rfl (kh_sz _)) rfl ⟨rfl, below_setRow HBB.out (by omega) _⟩
end Go.Proofs.Ytfdipeaddofjaaa

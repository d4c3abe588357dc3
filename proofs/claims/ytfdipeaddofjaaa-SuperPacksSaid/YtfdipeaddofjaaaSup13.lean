/-
  What the laws of super share: a document's head as an argument, sgraffitolaw10's small, planOf, of.
  Conditions: none.
-/
import Derived.Test.YtfdipeaddofjaaaSup12
import Derived.Test.YtfdipeaddofjaaaLaw
import Derived.Deep.RegionHeld3
import Derived.Deep.RegionWith
namespace Go.Proofs.Ytfdipeaddofjaaa
open Go.RowKit
attribute [-go_sem] Instr.build Instr.fill

def smallP : PlanP := ⟨60, 96, 3, 2, 4, 2, 8, 0#64⟩
theorem smallP_cells : smallP.cells = #[.int .i64 60, .int .i64 96, .int .i64 3, .int .i64 2, .int .i64 4, .int .i64 2, .int .i64 8, .int .u64 0] := rfl
@[local go_sem] theorem build_small (W : World) : (Instr.build 24 #[(0, .int .i64 60), (1, .int .i64 96), (2, .int .i64 3), (3, .int .i64 2), (4, .int .i64 4), (5, .int .i64 2), (6, .int .i64 8)]).run Try.prog W = .ok (.agg smallP.cells) W := run_build W _ _ _ (by kernel_rfl)
theorem kr_szS (p : PlanP) : (Try.prog.info? 24).map (·.size) = some p.cells.size := by show _ = some 8; kernel_rfl
/-- An aggregate that is answered. -/
def AggRet (cs : Array Value) (w : World) (e : Ending) (w' : World) : Prop := e = .returned (.agg cs) ∧ Below w.heap.size w w'
set_option maxRecDepth 100000 in
theorem small_any (w : World) : Calls Try.prog 11 #[] w (AggRet smallP.cells w) := by
  go_enter Try.func11, Try.ntmps11
  go_upto_region 1 with (fail)
  change (Code.region _ _ _).wp _ _ _ (w.alloc (.cells PlanP.zero.cells 24))
  have hz : (w.alloc (.cells PlanP.zero.cells 24)).heap[w.heap.size]? = some (.cells PlanP.zero.cells 24 (0, 0)) := heap_alloc_new _ _
  have hb : Below w.heap.size w (w.alloc (.cells PlanP.zero.cells 24)) := (Below.refl _ _).alloc (Nat.le_refl _) _
  generalize w.alloc (.cells PlanP.zero.cells 24) = w0 at *
  refine wp_region_list ?_
  refine wpList_plain rfl fun KK hKK => ?_
  go_simp
  refine hKK _ _ ?_
  clear hKK KK
  refine wpList_store_row (o := ⟨none, _, _, _, _, _⟩) rfl 24 (.tmp 0) (.tmp 1) rfl w.heap.size smallP.cells rfl rfl 24 PlanP.zero.cells hz (kr_szS _) rfl (kp_one _) ?_
  go_wp2
  have hend : (w0.setRow w.heap.size smallP.cells).heap[w.heap.size]? = some (.cells smallP.cells 24 (0, 0)) := setRow_heap _ _ _ _ _ _ hz
  exact bodyPost_ret (results_cell_row rfl _ _ w.heap.size 24 smallP.cells (0, 0) _ rfl hend Try.underlying24 rfl (kr_szS _)) rfl ⟨rfl, below_setRow hb (Nat.le_refl _) _⟩

@[local go_sem] theorem build_planOf (a b c d e f g : Int) (s : Int) (W : World) : (Instr.build 31 #[(0, .int .i64 a), (1, .int .i64 b), (2, .int .i64 c), (3, .int .i64 d), (4, .int .i64 e), (5, .int .i64 f), (6, .int .i64 g), (7, .int .u64 s)]).run Try.prog W = .ok (.agg #[.int .i64 a, .int .i64 b, .int .i64 c, .int .i64 d, .int .i64 e, .int .i64 f, .int .i64 g, .int .u64 s]) W := run_build W _ _ _ (by kernel_rfl)
set_option maxRecDepth 100000 in
set_option maxHeartbeats 2000000 in
theorem planOf_any (p : PlanP) (w : World) : Calls Try.prog 27 #[.agg p.cells] w (AggRet p.cells w) := by
  have HC : Hid (p.cells = #[.int .i64 p.sectors, .int .i64 p.size, .int .i64 p.regions, .int .i64 p.rs, .int .i64 p.log, .int .i64 p.depth, .int .i64 p.memory, .int .u64 (U p.seed)]) := rfl
  have hz : ((w.alloc (.cells p.cells 24)).alloc (.cells PlanP.zero.cells 31)).heap[w.heap.size + 1]? = some (.cells PlanP.zero.cells 31 (0, 0)) := by
    have := heap_alloc_new (w.alloc (.cells p.cells 24)) (.cells PlanP.zero.cells 31)
    simpa using this
  have hx : ((w.alloc (.cells p.cells 24)).alloc (.cells PlanP.zero.cells 31)).heap[w.heap.size]? = some (.cells p.cells 24 (0, 0)) := blk_alloc (heap_alloc_new _ _) _
  have hb : Below w.heap.size w ((w.alloc (.cells p.cells 24)).alloc (.cells PlanP.zero.cells 31)) := ((Below.refl _ _).alloc (Nat.le_refl _) _).alloc (by simp) _
  obtain ⟨w1, hw1⟩ : ∃ w1, (w.alloc (.cells p.cells 24)).alloc (.cells PlanP.zero.cells 31) = w1 := ⟨_, rfl⟩
  rw [hw1] at hz hx hb
  have e0 : w1.cell? ⟨w.heap.size, 0, none⟩ = some (.int .i64 p.sectors) := blk_cell hx 0
  have e1 : w1.cell? ⟨w.heap.size, 1, none⟩ = some (.int .i64 p.size) := blk_cell hx 1
  have e2 : w1.cell? ⟨w.heap.size, 2, none⟩ = some (.int .i64 p.regions) := blk_cell hx 2
  have e3 : w1.cell? ⟨w.heap.size, 3, none⟩ = some (.int .i64 p.rs) := blk_cell hx 3
  have e4 : w1.cell? ⟨w.heap.size, 4, none⟩ = some (.int .i64 p.log) := blk_cell hx 4
  have e5 : w1.cell? ⟨w.heap.size, 5, none⟩ = some (.int .i64 p.depth) := blk_cell hx 5
  have e6 : w1.cell? ⟨w.heap.size, 6, none⟩ = some (.int .i64 p.memory) := blk_cell hx 6
  have e7 : w1.cell? ⟨w.heap.size, 7, none⟩ = some (.int .u64 (U p.seed)) := blk_cell hx 7
  have HZ := Lib.hid hz
  have HB := Lib.hid hb
  clear hx hz hb
  go_enter Try.func27, Try.ntmps27
  go_upto_region 1 with (fail)
  change (Code.region _ _ _).wp _ _ _ ((w.alloc (.cells p.cells 24)).alloc (.cells PlanP.zero.cells 31))
  rw [hw1]
  clear hw1
  go_wp2_with (refine wpList_store_row (o := ⟨none, _, _, _, _, _⟩) rfl 31 (.tmp 2) (.tmp 19) rfl (w.heap.size + 1) p.cells rfl rfl 31 PlanP.zero.cells HZ.out (kp_szS _) rfl ?_ ?_; exact kp_one _)
  have hend : (w1.setRow (w.heap.size + 1) p.cells).heap[w.heap.size + 1]? = some (.cells p.cells 31 (0, 0)) := setRow_heap _ _ _ _ _ _ HZ.out
  exact bodyPost_ret (results_cell_row rfl _ _ (w.heap.size + 1) 31 p.cells (0, 0) _ rfl hend Try.underlying31 rfl (kp_szS _)) rfl ⟨rfl, below_setRow HB.out (by omega) _⟩
end Go.Proofs.Ytfdipeaddofjaaa

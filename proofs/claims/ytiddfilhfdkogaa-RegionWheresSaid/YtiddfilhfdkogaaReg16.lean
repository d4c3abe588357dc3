/-
  sgraffitolaw11: small; region: Open of a plan that lies nowhere.
  Conditions: none.
-/
import Derived.Test.YtiddfilhfdkogaaReg11
import Derived.Test.YtiddfilhfdkogaaReg14
namespace Go.Proofs.Ytiddfilhfdkogaa
open Go.RowKit Go.Shelf

/-- The laws' plan. -/
def small11 : PlanP := ⟨60, 96, 3, 2, 4, 2, 8, 0#64⟩
theorem small11_fits : small11.fits = true := by kernel_rfl
@[local go_sem] theorem build_small (W : World) : (Instr.build 31 #[(0, .int .i64 60), (1, .int .i64 96), (2, .int .i64 3), (3, .int .i64 2), (4, .int .i64 4), (5, .int .i64 2), (6, .int .i64 8)]).run Try.prog W = .ok (.agg small11.cells) W := run_build W _ _ _ (by kernel_rfl)
theorem plan_sz11 (p : PlanP) : (Try.prog.info? 31).map (·.size) = some p.cells.size := by show _ = some 8; kernel_rfl
theorem plan_one11 (p : PlanP) : p.cells.all (·.oneCell') = true := by simp [PlanP.cells, Value.oneCell']
attribute [-go_sem] Instr.build Instr.fill in
set_option maxRecDepth 100000 in
set_option maxHeartbeats 1000000 in
theorem small_any (w : World) : Calls Try.prog 10 #[] w fun e w' => e = .returned (.agg small11.cells) ∧ Below w.heap.size w w' := by
  have HZ := Lib.hid (heap_alloc_new w (.cells (PlanP.cells ⟨0, 0, 0, 0, 0, 0, 0, 0#64⟩) 31))
  have HB : Hid (Below w.heap.size w (w.alloc (.cells (PlanP.cells ⟨0, 0, 0, 0, 0, 0, 0, 0#64⟩) 31))) := (Below.refl _ _).alloc (Nat.le_refl _) _
  go_enter Try.func10, Try.ntmps10
  go_wp2_with (refine wpList_store_row (o := ⟨none, _, _, _, _, _⟩) rfl 31 (.tmp 0) (.tmp 1) rfl w.heap.size small11.cells rfl rfl 31 (PlanP.cells ⟨0, 0, 0, 0, 0, 0, 0, 0#64⟩) HZ.out (plan_sz11 _) rfl ?_ ?_; exact plan_one11 _)
  exact bodyPost_ret (results_cell_row rfl _ _ w.heap.size 31 small11.cells (0, 0) _ rfl (setRow_heap _ _ _ _ _ _ HZ.out) Try.underlying31 rfl (plan_sz11 _)) rfl ⟨rfl, below_setRow HB.out (Nat.le_refl _) _⟩
theorem open_res11 (w : World) (a b : Nat) (n : Int) (tmps : Array Value) (h4 : tmps.getD 6 undef = .pointer (some ⟨a, 0, none⟩)) (h5 : tmps.getD 7 undef = .pointer (some ⟨b, 0, none⟩)) (ha : w.cell? ⟨a, 0, none⟩ = some (.pointer none)) (hb : w.cell? ⟨b, 0, none⟩ = some (.int .i64 n)) :
    (results Try.f19 tmps).run Try.prog w = .ok (.tuple #[.pointer none, .int .i64 n]) w := by
  have h4' : tmps[6]?.getD undef = .pointer (some ⟨a, 0, none⟩) := by simpa using h4
  have h5' : tmps[7]?.getD undef = .pointer (some ⟨b, 0, none⟩) := by simpa using h5
  simp [results, Try.results19, h4', h5', go_sem, ha, hb]
set_option maxRecDepth 100000 in
set_option maxHeartbeats 4000000 in
/-- Of a plan of which Format tells an error. -/
theorem open_not (p : PlanP) (D : Value) (n last : Int) (hn : n ≠ 0) (W : World) (h : ∀ V, Below W.heap.size W V → Calls Try.prog 8 #[D, .agg p.cells] V (FormatNot n V)) : Calls Try.prog 19 #[D, .agg p.cells, .int .i64 last] W (FormatNot n W) := by
  refine callsIn_wide (n := 3).1 ?_
  refine callsIn_of_wp_marks Try.func19 rfl trivial ?_ rfl
  simp only [Try.ntmps19, List.size_toArray, List.length_cons, List.length_nil, Nat.reduceAdd, Nat.reduceSub, Array.replicate_succ, Array.replicate_zero, List.push_toArray, List.append_toArray, List.nil_append, List.cons_append]
  refine wpIn_wide.2 ?_
  obtain ⟨W4, hW4⟩ : ∃ W4, ((W.alloc (.cells p.cells 31)).alloc (.cells #[.pointer none] 23)).alloc (.cells #[.int .i64 0] 24) = W4 := ⟨_, rfl⟩
  have b0 : W4.heap[W.heap.size]? = some (.cells p.cells 31 (0, 0)) := by rw [← hW4]; exact blk_alloc (blk_alloc (heap_alloc_new _ _) _) _
  have b1 : W4.heap[W.heap.size + 1]? = some (.cells #[.pointer none] 23 (0, 0)) := by
    rw [← hW4]
    have := heap_alloc_new (W.alloc (.cells p.cells 31)) (.cells #[.pointer none] 23)
    rw [World.size_alloc] at this
    exact blk_alloc this _
  have b2 : W4.heap[W.heap.size + 1 + 1]? = some (.cells #[.int .i64 0] 24 (0, 0)) := by
    rw [← hW4]
    have := heap_alloc_new ((W.alloc (.cells p.cells 31)).alloc (.cells #[.pointer none] 23)) (.cells #[.int .i64 0] 24)
    rw [World.size_alloc, World.size_alloc] at this
    exact this
  have hb4 : Below W.heap.size W W4 := by rw [← hW4]; exact (((Below.refl _ _).alloc (Nat.le_refl _) _).alloc (by simp) _).alloc (by simp; omega) _
  have HF := Lib.hid (h _ hb4)
  have HW4 := Lib.hid hW4
  have HB1 := Lib.hid b1
  have HB2 := Lib.hid b2
  have HB4 := Lib.hid hb4
  unfold PlanP.cells at HF HW4 b0
  have p0 : W4.cell? ⟨W.heap.size, 0, none⟩ = some (.int .i64 p.sectors) := blk_cell b0 0
  have p1 : W4.cell? ⟨W.heap.size, 1, none⟩ = some (.int .i64 p.size) := blk_cell b0 1
  have p2 : W4.cell? ⟨W.heap.size, 2, none⟩ = some (.int .i64 p.regions) := blk_cell b0 2
  have p3 : W4.cell? ⟨W.heap.size, 3, none⟩ = some (.int .i64 p.rs) := blk_cell b0 3
  have p4 : W4.cell? ⟨W.heap.size, 4, none⟩ = some (.int .i64 p.log) := blk_cell b0 4
  have p5 : W4.cell? ⟨W.heap.size, 5, none⟩ = some (.int .i64 p.depth) := blk_cell b0 5
  have p6 : W4.cell? ⟨W.heap.size, 6, none⟩ = some (.int .i64 p.memory) := blk_cell b0 6
  have p7 : W4.cell? ⟨W.heap.size, 7, none⟩ = some (.int .u64 (U p.seed)) := blk_cell b0 7
  clear b0 b1 b2 hb4 hW4 h
  unfold PlanP.cells
  go_upto_region 1 with (fail)
  change Code.wp _ _ _ _ (((W.alloc (.cells #[.int .i64 p.sectors, .int .i64 p.size, .int .i64 p.regions, .int .i64 p.rs, .int .i64 p.log, .int .i64 p.depth, .int .i64 p.memory, .int .u64 (U p.seed)] 31)).alloc (.cells #[.pointer none] 23)).alloc (.cells #[.int .i64 0] 24))
  rw [HW4.out]
  clear HW4
  go_upto_region 2 with (go_at_call 8; (with_reducible refine HF.out.mono ?_); rintro e w2 ⟨rfl, hb2⟩; have HBF := Lib.hid hb2; clear hb2 p0 p1 p2 p3 p4 p5 p6 p7)
  have hb5 : Below W4.heap.size W4 (w2.alloc (.cells #[.pointer none] 23)) := HBF.out.alloc HBF.out.size _
  change Code.wp _ _ _ _ (w2.alloc (.cells #[.pointer none] 23))
  generalize w2.alloc (.cells #[.pointer none] 23) = V at hb5 ⊢
  have b1 := (hb5.block _ (blk_lt HB1.out)).trans HB1.out
  have b2 := (hb5.block _ (blk_lt HB2.out)).trans HB2.out
  have hbV := HB4.out.trans (hb5.mono HB4.out.size)
  have s1 := blk_set b1 0 (.pointer none)
  have s2 := (Below.heap_setCell V ⟨W.heap.size + 1, 0, none⟩ (.pointer none) (W.heap.size + 1 + 1) (by simp)).trans b2
  have t2 := blk_set s2 0 (.int .i64 n)
  have t1 := (Below.heap_setCell (V.setCell ⟨W.heap.size + 1, 0, none⟩ (.pointer none)) ⟨W.heap.size + 1 + 1, 0, none⟩ (.int .i64 n) (W.heap.size + 1) (by simp)).trans s1
  have x1 : ((V.setCell ⟨W.heap.size + 1, 0, none⟩ (.pointer none)).setCell ⟨W.heap.size + 1 + 1, 0, none⟩ (.int .i64 n)).cell? ⟨W.heap.size + 1, 0, none⟩ = some (.pointer none) := by simpa using blk_cell t1 0
  have x2 : ((V.setCell ⟨W.heap.size + 1, 0, none⟩ (.pointer none)).setCell ⟨W.heap.size + 1 + 1, 0, none⟩ (.int .i64 n)).cell? ⟨W.heap.size + 1 + 1, 0, none⟩ = some (.int .i64 n) := by simpa using blk_cell t2 0
  have HX1 := Lib.hid x1
  have HX2 := Lib.hid x2
  have HBB := Lib.hid ((hbV.setCell (p := ⟨W.heap.size + 1, 0, none⟩) (Nat.le_add_right _ _) (.pointer none)).setCell (p := ⟨W.heap.size + 1 + 1, 0, none⟩) (by show W.heap.size ≤ W.heap.size + 1 + 1; omega) (.int .i64 n))
  have c1 : V.cell? ⟨W.heap.size + 1, 0, none⟩ = some (.pointer none) := blk_cell b1 0
  have c2 : V.cell? ⟨W.heap.size + 1 + 1, 0, none⟩ = some (.int .i64 0) := blk_cell b2 0
  have f1 := blk_frozen b1 0
  have f2 := blk_frozen b2 0
  clear hb5 b1 b2 hbV s1 s2 t1 t2 x1 x2
  go_wp2
  exact ⟨_, open_res11 _ (W.heap.size + 1) (W.heap.size + 1 + 1) n _ rfl rfl HX1.out HX2.out, rfl, HBB.out⟩
end Go.Proofs.Ytiddfilhfdkogaa

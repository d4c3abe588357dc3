/-
  region: a log that is not there.
  Conditions: none.
-/
import Derived.Test.YtiddfilhfdkogaaReg14
import Derived.Scope
namespace Go.Proofs.Ytiddfilhfdkogaa
open Go.RowKit Go.Shelf

theorem flush_nil (w : World) : Calls Try.prog 13 #[.pointer none] w fun e w' => e = .returned (.int .i64 1) ∧ w = w' := by
  go_enter Try.func13, Try.ntmps13
  go_wp2
  go_ret
  exact ⟨rfl, rfl⟩
theorem last_nil (w : World) : Calls Try.prog 14 #[.pointer none] w fun e w' => e = .returned (.int .i64 0) ∧ w = w' := by
  go_enter Try.func14, Try.ntmps14
  go_wp2
  go_ret
  exact ⟨rfl, rfl⟩
theorem oldest_nil (w : World) : Calls Try.prog 16 #[.pointer none] w fun e w' => e = .returned (.int .i64 0) ∧ w = w' := by
  go_enter Try.func16, Try.ntmps16
  go_wp2
  go_ret
  exact ⟨rfl, rfl⟩
theorem where_nil (w : World) : Calls Try.prog 20 #[.pointer none] w fun e w' => e = .returned (.int .i64 0) ∧ w = w' := by
  go_enter Try.func20, Try.ntmps20
  go_wp2
  go_ret
  exact ⟨rfl, rfl⟩
theorem read_res11 (w : World) (a b : Nat) (n : Int) (tmps : Array Value) (h4 : tmps.getD 4 undef = .pointer (some ⟨a, 0, none⟩)) (h5 : tmps.getD 5 undef = .pointer (some ⟨b, 0, none⟩)) (ha : w.cell? ⟨a, 0, none⟩ = some (.slice none 0 0)) (hb : w.cell? ⟨b, 0, none⟩ = some (.int .i64 n)) :
    (results Try.f21 tmps).run Try.prog w = .ok (.tuple #[.slice none 0 0, .int .i64 n]) w := by
  have h4' : tmps[4]?.getD undef = .pointer (some ⟨a, 0, none⟩) := by simpa using h4
  have h5' : tmps[5]?.getD undef = .pointer (some ⟨b, 0, none⟩) := by simpa using h5
  simp [results, Try.results21, h4', h5', go_sem, ha, hb]
theorem recs_res11 (w : World) (a b : Nat) (n : Int) (tmps : Array Value) (h4 : tmps.getD 4 undef = .pointer (some ⟨a, 0, none⟩)) (h5 : tmps.getD 5 undef = .pointer (some ⟨b, 0, none⟩)) (ha : w.cell? ⟨a, 0, none⟩ = some (.slice none 0 0)) (hb : w.cell? ⟨b, 0, none⟩ = some (.int .i64 n)) :
    (results Try.f15 tmps).run Try.prog w = .ok (.tuple #[.slice none 0 0, .int .i64 n]) w := by
  have h4' : tmps[4]?.getD undef = .pointer (some ⟨a, 0, none⟩) := by simpa using h4
  have h5' : tmps[5]?.getD undef = .pointer (some ⟨b, 0, none⟩) := by simpa using h5
  simp [results, Try.results15, h4', h5', go_sem, ha, hb]
set_option maxRecDepth 100000 in
set_option maxHeartbeats 2000000 in
theorem recs_nil11 (W : World) (q : Int) : Calls Try.prog 15 #[.pointer none, .int .i64 q] W fun e W' => e = .returned (.tuple #[.slice none 0 0, .int .i64 1]) ∧ Below W.heap.size W W' := by
  refine callsIn_wide (n := 3).1 ?_
  refine callsIn_of_wp_marks Try.func15 rfl trivial ?_ rfl
  simp only [Try.ntmps15, List.size_toArray, List.length_cons, List.length_nil, Nat.reduceAdd, Nat.reduceSub, Array.replicate_succ, Array.replicate_zero, List.push_toArray, List.append_toArray, List.nil_append, List.cons_append]
  refine wpIn_wide.2 ?_
  obtain ⟨W4, hW4⟩ : ∃ W4, ((W.alloc (.cells #[.pointer none] 23)).alloc (.cells #[.slice none 0 0] 47)).alloc (.cells #[.int .i64 0] 24) = W4 := ⟨_, rfl⟩
  have b0 : W4.heap[W.heap.size]? = some (.cells #[.pointer none] 23 (0, 0)) := by rw [← hW4]; exact blk_alloc (blk_alloc (heap_alloc_new _ _) _) _
  have b1 : W4.heap[W.heap.size + 1]? = some (.cells #[.slice none 0 0] 47 (0, 0)) := by
    rw [← hW4]
    have := heap_alloc_new (W.alloc (.cells #[.pointer none] 23)) (.cells #[.slice none 0 0] 47)
    rw [World.size_alloc] at this
    exact blk_alloc this _
  have b2 : W4.heap[W.heap.size + 1 + 1]? = some (.cells #[.int .i64 0] 24 (0, 0)) := by
    rw [← hW4]
    have := heap_alloc_new ((W.alloc (.cells #[.pointer none] 23)).alloc (.cells #[.slice none 0 0] 47)) (.cells #[.int .i64 0] 24)
    rw [World.size_alloc, World.size_alloc] at this
    exact this
  have hb4 : Below W.heap.size W W4 := by rw [← hW4]; exact (((Below.refl _ _).alloc (Nat.le_refl _) _).alloc (by simp) _).alloc (by simp; omega) _
  have HW4 := Lib.hid hW4
  have s1 := blk_set b1 0 (.slice none 0 0)
  have s2 := (Below.heap_setCell W4 ⟨W.heap.size + 1, 0, none⟩ (.slice none 0 0) (W.heap.size + 1 + 1) (by simp)).trans b2
  have t2 := blk_set s2 0 (.int .i64 1)
  have t1 := (Below.heap_setCell (W4.setCell ⟨W.heap.size + 1, 0, none⟩ (.slice none 0 0)) ⟨W.heap.size + 1 + 1, 0, none⟩ (.int .i64 1) (W.heap.size + 1) (by simp)).trans s1
  have x1 : ((W4.setCell ⟨W.heap.size + 1, 0, none⟩ (.slice none 0 0)).setCell ⟨W.heap.size + 1 + 1, 0, none⟩ (.int .i64 1)).cell? ⟨W.heap.size + 1, 0, none⟩ = some (.slice none 0 0) := by simpa using blk_cell t1 0
  have x2 : ((W4.setCell ⟨W.heap.size + 1, 0, none⟩ (.slice none 0 0)).setCell ⟨W.heap.size + 1 + 1, 0, none⟩ (.int .i64 1)).cell? ⟨W.heap.size + 1 + 1, 0, none⟩ = some (.int .i64 1) := by simpa using blk_cell t2 0
  have HX1 := Lib.hid x1
  have HX2 := Lib.hid x2
  have HBB := Lib.hid ((hb4.setCell (p := ⟨W.heap.size + 1, 0, none⟩) (Nat.le_add_right _ _) (.slice none 0 0)).setCell (p := ⟨W.heap.size + 1 + 1, 0, none⟩) (by show W.heap.size ≤ W.heap.size + 1 + 1; omega) (.int .i64 1))
  have c0 : W4.cell? ⟨W.heap.size, 0, none⟩ = some (.pointer none) := blk_cell b0 0
  have c1 : W4.cell? ⟨W.heap.size + 1, 0, none⟩ = some (.slice none 0 0) := blk_cell b1 0
  have c2 : W4.cell? ⟨W.heap.size + 1 + 1, 0, none⟩ = some (.int .i64 0) := blk_cell b2 0
  have f1 := blk_frozen b1 0
  have f2 := blk_frozen b2 0
  clear b0 b1 b2 hb4 hW4 s1 s2 t1 t2 x1 x2
  go_upto_region 1 with (fail)
  change Code.wp _ _ _ _ (((W.alloc (.cells #[.pointer none] 23)).alloc (.cells #[.slice none 0 0] 47)).alloc (.cells #[.int .i64 0] 24))
  rw [HW4.out]
  clear HW4
  refine wp_scope_straight ?_
  go_wp2
  exact ⟨_, recs_res11 _ (W.heap.size + 1) (W.heap.size + 1 + 1) 1 _ rfl rfl HX1.out HX2.out, rfl, HBB.out⟩
set_option maxRecDepth 100000 in
set_option maxHeartbeats 2000000 in
theorem read_nil11 (W : World) (q p n : Int) : Calls Try.prog 21 #[.pointer none, .agg #[.int .i64 q, .int .i64 p, .int .i64 n]] W fun e W' => e = .returned (.tuple #[.slice none 0 0, .int .i64 1]) ∧ Below W.heap.size W W' := by
  refine callsIn_wide (n := 3).1 ?_
  refine callsIn_of_wp_marks Try.func21 rfl trivial ?_ rfl
  simp only [Try.ntmps21, List.size_toArray, List.length_cons, List.length_nil, Nat.reduceAdd, Nat.reduceSub, Array.replicate_succ, Array.replicate_zero, List.push_toArray, List.append_toArray, List.nil_append, List.cons_append]
  refine wpIn_wide.2 ?_
  obtain ⟨W4, hW4⟩ : ∃ W4, (((W.alloc (.cells #[.pointer none] 23)).alloc (.cells #[.int .i64 q, .int .i64 p, .int .i64 n] 42)).alloc (.cells #[.slice none 0 0] 36)).alloc (.cells #[.int .i64 0] 24) = W4 := ⟨_, rfl⟩
  have b0 : W4.heap[W.heap.size]? = some (.cells #[.pointer none] 23 (0, 0)) := by rw [← hW4]; exact blk_alloc (blk_alloc (blk_alloc (heap_alloc_new _ _) _) _) _
  have b1 : W4.heap[W.heap.size + 1 + 1]? = some (.cells #[.slice none 0 0] 36 (0, 0)) := by
    rw [← hW4]
    have := heap_alloc_new ((W.alloc (.cells #[.pointer none] 23)).alloc (.cells #[.int .i64 q, .int .i64 p, .int .i64 n] 42)) (.cells #[.slice none 0 0] 36)
    rw [World.size_alloc, World.size_alloc] at this
    exact blk_alloc this _
  have b2 : W4.heap[W.heap.size + 1 + 1 + 1]? = some (.cells #[.int .i64 0] 24 (0, 0)) := by
    rw [← hW4]
    have := heap_alloc_new (((W.alloc (.cells #[.pointer none] 23)).alloc (.cells #[.int .i64 q, .int .i64 p, .int .i64 n] 42)).alloc (.cells #[.slice none 0 0] 36)) (.cells #[.int .i64 0] 24)
    rw [World.size_alloc, World.size_alloc, World.size_alloc] at this
    exact this
  have hb4 : Below W.heap.size W W4 := by rw [← hW4]; exact ((((Below.refl _ _).alloc (Nat.le_refl _) _).alloc (by simp) _).alloc (by simp; omega) _).alloc (by simp; omega) _
  have HW4 := Lib.hid hW4
  have s1 := blk_set b1 0 (.slice none 0 0)
  have s2 := (Below.heap_setCell W4 ⟨W.heap.size + 1 + 1, 0, none⟩ (.slice none 0 0) (W.heap.size + 1 + 1 + 1) (by simp)).trans b2
  have t2 := blk_set s2 0 (.int .i64 1)
  have t1 := (Below.heap_setCell (W4.setCell ⟨W.heap.size + 1 + 1, 0, none⟩ (.slice none 0 0)) ⟨W.heap.size + 1 + 1 + 1, 0, none⟩ (.int .i64 1) (W.heap.size + 1 + 1) (by simp)).trans s1
  have x1 : ((W4.setCell ⟨W.heap.size + 1 + 1, 0, none⟩ (.slice none 0 0)).setCell ⟨W.heap.size + 1 + 1 + 1, 0, none⟩ (.int .i64 1)).cell? ⟨W.heap.size + 1 + 1, 0, none⟩ = some (.slice none 0 0) := by simpa using blk_cell t1 0
  have x2 : ((W4.setCell ⟨W.heap.size + 1 + 1, 0, none⟩ (.slice none 0 0)).setCell ⟨W.heap.size + 1 + 1 + 1, 0, none⟩ (.int .i64 1)).cell? ⟨W.heap.size + 1 + 1 + 1, 0, none⟩ = some (.int .i64 1) := by simpa using blk_cell t2 0
  have HX1 := Lib.hid x1
  have HX2 := Lib.hid x2
  have HBB := Lib.hid ((hb4.setCell (p := ⟨W.heap.size + 1 + 1, 0, none⟩) (by show W.heap.size ≤ W.heap.size + 1 + 1; omega) (.slice none 0 0)).setCell (p := ⟨W.heap.size + 1 + 1 + 1, 0, none⟩) (by show W.heap.size ≤ W.heap.size + 1 + 1 + 1; omega) (.int .i64 1))
  have c0 : W4.cell? ⟨W.heap.size, 0, none⟩ = some (.pointer none) := blk_cell b0 0
  have c1 : W4.cell? ⟨W.heap.size + 1 + 1, 0, none⟩ = some (.slice none 0 0) := blk_cell b1 0
  have c2 : W4.cell? ⟨W.heap.size + 1 + 1 + 1, 0, none⟩ = some (.int .i64 0) := blk_cell b2 0
  have f1 := blk_frozen b1 0
  have f2 := blk_frozen b2 0
  clear b0 b1 b2 hb4 hW4 s1 s2 t1 t2 x1 x2
  go_upto_region 1 with (fail)
  change Code.wp _ _ _ _ ((((W.alloc (.cells #[.pointer none] 23)).alloc (.cells #[.int .i64 q, .int .i64 p, .int .i64 n] 42)).alloc (.cells #[.slice none 0 0] 36)).alloc (.cells #[.int .i64 0] 24))
  rw [HW4.out]
  clear HW4
  go_wp2
  exact ⟨_, read_res11 _ (W.heap.size + 1 + 1) (W.heap.size + 1 + 1 + 1) 1 _ rfl rfl HX1.out HX2.out, rfl, HBB.out⟩
end Go.Proofs.Ytiddfilhfdkogaa

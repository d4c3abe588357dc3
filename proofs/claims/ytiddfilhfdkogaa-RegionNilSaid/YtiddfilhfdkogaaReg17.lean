/-
  region: Read of what is in no region that is there; its blocks.
  Conditions: none.
-/
import Derived.Test.YtiddfilhfdkogaaReg15
namespace Go.Proofs.Ytiddfilhfdkogaa
open Go.RowKit Go.Shelf

/-- Read's blocks: the log's, the location's, the answer's, the error's. -/
structure RdLay (Z R : Nat) (q p n : Int) (V : World) : Prop where
  b0 : V.heap[Z]? = some (.cells #[.pointer (some ⟨R, 0, none⟩)] 23 (0, 0))
  b1 : V.heap[Z + 1]? = some (.cells #[.int .i64 q, .int .i64 p, .int .i64 n] 42 (0, 0))
  b2 : V.heap[Z + 1 + 1]? = some (.cells #[.slice none 0 0] 36 (0, 0))
  b3 : V.heap[Z + 1 + 1 + 1]? = some (.cells #[.int .i64 0] 24 (0, 0))
theorem RdLay.below {Z R : Nat} {q p n : Int} {V V' : World} (h : RdLay Z R q p n V) (hb : Below V.heap.size V V') : RdLay Z R q p n V' :=
  ⟨(hb.block _ (blk_lt h.b0)).trans h.b0, (hb.block _ (blk_lt h.b1)).trans h.b1, (hb.block _ (blk_lt h.b2)).trans h.b2, (hb.block _ (blk_lt h.b3)).trans h.b3⟩
theorem rd_lay (W : World) (R : Nat) (q p n : Int) : ∀ W4, (((W.alloc (.cells #[.pointer (some ⟨R, 0, none⟩)] 23)).alloc (.cells #[.int .i64 q, .int .i64 p, .int .i64 n] 42)).alloc (.cells #[.slice none 0 0] 36)).alloc (.cells #[.int .i64 0] 24) = W4 → RdLay W.heap.size R q p n W4 ∧ Below W.heap.size W W4 := by
  rintro W4 hW4
  refine ⟨⟨by rw [← hW4]; exact blk_alloc (blk_alloc (blk_alloc (heap_alloc_new _ _) _) _) _, ?_, ?_, ?_⟩, by rw [← hW4]; exact ((((Below.refl _ _).alloc (Nat.le_refl _) _).alloc (by simp) _).alloc (by simp; omega) _).alloc (by simp; omega) _⟩
  · rw [← hW4]
    have := heap_alloc_new (W.alloc (.cells #[.pointer (some ⟨R, 0, none⟩)] 23)) (.cells #[.int .i64 q, .int .i64 p, .int .i64 n] 42)
    rw [World.size_alloc] at this
    exact blk_alloc (blk_alloc this _) _
  · rw [← hW4]
    have := heap_alloc_new ((W.alloc (.cells #[.pointer (some ⟨R, 0, none⟩)] 23)).alloc (.cells #[.int .i64 q, .int .i64 p, .int .i64 n] 42)) (.cells #[.slice none 0 0] 36)
    rw [World.size_alloc, World.size_alloc] at this
    exact blk_alloc this _
  · rw [← hW4]
    have := heap_alloc_new (((W.alloc (.cells #[.pointer (some ⟨R, 0, none⟩)] 23)).alloc (.cells #[.int .i64 q, .int .i64 p, .int .i64 n] 42)).alloc (.cells #[.slice none 0 0] 36)) (.cells #[.int .i64 0] 24)
    rw [World.size_alloc, World.size_alloc, World.size_alloc] at this
    exact this
section
variable {w W : World} {E : Foot} {R D : Nat} {x : LogS} {d : Dev}
set_option maxRecDepth 100000 in
set_option maxHeartbeats 4000000 in
theorem read_stale (h : LogApart w E R D x d W) (q p n : Int) (hno : x.holdB q p n = false) : Calls Try.prog 21 #[.pointer (some ⟨R, 0, none⟩), .agg #[.int .i64 q, .int .i64 p, .int .i64 n]] W fun e W' => e = .returned (.tuple #[.slice none 0 0, .int .i64 13]) ∧ Below W.heap.size W W' := by
  refine callsIn_wide (n := 3).1 ?_
  refine callsIn_of_wp_marks Try.func21 rfl trivial ?_ rfl
  simp only [Try.ntmps21, List.size_toArray, List.length_cons, List.length_nil, Nat.reduceAdd, Nat.reduceSub, Array.replicate_succ, Array.replicate_zero, List.push_toArray, List.append_toArray, List.nil_append, List.cons_append]
  refine wpIn_wide.2 ?_
  obtain ⟨W4, hW4⟩ : ∃ W4, (((W.alloc (.cells #[.pointer (some ⟨R, 0, none⟩)] 23)).alloc (.cells #[.int .i64 q, .int .i64 p, .int .i64 n] 42)).alloc (.cells #[.slice none 0 0] 36)).alloc (.cells #[.int .i64 0] 24) = W4 := ⟨_, rfl⟩
  obtain ⟨hly, hb4⟩ := rd_lay W R q p n W4 hW4
  obtain ⟨rv, hL, _⟩ := id h
  have hh := hold_any (hL.below hb4) q p n
  rw [hno] at hh
  have HH := Lib.hid hh
  have HLY := Lib.hid hly
  have HB4 := Lib.hid hb4
  have HW4 := Lib.hid hW4
  have c0 : W4.cell? ⟨W.heap.size, 0, none⟩ = some (.pointer (some ⟨R, 0, none⟩)) := blk_cell hly.b0 0
  have l0 : W4.cell? ⟨W.heap.size + 1, 0, none⟩ = some (.int .i64 q) := blk_cell hly.b1 0
  have l1 : W4.cell? ⟨W.heap.size + 1, 1, none⟩ = some (.int .i64 p) := blk_cell hly.b1 1
  have l2 : W4.cell? ⟨W.heap.size + 1, 2, none⟩ = some (.int .i64 n) := blk_cell hly.b1 2
  clear h hno hly hb4 hL hh hW4
  go_upto_region 1 with (fail)
  change Code.wp _ _ _ _ ((((W.alloc (.cells #[.pointer (some ⟨R, 0, none⟩)] 23)).alloc (.cells #[.int .i64 q, .int .i64 p, .int .i64 n] 42)).alloc (.cells #[.slice none 0 0] 36)).alloc (.cells #[.int .i64 0] 24))
  rw [HW4.out]
  clear HW4
  go_upto_region 4 with (go_at_call 44; (with_reducible refine HH.out.mono ?_); rintro e w2 ⟨rfl, hb2⟩; have HB2 := Lib.hid hb2; clear hb2 c0 l0 l1 l2)
  have hl2 := HLY.out.below HB2.out
  have hbV := HB4.out.trans (HB2.out.mono HB4.out.size)
  have s1 := blk_set hl2.b2 0 (.slice none 0 0)
  have s2 := (Below.heap_setCell w2 ⟨W.heap.size + 1 + 1, 0, none⟩ (.slice none 0 0) (W.heap.size + 1 + 1 + 1) (by simp)).trans hl2.b3
  have t2 := blk_set s2 0 (.int .i64 13)
  have t1 := (Below.heap_setCell (w2.setCell ⟨W.heap.size + 1 + 1, 0, none⟩ (.slice none 0 0)) ⟨W.heap.size + 1 + 1 + 1, 0, none⟩ (.int .i64 13) (W.heap.size + 1 + 1) (by simp)).trans s1
  have x1 : ((w2.setCell ⟨W.heap.size + 1 + 1, 0, none⟩ (.slice none 0 0)).setCell ⟨W.heap.size + 1 + 1 + 1, 0, none⟩ (.int .i64 13)).cell? ⟨W.heap.size + 1 + 1, 0, none⟩ = some (.slice none 0 0) := by simpa using blk_cell t1 0
  have x2 : ((w2.setCell ⟨W.heap.size + 1 + 1, 0, none⟩ (.slice none 0 0)).setCell ⟨W.heap.size + 1 + 1 + 1, 0, none⟩ (.int .i64 13)).cell? ⟨W.heap.size + 1 + 1 + 1, 0, none⟩ = some (.int .i64 13) := by simpa using blk_cell t2 0
  have HX1 := Lib.hid x1
  have HX2 := Lib.hid x2
  have HBB := Lib.hid ((hbV.setCell (p := ⟨W.heap.size + 1 + 1, 0, none⟩) (by show W.heap.size ≤ W.heap.size + 1 + 1; omega) (.slice none 0 0)).setCell (p := ⟨W.heap.size + 1 + 1 + 1, 0, none⟩) (by show W.heap.size ≤ W.heap.size + 1 + 1 + 1; omega) (.int .i64 13))
  have c1 : w2.cell? ⟨W.heap.size + 1 + 1, 0, none⟩ = some (.slice none 0 0) := blk_cell hl2.b2 0
  have c2 : w2.cell? ⟨W.heap.size + 1 + 1 + 1, 0, none⟩ = some (.int .i64 0) := blk_cell hl2.b3 0
  have f1 := blk_frozen hl2.b2 0
  have f2 := blk_frozen hl2.b3 0
  clear hl2 hbV s1 s2 t1 t2 x1 x2
  go_wp2
  exact ⟨_, read_res11 _ (W.heap.size + 1 + 1) (W.heap.size + 1 + 1 + 1) 13 _ rfl rfl HX1.out HX2.out, rfl, HBB.out⟩
end
end Go.Proofs.Ytiddfilhfdkogaa

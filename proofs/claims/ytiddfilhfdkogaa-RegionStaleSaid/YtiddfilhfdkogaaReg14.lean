/-
  region: Append on nil, of no bytes, of too many.
  Conditions: none.
-/
import Derived.Test.YtiddfilhfdkogaaReg9
namespace Go.Proofs.Ytiddfilhfdkogaa
open Go.RowKit Go.Shelf
attribute [-go_sem] Instr.build Instr.fill

@[local go_sem] theorem build_loc0 (W : World) : (Instr.build 42 #[]).run Try.prog W = .ok (.agg #[.int .i64 0, .int .i64 0, .int .i64 0]) W := run_build W _ _ _ (by kernel_rfl)
section
variable {w W : World} {E : Foot} {R D : Nat} {x : LogS} {d : Dev}
theorem append_any (h : LogApart w E R D x d W) (hon : x.On d) (hup : d.Up) (hlt : x.row.length < x.room) (hl : x.last < 1099511627776 * 2)
    (bs : List (BitVec 8)) (u : Value) (hu : BytesAt W.heap.size W u bs) (hue : ∀ k, u.ownBlock = some k → E k) (hne : 1 ≤ bs.length) (hle : bs.length ≤ x.rr) {k : Nat} (hsm : d.Small k) (hk : k + 1 + bs.length ≤ 65536) :
    Calls Try.prog 12 #[.pointer (some ⟨R, 0, none⟩), u] W fun e W' => ∃ x2 d2, AppTo (x.for_ bs.length) (d.for_ x bs.length) bs x2 d2 [] ∧
      e = .returned (.tuple #[.agg #[.int .i64 (x.for_ bs.length).last, .int .i64 (x.for_ bs.length).pos, .int .i64 bs.length], .int .i64 0]) ∧ LogApart w E R D x2 d2 W' ∧ Same E W W' :=
  callsIn_wide.1 (append_in h hon hup hlt hl bs u hu hue hne hle hsm hk)
theorem loc0_one : (#[.int .i64 0, .int .i64 0, .int .i64 0] : Array Value).all (·.oneCell') = true := by simp [Value.oneCell']
/-- The answer's blocks, of an error. -/
theorem app_end {W V : World} {n : Int} (b2 : V.heap[W.heap.size + 2]? = some (.cells #[.int .i64 0, .int .i64 0, .int .i64 0] 42 (0, 0))) (b3 : V.heap[W.heap.size + 3]? = some (.cells #[.int .i64 0] 24 (0, 0))) (hb : Below W.heap.size W V) :
    ((V.setRow (W.heap.size + 2) #[.int .i64 0, .int .i64 0, .int .i64 0]).setCell ⟨W.heap.size + 3, 0, none⟩ (.int .i64 n)).heap[W.heap.size + 2]? = some (.cells #[.int .i64 0, .int .i64 0, .int .i64 0] 42 (0, 0)) ∧
    ((V.setRow (W.heap.size + 2) #[.int .i64 0, .int .i64 0, .int .i64 0]).setCell ⟨W.heap.size + 3, 0, none⟩ (.int .i64 n)).cell? ⟨W.heap.size + 3, 0, none⟩ = some (.int .i64 n) ∧
    Below W.heap.size W ((V.setRow (W.heap.size + 2) #[.int .i64 0, .int .i64 0, .int .i64 0]).setCell ⟨W.heap.size + 3, 0, none⟩ (.int .i64 n)) := by
  have h2 := setRow_heap V (W.heap.size + 2) _ #[.int .i64 0, .int .i64 0, .int .i64 0] _ _ b2
  have h3 := (Go.setRow_other V (W.heap.size + 2) (W.heap.size + 3) #[.int .i64 0, .int .i64 0, .int .i64 0] (by omega)).trans b3
  refine ⟨(Below.heap_setCell _ _ _ _ (by simp)).trans h2, ?_, (below_setRow hb (by omega) _).setCell (p := ⟨W.heap.size + 3, 0, none⟩) (by show W.heap.size ≤ W.heap.size + 3; omega) _⟩
  have := blk_cell (blk_set h3 0 (.int .i64 n)) 0
  simpa using this
set_option maxRecDepth 100000 in
set_option maxHeartbeats 4000000 in
theorem append_nil (W : World) (a : Option Addr) (n c : Nat) : Calls Try.prog 12 #[.pointer none, .slice a n c] W fun e W' => e = .returned (.tuple #[.agg #[.int .i64 0, .int .i64 0, .int .i64 0], .int .i64 1]) ∧ Below W.heap.size W W' := by
  refine callsIn_wide (n := 3).1 ?_
  refine callsIn_of_wp_marks Try.func12 rfl trivial ?_ rfl
  simp only [Try.ntmps12, List.size_toArray, List.length_cons, List.length_nil, Nat.reduceAdd, Nat.reduceSub, Array.replicate_succ, Array.replicate_zero, List.push_toArray, List.append_toArray, List.nil_append, List.cons_append]
  refine wpIn_wide.2 ?_
  obtain ⟨W4, hW4⟩ : ∃ W4, (((W.alloc (.cells #[.pointer none] 23)).alloc (.cells #[.slice a n c] 36)).alloc (.cells #[.int .i64 0, .int .i64 0, .int .i64 0] 42)).alloc (.cells #[.int .i64 0] 24) = W4 := ⟨_, rfl⟩
  have e0 := heap_alloc_new W (.cells #[.pointer none] 23)
  have b0 : W4.heap[W.heap.size]? = some (.cells #[.pointer none] 23 (0, 0)) := by rw [← hW4]; exact blk_alloc (blk_alloc (blk_alloc e0 _) _) _
  have b2 : W4.heap[W.heap.size + 2]? = some (.cells #[.int .i64 0, .int .i64 0, .int .i64 0] 42 (0, 0)) := by
    rw [← hW4]
    have := heap_alloc_new ((W.alloc (.cells #[.pointer none] 23)).alloc (.cells #[.slice a n c] 36)) (.cells #[.int .i64 0, .int .i64 0, .int .i64 0] 42)
    rw [World.size_alloc, World.size_alloc] at this
    exact blk_alloc this _
  have b3 : W4.heap[W.heap.size + 3]? = some (.cells #[.int .i64 0] 24 (0, 0)) := by
    rw [← hW4]
    have := heap_alloc_new (((W.alloc (.cells #[.pointer none] 23)).alloc (.cells #[.slice a n c] 36)).alloc (.cells #[.int .i64 0, .int .i64 0, .int .i64 0] 42)) (.cells #[.int .i64 0] 24)
    rw [World.size_alloc, World.size_alloc, World.size_alloc] at this
    exact this
  have hb4 : Below W.heap.size W W4 := by rw [← hW4]; exact ((((Below.refl _ _).alloc (Nat.le_refl _) _).alloc (by simp) _).alloc (by simp; omega) _).alloc (by simp; omega) _
  have HEND := Lib.hid (app_end (n := 1) b2 b3 hb4)
  have HB2 := Lib.hid b2
  have HW4 := Lib.hid hW4
  have c0 : W4.cell? ⟨W.heap.size, 0, none⟩ = some (.pointer none) := blk_cell b0 0
  have h3 := (Go.setRow_other W4 (W.heap.size + 2) (W.heap.size + 3) #[.int .i64 0, .int .i64 0, .int .i64 0] (by omega)).trans b3
  have k3 : (W4.setRow (W.heap.size + 1 + 1) #[.int .i64 0, .int .i64 0, .int .i64 0]).cell? ⟨W.heap.size + 1 + 1 + 1, 0, none⟩ = some (.int .i64 0) := blk_cell h3 0
  have f3 : (W4.setRow (W.heap.size + 1 + 1) #[.int .i64 0, .int .i64 0, .int .i64 0]).frozen? ⟨W.heap.size + 1 + 1 + 1, 0, none⟩ = false := blk_frozen h3 0
  clear e0 b0 b2 b3 hb4 hW4 h3
  go_upto_region 1 with (fail)
  change Code.wp _ _ _ _ ((((W.alloc (.cells #[.pointer none] 23)).alloc (.cells #[.slice a n c] 36)).alloc (.cells #[.int .i64 0, .int .i64 0, .int .i64 0] 42)).alloc (.cells #[.int .i64 0] 24))
  rw [HW4.out]
  clear HW4
  go_wp2_with (refine wpList_store_row (o := ⟨none, _, _, _, _, _⟩) rfl 42 (.tmp 4) (.tmp 18) rfl (W.heap.size + 1 + 1) #[.int .i64 0, .int .i64 0, .int .i64 0] rfl rfl 42 #[.int .i64 0, .int .i64 0, .int .i64 0] HB2.out locSz rfl ?_ ?_; exact loc0_one)
  refine ⟨_, app_res _ (W.heap.size + 1 + 1) (W.heap.size + 1 + 1 + 1) 0 0 0 1 _ rfl rfl HEND.out.1 HEND.out.2.1, rfl, HEND.out.2.2⟩
set_option maxRecDepth 100000 in
set_option maxHeartbeats 4000000 in
theorem append_zero (W : World) (R : Nat) (a : Option Addr) (c : Nat) : Calls Try.prog 12 #[.pointer (some ⟨R, 0, none⟩), .slice a 0 c] W fun e W' => e = .returned (.tuple #[.agg #[.int .i64 0, .int .i64 0, .int .i64 0], .int .i64 1]) ∧ Below W.heap.size W W' := by
  refine callsIn_wide (n := 3).1 ?_
  refine callsIn_of_wp_marks Try.func12 rfl trivial ?_ rfl
  simp only [Try.ntmps12, List.size_toArray, List.length_cons, List.length_nil, Nat.reduceAdd, Nat.reduceSub, Array.replicate_succ, Array.replicate_zero, List.push_toArray, List.append_toArray, List.nil_append, List.cons_append]
  refine wpIn_wide.2 ?_
  obtain ⟨W4, hW4⟩ : ∃ W4, (((W.alloc (.cells #[.pointer (some ⟨R, 0, none⟩)] 23)).alloc (.cells #[.slice a 0 c] 36)).alloc (.cells #[.int .i64 0, .int .i64 0, .int .i64 0] 42)).alloc (.cells #[.int .i64 0] 24) = W4 := ⟨_, rfl⟩
  have e0 := heap_alloc_new W (.cells #[.pointer (some ⟨R, 0, none⟩)] 23)
  have b0 : W4.heap[W.heap.size]? = some (.cells #[.pointer (some ⟨R, 0, none⟩)] 23 (0, 0)) := by rw [← hW4]; exact blk_alloc (blk_alloc (blk_alloc e0 _) _) _
  have b2 : W4.heap[W.heap.size + 2]? = some (.cells #[.int .i64 0, .int .i64 0, .int .i64 0] 42 (0, 0)) := by
    rw [← hW4]
    have := heap_alloc_new ((W.alloc (.cells #[.pointer (some ⟨R, 0, none⟩)] 23)).alloc (.cells #[.slice a 0 c] 36)) (.cells #[.int .i64 0, .int .i64 0, .int .i64 0] 42)
    rw [World.size_alloc, World.size_alloc] at this
    exact blk_alloc this _
  have b3 : W4.heap[W.heap.size + 3]? = some (.cells #[.int .i64 0] 24 (0, 0)) := by
    rw [← hW4]
    have := heap_alloc_new (((W.alloc (.cells #[.pointer (some ⟨R, 0, none⟩)] 23)).alloc (.cells #[.slice a 0 c] 36)).alloc (.cells #[.int .i64 0, .int .i64 0, .int .i64 0] 42)) (.cells #[.int .i64 0] 24)
    rw [World.size_alloc, World.size_alloc, World.size_alloc] at this
    exact this
  have b1 : W4.heap[W.heap.size + 1]? = some (.cells #[.slice a 0 c] 36 (0, 0)) := by
    rw [← hW4]
    have := heap_alloc_new (W.alloc (.cells #[.pointer (some ⟨R, 0, none⟩)] 23)) (.cells #[.slice a 0 c] 36)
    rw [World.size_alloc] at this
    exact blk_alloc (blk_alloc this _) _
  have hb4 : Below W.heap.size W W4 := by rw [← hW4]; exact ((((Below.refl _ _).alloc (Nat.le_refl _) _).alloc (by simp) _).alloc (by simp; omega) _).alloc (by simp; omega) _
  have HEND := Lib.hid (app_end (n := 1) b2 b3 hb4)
  have HB2 := Lib.hid b2
  have HW4 := Lib.hid hW4
  have c0 : W4.cell? ⟨W.heap.size, 0, none⟩ = some (.pointer (some ⟨R, 0, none⟩)) := blk_cell b0 0
  have c1 : W4.cell? ⟨W.heap.size + 1, 0, none⟩ = some (.slice a 0 c) := blk_cell b1 0
  have h3 := (Go.setRow_other W4 (W.heap.size + 2) (W.heap.size + 3) #[.int .i64 0, .int .i64 0, .int .i64 0] (by omega)).trans b3
  have k3 : (W4.setRow (W.heap.size + 1 + 1) #[.int .i64 0, .int .i64 0, .int .i64 0]).cell? ⟨W.heap.size + 1 + 1 + 1, 0, none⟩ = some (.int .i64 0) := blk_cell h3 0
  have f3 : (W4.setRow (W.heap.size + 1 + 1) #[.int .i64 0, .int .i64 0, .int .i64 0]).frozen? ⟨W.heap.size + 1 + 1 + 1, 0, none⟩ = false := blk_frozen h3 0
  clear e0 b0 b1 b2 b3 hb4 hW4 h3
  go_upto_region 1 with (fail)
  change Code.wp _ _ _ _ ((((W.alloc (.cells #[.pointer (some ⟨R, 0, none⟩)] 23)).alloc (.cells #[.slice a 0 c] 36)).alloc (.cells #[.int .i64 0, .int .i64 0, .int .i64 0] 42)).alloc (.cells #[.int .i64 0] 24))
  rw [HW4.out]
  clear HW4
  go_wp2_with (refine wpList_store_row (o := ⟨none, _, _, _, _, _⟩) rfl 42 (.tmp 4) (.tmp 18) rfl (W.heap.size + 1 + 1) #[.int .i64 0, .int .i64 0, .int .i64 0] rfl rfl 42 #[.int .i64 0, .int .i64 0, .int .i64 0] HB2.out locSz rfl ?_ ?_; exact loc0_one)
  refine ⟨_, app_res _ (W.heap.size + 1 + 1) (W.heap.size + 1 + 1 + 1) 0 0 0 1 _ rfl rfl HEND.out.1 HEND.out.2.1, rfl, HEND.out.2.2⟩
set_option maxRecDepth 100000 in
set_option maxHeartbeats 8000000 in
theorem append_long (h : LogApart w E R D x d W) {a : Option Addr} {n c : Nat} (hn : x.rr < n) (hm : n ≤ 1073741824) : Calls Try.prog 12 #[.pointer (some ⟨R, 0, none⟩), .slice a n c] W fun e W' => e = .returned (.tuple #[.agg #[.int .i64 0, .int .i64 0, .int .i64 0], .int .i64 9]) ∧ LogApart w E R D x d W' ∧ Below W.heap.size W W' := by
  refine callsIn_wide (n := 3).1 ?_
  refine callsIn_of_wp_marks Try.func12 rfl trivial ?_ rfl
  simp only [Try.ntmps12, List.size_toArray, List.length_cons, List.length_nil, Nat.reduceAdd, Nat.reduceSub, Array.replicate_succ, Array.replicate_zero, List.push_toArray, List.append_toArray, List.nil_append, List.cons_append]
  refine wpIn_wide.2 ?_
  obtain ⟨W4, hW4⟩ : ∃ W4, (((W.alloc (.cells #[.pointer (some ⟨R, 0, none⟩)] 23)).alloc (.cells #[.slice a n c] 36)).alloc (.cells #[.int .i64 0, .int .i64 0, .int .i64 0] 42)).alloc (.cells #[.int .i64 0] 24) = W4 := ⟨_, rfl⟩
  obtain ⟨hlay, hap, hbw, hsz⟩ := app_lay h _ W4 hW4
  obtain ⟨rv, hL, _⟩ := id hap
  have HRR := Lib.hid (fun V (hb : Below W4.heap.size W4 V) => rroom_any (hL.below hb))
  have HH := Lib.hid h
  have HLAY := Lib.hid hlay
  have HBW := Lib.hid hbw
  have HW4 := Lib.hid hW4
  have c0 : W4.cell? ⟨W.heap.size, 0, none⟩ = some (.pointer (some ⟨R, 0, none⟩)) := blk_cell hlay.b0 0
  have c1 : W4.cell? ⟨W.heap.size + 1, 0, none⟩ = some (.slice a n c) := blk_cell hlay.b1 0
  obtain ⟨rr, hrr⟩ : ∃ rr, x.rr = rr := ⟨_, rfl⟩
  rw [hrr] at HRR hn
  have n0 : (rr : Int) < n := by omega
  have n1 : (1 : Int) ≤ n := by omega
  have n2 : (n : Int) ≤ 1073741824 := by omega
  clear h hap hlay hbw hW4 hL hsz hrr hn hm
  go_upto_region 1 with (fail)
  change Code.wp _ _ _ _ ((((W.alloc (.cells #[.pointer (some ⟨R, 0, none⟩)] 23)).alloc (.cells #[.slice a n c] 36)).alloc (.cells #[.int .i64 0, .int .i64 0, .int .i64 0] 42)).alloc (.cells #[.int .i64 0] 24))
  rw [HW4.out]
  clear HW4
  go_upto_region 3 with (fail)
  have q0 := after_cell c0
  have q1 := after_cell c1
  refine wp_region_after (by kernel_rfl) (by kernel_rfl) ?_
  repeat (go_big_quiet_step ((go_at_call 33; with_reducible exact after_call (HRR.out _ (After.h _)))))
  refine wpQuiet_nil ?_
  rintro _ ⟨p3, rfl⟩
  have HB3 := Lib.hid p3.h
  clear q0 q1 c0 c1
  generalize p3.v = W5 at HB3 ⊢
  clear p3
  have hl5 := HLAY.out.below HB3.out
  have hb5 := HBW.out.trans (HB3.out.mono HBW.out.size)
  have HEND := Lib.hid (app_end (n := 9) hl5.b2 hl5.b3 hb5)
  have HB2 := Lib.hid hl5.b2
  have h3 := (Go.setRow_other W5 (W.heap.size + 2) (W.heap.size + 3) #[.int .i64 0, .int .i64 0, .int .i64 0] (by omega)).trans hl5.b3
  have k3 : (W5.setRow (W.heap.size + 1 + 1) #[.int .i64 0, .int .i64 0, .int .i64 0]).cell? ⟨W.heap.size + 1 + 1 + 1, 0, none⟩ = some (.int .i64 0) := blk_cell h3 0
  have f3 : (W5.setRow (W.heap.size + 1 + 1) #[.int .i64 0, .int .i64 0, .int .i64 0]).frozen? ⟨W.heap.size + 1 + 1 + 1, 0, none⟩ = false := blk_frozen h3 0
  clear hl5 hb5 h3
  go_wp2_with (refine wpList_store_row (o := ⟨none, _, _, _, _, _⟩) rfl 42 (.tmp 4) (.tmp 25) rfl (W.heap.size + 1 + 1) #[.int .i64 0, .int .i64 0, .int .i64 0] rfl rfl 42 #[.int .i64 0, .int .i64 0, .int .i64 0] HB2.out locSz rfl ?_ ?_; exact loc0_one)
  refine ⟨_, app_res _ (W.heap.size + 1 + 1) (W.heap.size + 1 + 1 + 1) 0 0 0 9 _ rfl rfl HEND.out.1 HEND.out.2.1, rfl, HH.out.on HEND.out.2.2, HEND.out.2.2⟩
end
end Go.Proofs.Ytiddfilhfdkogaa

/-
  script's read: acts without numbers.
  Conditions: none.
-/
import Derived.Test.YtgaabclgoolalaaScr17
namespace Go.Proofs.Ytgaabclgoolalaa
open Go.RowKit
attribute [local go_sem] Oper.semAt_some
attribute [-go_sem] Instr.build Instr.fill

@[local go_sem] theorem build_act (k : Int) (W : World) : (Instr.build 49 #[(0, .int .i64 k)]).run Try.prog W = .ok (.agg #[.int .i64 k, .slice none 0 0, .slice none 0 0, .int .i64 0, .slice none 0 0]) W := run_build W _ _ _ (by kernel_rfl)
theorem actC_sz (x : SAct) (a1 a2 a3 : Option Addr) (c1 c2 c3 : Nat) : (Try.prog.info? 49).map (·.size) = some (actC x a1 a2 a3 c1 c2 c3).size := by show _ = some 5; kernel_rfl
theorem actC_one (x : SAct) (a1 a2 a3 : Option Addr) (c1 c2 c3 : Nat) : (actC x a1 a2 a3 c1 c2 c3).all (·.oneCell') = true := by simp [actC, Value.oneCell']
set_option maxRecDepth 100000 in
set_option maxHeartbeats 8000000 in
theorem read_key (nm : ByteArray) (kind : Int) {n₀ R : Nat} {s : RSt} {w : World} (h : ReadB n₀ R s w) (hn : n₀ ≤ w.heap.size) (hl : s.1.length ≤ 1099511627776) :
    Calls Try.prog 34 #[.agg #[.string nm, .bool true, .bool false, .bool false, .int .i64 0, .int .i64 0], .pointer (some ⟨R, 0, none⟩), .int .i64 kind] w (ReadRet n₀ R (readS true false false false 0 kind s).1 (readS true false false false 0 kind s).2 w) := by
  obtain ⟨w2, hw2⟩ : ∃ w2, ((w.alloc (.cells #[.string nm, .bool true, .bool false, .bool false, .int .i64 0, .int .i64 0] 70)).alloc (.cells act0 49)).alloc (.cells (actC ⟨kind, [], [], 0, []⟩ none none none 0 0 0) 49) = w2 := ⟨_, rfl⟩
  have hb2 := RB.start h hn (#[.string nm, .bool true, .bool false, .bool false, .int .i64 0, .int .i64 0]) kind
  rw [hw2] at hb2
  have HB2 := Lib.hid hb2
  have HW2 := Lib.hid hw2
  have HCT := Lib.hid (fun W => counted_any nm true false false 0 0 W)
  have HLS := Lib.hid hl
  clear hw2 hb2 h hl
  go_enter Try.func34, Try.ntmps34
  go_upto_region 2 with (fail)
  change Code.wp _ _ _ _ (((w.alloc (.cells #[.string nm, .bool true, .bool false, .bool false, .int .i64 0, .int .i64 0] 70)).alloc (.cells act0 49)).alloc (.cells (actC ⟨kind, [], [], 0, []⟩ none none none 0 0 0) 49))
  rw [HW2.out]
  clear HW2
  obtain ⟨⟨y0, y1, y2, y3, y4, y5⟩, ⟨z0, z1, z2, z3, z4⟩, ⟨r1, r2, r3, r4⟩⟩ := HB2.out.cells
  go_upto_region 4 with (go_at_call 42; (with_reducible refine (HB2.out.rd.txt HB2.out.nle (HLS.out)).mono ?_); rintro e w3 ⟨p4, q4, rfl, hu, hr, hm⟩; have HB3 := Lib.hid (HB2.out.moved hr hm); have HU4 := Lib.hid hu; clear hu hr hm; clear y0 y1 y2 y3 y4 y5 z0 z1 z2 z3 z4 r1 r2 r3 r4; obtain ⟨⟨y0, y1, y2, y3, y4, y5⟩, ⟨z0, z1, z2, z3, z4⟩, ⟨r1, r2, r3, r4⟩⟩ := HB3.out.cells)
  obtain ⟨w4, hw4⟩ : ∃ w4, w3.setCell ⟨w.heap.size + 2, 1, none⟩ (.slice p4 (rTxt s).1.length q4) = w4 := ⟨_, rfl⟩
  change Code.wp _ _ _ _ (w3.setCell ⟨w.heap.size + 2, 1, none⟩ (.slice p4 (rTxt s).1.length q4))
  have hb4 := HB3.out.set 1 _ (x' := ⟨kind, (rTxt s).1, [], 0, []⟩) (b1 := p4) (b2 := none) (b3 := none) (d1 := q4) (d2 := 0) (d3 := 0) rfl HU4.out HB3.out.val
  rw [hw4] at hb4 ⊢
  have HB4 := Lib.hid hb4
  clear hw4 hb4
  clear y0 y1 y2 y3 y4 y5 z0 z1 z2 z3 z4 r1 r2 r3 r4
  obtain ⟨⟨y0, y1, y2, y3, y4, y5⟩, ⟨z0, z1, z2, z3, z4⟩, ⟨r1, r2, r3, r4⟩⟩ := HB4.out.cells
  go_wp2_with (go_at_call 40; (with_reducible refine (HCT.out _).mono ?_); rintro e wc ⟨rfl, hc⟩; have HBc := Lib.hid (HB4.out.below hc); clear hc; clear y0 y1 y2 y3 y4 y5 z0 z1 z2 z3 z4 r1 r2 r3 r4; obtain ⟨⟨y0, y1, y2, y3, y4, y5⟩, ⟨z0, z1, z2, z3, z4⟩, ⟨r1, r2, r3, r4⟩⟩ := HBc.out.cells)
  clear y0 y1 y2 y3 y4 y5 z0 z1 z2 z3 z4 r1 r2 r3 r4
  go_loopw [35] (fun i wr => i = .int .i64 0 ∧ wr = wc) (fun _ _ => 0)
  case atStart => exact ⟨rfl, rfl⟩
  case round =>
    obtain ⟨rfl, rfl⟩ := hrel
    obtain ⟨⟨y0, y1, y2, y3, y4, y5⟩, ⟨z0, z1, z2, z3, z4⟩, ⟨r1, r2, r3, r4⟩⟩ := HBc.out.cells
    have hend := setRow_heap _ (w.heap.size + 1) _ (actC ⟨kind, (rTxt s).1, [], 0, []⟩ p4 none none q4 0 0) _ _ HBc.out.res
    have hfin := HBc.out.done ⟨IntsAt.nil _ _, TypeAt.none⟩
    have HE := Lib.hid (And.intro hend hfin)
    clear hend hfin
    go_wp2_with (refine wpList_store_row (o := ⟨none, _, _, _, _, _⟩) rfl 49 (.tmp 6) (.tmp 46) rfl (w.heap.size + 1) (actC ⟨kind, (rTxt s).1, [], 0, []⟩ p4 none none q4 0 0) rfl rfl 49 act0 HBc.out.res (actC_sz _ _ _ _ _ _ _) rfl ?_ ?_; exact actC_one _ _ _ _ _ _ _)
    exact bodyPost_ret (results_cell_row rfl _ _ (w.heap.size + 1) 49 (actC ⟨kind, (rTxt s).1, [], 0, []⟩ p4 none none q4 0 0) (0, 0) _ rfl HE.out.1 Try.underlying49 rfl (actC_sz _ _ _ _ _ _ _)) rfl HE.out.2
set_option maxRecDepth 100000 in
set_option maxHeartbeats 8000000 in
theorem read_set (nm : ByteArray) (kind : Int) {n₀ R : Nat} {s : RSt} {w : World} (h : ReadB n₀ R s w) (hn : n₀ ≤ w.heap.size) (hl : s.1.length ≤ 1099511627776) :
    Calls Try.prog 34 #[.agg #[.string nm, .bool true, .bool true, .bool true, .int .i64 0, .int .i64 0], .pointer (some ⟨R, 0, none⟩), .int .i64 kind] w (ReadRet n₀ R (readS true true true false 0 kind s).1 (readS true true true false 0 kind s).2 w) := by
  obtain ⟨w2, hw2⟩ : ∃ w2, ((w.alloc (.cells #[.string nm, .bool true, .bool true, .bool true, .int .i64 0, .int .i64 0] 70)).alloc (.cells act0 49)).alloc (.cells (actC ⟨kind, [], [], 0, []⟩ none none none 0 0 0) 49) = w2 := ⟨_, rfl⟩
  have hb2 := RB.start h hn (#[.string nm, .bool true, .bool true, .bool true, .int .i64 0, .int .i64 0]) kind
  rw [hw2] at hb2
  have HB2 := Lib.hid hb2
  have HW2 := Lib.hid hw2
  have HCT := Lib.hid (fun W => counted_any nm true true true 0 0 W)
  have HLS := Lib.hid hl
  clear hw2 hb2 h hl
  go_enter Try.func34, Try.ntmps34
  go_upto_region 2 with (fail)
  change Code.wp _ _ _ _ (((w.alloc (.cells #[.string nm, .bool true, .bool true, .bool true, .int .i64 0, .int .i64 0] 70)).alloc (.cells act0 49)).alloc (.cells (actC ⟨kind, [], [], 0, []⟩ none none none 0 0 0) 49))
  rw [HW2.out]
  clear HW2
  obtain ⟨⟨y0, y1, y2, y3, y4, y5⟩, ⟨z0, z1, z2, z3, z4⟩, ⟨r1, r2, r3, r4⟩⟩ := HB2.out.cells
  go_upto_region 4 with (go_at_call 42; (with_reducible refine (HB2.out.rd.txt HB2.out.nle (HLS.out)).mono ?_); rintro e w3 ⟨p4, q4, rfl, hu, hr, hm⟩; have HB3 := Lib.hid (HB2.out.moved hr hm); have HU4 := Lib.hid hu; clear hu hr hm; clear y0 y1 y2 y3 y4 y5 z0 z1 z2 z3 z4 r1 r2 r3 r4; obtain ⟨⟨y0, y1, y2, y3, y4, y5⟩, ⟨z0, z1, z2, z3, z4⟩, ⟨r1, r2, r3, r4⟩⟩ := HB3.out.cells)
  obtain ⟨w4, hw4⟩ : ∃ w4, w3.setCell ⟨w.heap.size + 2, 1, none⟩ (.slice p4 (rTxt s).1.length q4) = w4 := ⟨_, rfl⟩
  change Code.wp _ _ _ _ (w3.setCell ⟨w.heap.size + 2, 1, none⟩ (.slice p4 (rTxt s).1.length q4))
  have hb4 := HB3.out.set 1 _ (x' := ⟨kind, (rTxt s).1, [], 0, []⟩) (b1 := p4) (b2 := none) (b3 := none) (d1 := q4) (d2 := 0) (d3 := 0) rfl HU4.out HB3.out.val
  rw [hw4] at hb4 ⊢
  have HB4 := Lib.hid hb4
  clear hw4 hb4
  clear y0 y1 y2 y3 y4 y5 z0 z1 z2 z3 z4 r1 r2 r3 r4
  obtain ⟨⟨y0, y1, y2, y3, y4, y5⟩, ⟨z0, z1, z2, z3, z4⟩, ⟨r1, r2, r3, r4⟩⟩ := HB4.out.cells
  go_upto_region 6 with (go_at_call 42; (with_reducible refine (HB4.out.rd.txt HB4.out.nle ((Nat.le_trans (rTxt_len _) (HLS.out)))).mono ?_); rintro e w5 ⟨p6, q6, rfl, hu, hr, hm⟩; have HB5 := Lib.hid (HB4.out.moved hr hm); have HU6 := Lib.hid hu; clear hu hr hm; clear y0 y1 y2 y3 y4 y5 z0 z1 z2 z3 z4 r1 r2 r3 r4; obtain ⟨⟨y0, y1, y2, y3, y4, y5⟩, ⟨z0, z1, z2, z3, z4⟩, ⟨r1, r2, r3, r4⟩⟩ := HB5.out.cells)
  obtain ⟨w6, hw6⟩ : ∃ w6, w5.setCell ⟨w.heap.size + 2, 2, none⟩ (.slice p6 (rTxt (rTxt s).2).1.length q6) = w6 := ⟨_, rfl⟩
  change Code.wp _ _ _ _ (w5.setCell ⟨w.heap.size + 2, 2, none⟩ (.slice p6 (rTxt (rTxt s).2).1.length q6))
  have hb6 := HB5.out.set 2 _ (x' := ⟨kind, (rTxt s).1, (rTxt (rTxt s).2).1, 0, []⟩) (b1 := p4) (b2 := p6) (b3 := none) (d1 := q4) (d2 := q6) (d3 := 0) rfl HB5.out.key HU6.out
  rw [hw6] at hb6 ⊢
  have HB6 := Lib.hid hb6
  clear hw6 hb6
  clear y0 y1 y2 y3 y4 y5 z0 z1 z2 z3 z4 r1 r2 r3 r4
  obtain ⟨⟨y0, y1, y2, y3, y4, y5⟩, ⟨z0, z1, z2, z3, z4⟩, ⟨r1, r2, r3, r4⟩⟩ := HB6.out.cells
  go_upto_region 8 with (go_at_call 14; (with_reducible refine (HB6.out.rd.num8 HB6.out.nle ((Nat.le_trans (rTxt_len _) ((Nat.le_trans (rTxt_len _) (HLS.out)))))).mono ?_); rintro e w7 ⟨rfl, hr, hm⟩; have HB7 := Lib.hid (HB6.out.moved hr hm); clear hr hm; clear y0 y1 y2 y3 y4 y5 z0 z1 z2 z3 z4 r1 r2 r3 r4; obtain ⟨⟨y0, y1, y2, y3, y4, y5⟩, ⟨z0, z1, z2, z3, z4⟩, ⟨r1, r2, r3, r4⟩⟩ := HB7.out.cells)
  obtain ⟨w8, hw8⟩ : ∃ w8, w7.setCell ⟨w.heap.size + 2, 3, none⟩ (.int .i64 (toI (rNum (rTxt (rTxt s).2).2 8).1)) = w8 := ⟨_, rfl⟩
  change Code.wp _ _ _ _ (w7.setCell ⟨w.heap.size + 2, 3, none⟩ (.int .i64 (toI (rNum (rTxt (rTxt s).2).2 8).1)))
  have hb8 := HB7.out.set 3 _ (x' := ⟨kind, (rTxt s).1, (rTxt (rTxt s).2).1, toI (rNum (rTxt (rTxt s).2).2 8).1, []⟩) (b1 := p4) (b2 := p6) (b3 := none) (d1 := q4) (d2 := q6) (d3 := 0) rfl HB7.out.key HB7.out.val
  rw [hw8] at hb8 ⊢
  have HB8 := Lib.hid hb8
  clear hw8 hb8
  clear y0 y1 y2 y3 y4 y5 z0 z1 z2 z3 z4 r1 r2 r3 r4
  obtain ⟨⟨y0, y1, y2, y3, y4, y5⟩, ⟨z0, z1, z2, z3, z4⟩, ⟨r1, r2, r3, r4⟩⟩ := HB8.out.cells
  go_wp2_with (go_at_call 40; (with_reducible refine (HCT.out _).mono ?_); rintro e wc ⟨rfl, hc⟩; have HBc := Lib.hid (HB8.out.below hc); clear hc; clear y0 y1 y2 y3 y4 y5 z0 z1 z2 z3 z4 r1 r2 r3 r4; obtain ⟨⟨y0, y1, y2, y3, y4, y5⟩, ⟨z0, z1, z2, z3, z4⟩, ⟨r1, r2, r3, r4⟩⟩ := HBc.out.cells)
  clear y0 y1 y2 y3 y4 y5 z0 z1 z2 z3 z4 r1 r2 r3 r4
  go_loopw [35] (fun i wr => i = .int .i64 0 ∧ wr = wc) (fun _ _ => 0)
  case atStart => exact ⟨rfl, rfl⟩
  case round =>
    obtain ⟨rfl, rfl⟩ := hrel
    obtain ⟨⟨y0, y1, y2, y3, y4, y5⟩, ⟨z0, z1, z2, z3, z4⟩, ⟨r1, r2, r3, r4⟩⟩ := HBc.out.cells
    have hend := setRow_heap _ (w.heap.size + 1) _ (actC ⟨kind, (rTxt s).1, (rTxt (rTxt s).2).1, toI (rNum (rTxt (rTxt s).2).2 8).1, []⟩ p4 p6 none q4 q6 0) _ _ HBc.out.res
    have hfin := HBc.out.done ⟨IntsAt.nil _ _, TypeAt.none⟩
    have HE := Lib.hid (And.intro hend hfin)
    clear hend hfin
    go_wp2_with (refine wpList_store_row (o := ⟨none, _, _, _, _, _⟩) rfl 49 (.tmp 6) (.tmp 46) rfl (w.heap.size + 1) (actC ⟨kind, (rTxt s).1, (rTxt (rTxt s).2).1, toI (rNum (rTxt (rTxt s).2).2 8).1, []⟩ p4 p6 none q4 q6 0) rfl rfl 49 act0 HBc.out.res (actC_sz _ _ _ _ _ _ _) rfl ?_ ?_; exact actC_one _ _ _ _ _ _ _)
    exact bodyPost_ret (results_cell_row rfl _ _ (w.heap.size + 1) 49 (actC ⟨kind, (rTxt s).1, (rTxt (rTxt s).2).1, toI (rNum (rTxt (rTxt s).2).2 8).1, []⟩ p4 p6 none q4 q6 0) (0, 0) _ rfl HE.out.1 Try.underlying49 rfl (actC_sz _ _ _ _ _ _ _)) rfl HE.out.2
set_option maxRecDepth 100000 in
set_option maxHeartbeats 8000000 in
theorem read_none (nm : ByteArray) (kind : Int) {n₀ R : Nat} {s : RSt} {w : World} (h : ReadB n₀ R s w) (hn : n₀ ≤ w.heap.size) (hl : s.1.length ≤ 1099511627776) :
    Calls Try.prog 34 #[.agg #[.string nm, .bool false, .bool false, .bool false, .int .i64 0, .int .i64 0], .pointer (some ⟨R, 0, none⟩), .int .i64 kind] w (ReadRet n₀ R (readS false false false false 0 kind s).1 (readS false false false false 0 kind s).2 w) := by
  obtain ⟨w2, hw2⟩ : ∃ w2, ((w.alloc (.cells #[.string nm, .bool false, .bool false, .bool false, .int .i64 0, .int .i64 0] 70)).alloc (.cells act0 49)).alloc (.cells (actC ⟨kind, [], [], 0, []⟩ none none none 0 0 0) 49) = w2 := ⟨_, rfl⟩
  have hb2 := RB.start h hn (#[.string nm, .bool false, .bool false, .bool false, .int .i64 0, .int .i64 0]) kind
  rw [hw2] at hb2
  have HB2 := Lib.hid hb2
  have HW2 := Lib.hid hw2
  have HCT := Lib.hid (fun W => counted_any nm false false false 0 0 W)
  have HLS := Lib.hid hl
  clear hw2 hb2 h hl
  go_enter Try.func34, Try.ntmps34
  go_upto_region 2 with (fail)
  change Code.wp _ _ _ _ (((w.alloc (.cells #[.string nm, .bool false, .bool false, .bool false, .int .i64 0, .int .i64 0] 70)).alloc (.cells act0 49)).alloc (.cells (actC ⟨kind, [], [], 0, []⟩ none none none 0 0 0) 49))
  rw [HW2.out]
  clear HW2
  obtain ⟨⟨y0, y1, y2, y3, y4, y5⟩, ⟨z0, z1, z2, z3, z4⟩, ⟨r1, r2, r3, r4⟩⟩ := HB2.out.cells
  go_wp2_with (go_at_call 40; (with_reducible refine (HCT.out _).mono ?_); rintro e wc ⟨rfl, hc⟩; have HBc := Lib.hid (HB2.out.below hc); clear hc; clear y0 y1 y2 y3 y4 y5 z0 z1 z2 z3 z4 r1 r2 r3 r4; obtain ⟨⟨y0, y1, y2, y3, y4, y5⟩, ⟨z0, z1, z2, z3, z4⟩, ⟨r1, r2, r3, r4⟩⟩ := HBc.out.cells)
  clear y0 y1 y2 y3 y4 y5 z0 z1 z2 z3 z4 r1 r2 r3 r4
  go_loopw [35] (fun i wr => i = .int .i64 0 ∧ wr = wc) (fun _ _ => 0)
  case atStart => exact ⟨rfl, rfl⟩
  case round =>
    obtain ⟨rfl, rfl⟩ := hrel
    obtain ⟨⟨y0, y1, y2, y3, y4, y5⟩, ⟨z0, z1, z2, z3, z4⟩, ⟨r1, r2, r3, r4⟩⟩ := HBc.out.cells
    have hend := setRow_heap _ (w.heap.size + 1) _ (actC ⟨kind, [], [], 0, []⟩ none none none 0 0 0) _ _ HBc.out.res
    have hfin := HBc.out.done ⟨IntsAt.nil _ _, TypeAt.none⟩
    have HE := Lib.hid (And.intro hend hfin)
    clear hend hfin
    go_wp2_with (refine wpList_store_row (o := ⟨none, _, _, _, _, _⟩) rfl 49 (.tmp 6) (.tmp 46) rfl (w.heap.size + 1) (actC ⟨kind, [], [], 0, []⟩ none none none 0 0 0) rfl rfl 49 act0 HBc.out.res (actC_sz _ _ _ _ _ _ _) rfl ?_ ?_; exact actC_one _ _ _ _ _ _ _)
    exact bodyPost_ret (results_cell_row rfl _ _ (w.heap.size + 1) 49 (actC ⟨kind, [], [], 0, []⟩ none none none 0 0 0) (0, 0) _ rfl HE.out.1 Try.underlying49 rfl (actC_sz _ _ _ _ _ _ _)) rfl HE.out.2
set_option maxRecDepth 100000 in
set_option maxHeartbeats 8000000 in
theorem read_num (nm : ByteArray) (kind : Int) {n₀ R : Nat} {s : RSt} {w : World} (h : ReadB n₀ R s w) (hn : n₀ ≤ w.heap.size) (hl : s.1.length ≤ 1099511627776) :
    Calls Try.prog 34 #[.agg #[.string nm, .bool false, .bool false, .bool true, .int .i64 0, .int .i64 0], .pointer (some ⟨R, 0, none⟩), .int .i64 kind] w (ReadRet n₀ R (readS false false true false 0 kind s).1 (readS false false true false 0 kind s).2 w) := by
  obtain ⟨w2, hw2⟩ : ∃ w2, ((w.alloc (.cells #[.string nm, .bool false, .bool false, .bool true, .int .i64 0, .int .i64 0] 70)).alloc (.cells act0 49)).alloc (.cells (actC ⟨kind, [], [], 0, []⟩ none none none 0 0 0) 49) = w2 := ⟨_, rfl⟩
  have hb2 := RB.start h hn (#[.string nm, .bool false, .bool false, .bool true, .int .i64 0, .int .i64 0]) kind
  rw [hw2] at hb2
  have HB2 := Lib.hid hb2
  have HW2 := Lib.hid hw2
  have HCT := Lib.hid (fun W => counted_any nm false false true 0 0 W)
  have HLS := Lib.hid hl
  clear hw2 hb2 h hl
  go_enter Try.func34, Try.ntmps34
  go_upto_region 2 with (fail)
  change Code.wp _ _ _ _ (((w.alloc (.cells #[.string nm, .bool false, .bool false, .bool true, .int .i64 0, .int .i64 0] 70)).alloc (.cells act0 49)).alloc (.cells (actC ⟨kind, [], [], 0, []⟩ none none none 0 0 0) 49))
  rw [HW2.out]
  clear HW2
  obtain ⟨⟨y0, y1, y2, y3, y4, y5⟩, ⟨z0, z1, z2, z3, z4⟩, ⟨r1, r2, r3, r4⟩⟩ := HB2.out.cells
  go_upto_region 8 with (go_at_call 14; (with_reducible refine (HB2.out.rd.num8 HB2.out.nle (HLS.out)).mono ?_); rintro e w3 ⟨rfl, hr, hm⟩; have HB3 := Lib.hid (HB2.out.moved hr hm); clear hr hm; clear y0 y1 y2 y3 y4 y5 z0 z1 z2 z3 z4 r1 r2 r3 r4; obtain ⟨⟨y0, y1, y2, y3, y4, y5⟩, ⟨z0, z1, z2, z3, z4⟩, ⟨r1, r2, r3, r4⟩⟩ := HB3.out.cells)
  obtain ⟨w4, hw4⟩ : ∃ w4, w3.setCell ⟨w.heap.size + 2, 3, none⟩ (.int .i64 (toI (rNum s 8).1)) = w4 := ⟨_, rfl⟩
  change Code.wp _ _ _ _ (w3.setCell ⟨w.heap.size + 2, 3, none⟩ (.int .i64 (toI (rNum s 8).1)))
  have hb4 := HB3.out.set 3 _ (x' := ⟨kind, [], [], toI (rNum s 8).1, []⟩) (b1 := none) (b2 := none) (b3 := none) (d1 := 0) (d2 := 0) (d3 := 0) rfl HB3.out.key HB3.out.val
  rw [hw4] at hb4 ⊢
  have HB4 := Lib.hid hb4
  clear hw4 hb4
  clear y0 y1 y2 y3 y4 y5 z0 z1 z2 z3 z4 r1 r2 r3 r4
  obtain ⟨⟨y0, y1, y2, y3, y4, y5⟩, ⟨z0, z1, z2, z3, z4⟩, ⟨r1, r2, r3, r4⟩⟩ := HB4.out.cells
  go_wp2_with (go_at_call 40; (with_reducible refine (HCT.out _).mono ?_); rintro e wc ⟨rfl, hc⟩; have HBc := Lib.hid (HB4.out.below hc); clear hc; clear y0 y1 y2 y3 y4 y5 z0 z1 z2 z3 z4 r1 r2 r3 r4; obtain ⟨⟨y0, y1, y2, y3, y4, y5⟩, ⟨z0, z1, z2, z3, z4⟩, ⟨r1, r2, r3, r4⟩⟩ := HBc.out.cells)
  clear y0 y1 y2 y3 y4 y5 z0 z1 z2 z3 z4 r1 r2 r3 r4
  go_loopw [35] (fun i wr => i = .int .i64 0 ∧ wr = wc) (fun _ _ => 0)
  case atStart => exact ⟨rfl, rfl⟩
  case round =>
    obtain ⟨rfl, rfl⟩ := hrel
    obtain ⟨⟨y0, y1, y2, y3, y4, y5⟩, ⟨z0, z1, z2, z3, z4⟩, ⟨r1, r2, r3, r4⟩⟩ := HBc.out.cells
    have hend := setRow_heap _ (w.heap.size + 1) _ (actC ⟨kind, [], [], toI (rNum s 8).1, []⟩ none none none 0 0 0) _ _ HBc.out.res
    have hfin := HBc.out.done ⟨IntsAt.nil _ _, TypeAt.none⟩
    have HE := Lib.hid (And.intro hend hfin)
    clear hend hfin
    go_wp2_with (refine wpList_store_row (o := ⟨none, _, _, _, _, _⟩) rfl 49 (.tmp 6) (.tmp 46) rfl (w.heap.size + 1) (actC ⟨kind, [], [], toI (rNum s 8).1, []⟩ none none none 0 0 0) rfl rfl 49 act0 HBc.out.res (actC_sz _ _ _ _ _ _ _) rfl ?_ ?_; exact actC_one _ _ _ _ _ _ _)
    exact bodyPost_ret (results_cell_row rfl _ _ (w.heap.size + 1) 49 (actC ⟨kind, [], [], toI (rNum s 8).1, []⟩ none none none 0 0 0) (0, 0) _ rfl HE.out.1 Try.underlying49 rfl (actC_sz _ _ _ _ _ _ _)) rfl HE.out.2
end Go.Proofs.Ytgaabclgoolalaa

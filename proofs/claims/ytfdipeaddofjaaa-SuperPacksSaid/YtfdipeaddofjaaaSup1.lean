/-
  super.isHead, turn: which head may be.
  Conditions: none.
-/
import Derived.Test.YtfdipeaddofjaaaJP1
import Derived.Test.YtfdipeaddofjaaaJF2
import Derived.BigQuiet
namespace Go.Proofs.Ytfdipeaddofjaaa
open Go.RowKit

/-- A head. -/
structure HeadP where
  plan : PlanP
  gen : Int
  page : Int
  stamp : Int
  depth : Int
  log : Int
  region : Int
  time : Int
def HeadP.cells (h : HeadP) : Array Value := #[.int .i64 h.plan.sectors, .int .i64 h.plan.size, .int .i64 h.plan.regions, .int .i64 h.plan.rs, .int .i64 h.plan.log, .int .i64 h.plan.depth, .int .i64 h.plan.memory, .int .u64 (U h.plan.seed), .int .i64 h.gen, .int .i64 h.page, .int .i64 h.stamp, .int .i64 h.depth, .int .i64 h.log, .int .i64 h.region, .int .i64 h.time]
def HeadP.Ok (h : HeadP) : Prop := 1 ≤ h.gen ∧ 0 ≤ h.page ∧ h.page ≤ 2147483647 ∧ 0 ≤ h.stamp ∧ 0 ≤ h.depth ∧ h.depth ≤ h.plan.depth ∧ 1 ≤ h.log ∧ 0 ≤ h.region ∧ 0 ≤ h.time ∧ h.time ≤ 281474976710656
instance (h : HeadP) : Decidable h.Ok := by unfold HeadP.Ok; infer_instance
/-- What isHead leaves. -/
def HeadTold (h : HeadP) (w : World) (e : Ending) (w' : World) : Prop := e = .returned (.bool (decide h.Ok)) ∧ Below w.heap.size w w'
theorem head_cells {w : World} {g : Nat} {h : HeadP} {t : TypeId} (hb : w.heap[g]? = some (.cells h.cells t (0, 0))) :
    w.cell? ⟨g, 5, none⟩ = some (.int .i64 h.plan.depth) ∧ w.cell? ⟨g, 8, none⟩ = some (.int .i64 h.gen) ∧ w.cell? ⟨g, 9, none⟩ = some (.int .i64 h.page) ∧ w.cell? ⟨g, 10, none⟩ = some (.int .i64 h.stamp) ∧ w.cell? ⟨g, 11, none⟩ = some (.int .i64 h.depth) ∧ w.cell? ⟨g, 12, none⟩ = some (.int .i64 h.log) ∧ w.cell? ⟨g, 13, none⟩ = some (.int .i64 h.region) ∧ w.cell? ⟨g, 14, none⟩ = some (.int .i64 h.time) :=
  ⟨blk_cell hb 5, blk_cell hb 8, blk_cell hb 9, blk_cell hb 10, blk_cell hb 11, blk_cell hb 12, blk_cell hb 13, blk_cell hb 14⟩

set_option maxHeartbeats 1000000 in
theorem isHead_0 (h : HeadP) (w : World)  (c0 : ¬ (1 ≤ h.gen)) : Calls Try.prog 21 #[.agg h.cells] w (HeadTold h w) := by
  have HD : Hid (decide h.Ok = false) := by unfold Hid; rw [decide_eq_false_iff_not]; rintro ⟨n, _⟩; exact c0 n
  have e0 : decide (1 ≤ h.gen) = false := by rw [decide_eq_false_iff_not]; exact c0
  clear c0
  have hX : (w.alloc (.cells h.cells 35)).heap[w.heap.size]? = some (.cells h.cells 35 (0, 0)) := heap_alloc_new _ _
  have HB := Lib.hid (show Below w.heap.size w (w.alloc (.cells h.cells 35)) from (Below.refl _ _).alloc (Nat.le_refl _) _)
  obtain ⟨w1, hW1⟩ : ∃ w1, w.alloc (.cells h.cells 35) = w1 := ⟨_, rfl⟩
  rw [hW1] at hX HB
  obtain ⟨d5, d8, d9, d10, d11, d12, d13, d14⟩ := head_cells hX
  clear hX
  go_enter Try.func21, Try.ntmps21
  go_upto_region 1 with (fail)
  clear hW1
  go_wp2
  go_ret
  exact ⟨by rw [HD.out]; rfl, HB.out⟩

set_option maxHeartbeats 1000000 in
theorem isHead_1 (h : HeadP) (w : World) (c0 : 1 ≤ h.gen) (c1 : ¬ (0 ≤ h.page)) : Calls Try.prog 21 #[.agg h.cells] w (HeadTold h w) := by
  have HD : Hid (decide h.Ok = false) := by unfold Hid; rw [decide_eq_false_iff_not]; rintro ⟨_, n, _⟩; exact c1 n
  have e1 : decide (0 ≤ h.page) = false := by rw [decide_eq_false_iff_not]; exact c1
  clear c1
  have hX : (w.alloc (.cells h.cells 35)).heap[w.heap.size]? = some (.cells h.cells 35 (0, 0)) := heap_alloc_new _ _
  have HB := Lib.hid (show Below w.heap.size w (w.alloc (.cells h.cells 35)) from (Below.refl _ _).alloc (Nat.le_refl _) _)
  obtain ⟨w1, hW1⟩ : ∃ w1, w.alloc (.cells h.cells 35) = w1 := ⟨_, rfl⟩
  rw [hW1] at hX HB
  obtain ⟨d5, d8, d9, d10, d11, d12, d13, d14⟩ := head_cells hX
  clear hX
  go_enter Try.func21, Try.ntmps21
  go_upto_region 1 with (fail)
  clear hW1
  go_wp2
  go_ret
  exact ⟨by rw [HD.out]; rfl, HB.out⟩

set_option maxHeartbeats 1000000 in
theorem isHead_2 (h : HeadP) (w : World) (c0 : 1 ≤ h.gen) (c1 : 0 ≤ h.page) (c2 : ¬ (h.page ≤ 2147483647)) : Calls Try.prog 21 #[.agg h.cells] w (HeadTold h w) := by
  have HD : Hid (decide h.Ok = false) := by unfold Hid; rw [decide_eq_false_iff_not]; rintro ⟨_, _, n, _⟩; exact c2 n
  have e2 : decide (h.page ≤ 2147483647) = false := by rw [decide_eq_false_iff_not]; exact c2
  clear c2
  have hX : (w.alloc (.cells h.cells 35)).heap[w.heap.size]? = some (.cells h.cells 35 (0, 0)) := heap_alloc_new _ _
  have HB := Lib.hid (show Below w.heap.size w (w.alloc (.cells h.cells 35)) from (Below.refl _ _).alloc (Nat.le_refl _) _)
  obtain ⟨w1, hW1⟩ : ∃ w1, w.alloc (.cells h.cells 35) = w1 := ⟨_, rfl⟩
  rw [hW1] at hX HB
  obtain ⟨d5, d8, d9, d10, d11, d12, d13, d14⟩ := head_cells hX
  clear hX
  go_enter Try.func21, Try.ntmps21
  go_upto_region 1 with (fail)
  clear hW1
  go_wp2
  go_ret
  exact ⟨by rw [HD.out]; rfl, HB.out⟩

set_option maxHeartbeats 1000000 in
theorem isHead_3 (h : HeadP) (w : World) (c0 : 1 ≤ h.gen) (c1 : 0 ≤ h.page) (c2 : h.page ≤ 2147483647) (c3 : ¬ (0 ≤ h.stamp)) : Calls Try.prog 21 #[.agg h.cells] w (HeadTold h w) := by
  have HD : Hid (decide h.Ok = false) := by unfold Hid; rw [decide_eq_false_iff_not]; rintro ⟨_, _, _, n, _⟩; exact c3 n
  have e3 : decide (0 ≤ h.stamp) = false := by rw [decide_eq_false_iff_not]; exact c3
  clear c3
  have hX : (w.alloc (.cells h.cells 35)).heap[w.heap.size]? = some (.cells h.cells 35 (0, 0)) := heap_alloc_new _ _
  have HB := Lib.hid (show Below w.heap.size w (w.alloc (.cells h.cells 35)) from (Below.refl _ _).alloc (Nat.le_refl _) _)
  obtain ⟨w1, hW1⟩ : ∃ w1, w.alloc (.cells h.cells 35) = w1 := ⟨_, rfl⟩
  rw [hW1] at hX HB
  obtain ⟨d5, d8, d9, d10, d11, d12, d13, d14⟩ := head_cells hX
  clear hX
  go_enter Try.func21, Try.ntmps21
  go_upto_region 1 with (fail)
  clear hW1
  go_wp2
  go_ret
  exact ⟨by rw [HD.out]; rfl, HB.out⟩

set_option maxHeartbeats 1000000 in
theorem isHead_4 (h : HeadP) (w : World) (c0 : 1 ≤ h.gen) (c1 : 0 ≤ h.page) (c2 : h.page ≤ 2147483647) (c3 : 0 ≤ h.stamp) (c4 : ¬ (0 ≤ h.depth)) : Calls Try.prog 21 #[.agg h.cells] w (HeadTold h w) := by
  have HD : Hid (decide h.Ok = false) := by unfold Hid; rw [decide_eq_false_iff_not]; rintro ⟨_, _, _, _, n, _⟩; exact c4 n
  have e4 : decide (0 ≤ h.depth) = false := by rw [decide_eq_false_iff_not]; exact c4
  clear c4
  have hX : (w.alloc (.cells h.cells 35)).heap[w.heap.size]? = some (.cells h.cells 35 (0, 0)) := heap_alloc_new _ _
  have HB := Lib.hid (show Below w.heap.size w (w.alloc (.cells h.cells 35)) from (Below.refl _ _).alloc (Nat.le_refl _) _)
  obtain ⟨w1, hW1⟩ : ∃ w1, w.alloc (.cells h.cells 35) = w1 := ⟨_, rfl⟩
  rw [hW1] at hX HB
  obtain ⟨d5, d8, d9, d10, d11, d12, d13, d14⟩ := head_cells hX
  clear hX
  go_enter Try.func21, Try.ntmps21
  go_upto_region 1 with (fail)
  clear hW1
  go_wp2
  go_ret
  exact ⟨by rw [HD.out]; rfl, HB.out⟩

set_option maxHeartbeats 1000000 in
theorem isHead_5 (h : HeadP) (w : World) (c0 : 1 ≤ h.gen) (c1 : 0 ≤ h.page) (c2 : h.page ≤ 2147483647) (c3 : 0 ≤ h.stamp) (c4 : 0 ≤ h.depth) (c5 : ¬ (h.depth ≤ h.plan.depth)) : Calls Try.prog 21 #[.agg h.cells] w (HeadTold h w) := by
  have HD : Hid (decide h.Ok = false) := by unfold Hid; rw [decide_eq_false_iff_not]; rintro ⟨_, _, _, _, _, n, _⟩; exact c5 n
  have e5 : decide (h.depth ≤ h.plan.depth) = false := by rw [decide_eq_false_iff_not]; exact c5
  clear c5
  have hX : (w.alloc (.cells h.cells 35)).heap[w.heap.size]? = some (.cells h.cells 35 (0, 0)) := heap_alloc_new _ _
  have HB := Lib.hid (show Below w.heap.size w (w.alloc (.cells h.cells 35)) from (Below.refl _ _).alloc (Nat.le_refl _) _)
  obtain ⟨w1, hW1⟩ : ∃ w1, w.alloc (.cells h.cells 35) = w1 := ⟨_, rfl⟩
  rw [hW1] at hX HB
  obtain ⟨d5, d8, d9, d10, d11, d12, d13, d14⟩ := head_cells hX
  clear hX
  go_enter Try.func21, Try.ntmps21
  go_upto_region 1 with (fail)
  clear hW1
  go_wp2
  go_ret
  exact ⟨by rw [HD.out]; rfl, HB.out⟩

set_option maxHeartbeats 1000000 in
theorem isHead_6 (h : HeadP) (w : World) (c0 : 1 ≤ h.gen) (c1 : 0 ≤ h.page) (c2 : h.page ≤ 2147483647) (c3 : 0 ≤ h.stamp) (c4 : 0 ≤ h.depth) (c5 : h.depth ≤ h.plan.depth) (c6 : ¬ (1 ≤ h.log)) : Calls Try.prog 21 #[.agg h.cells] w (HeadTold h w) := by
  have HD : Hid (decide h.Ok = false) := by unfold Hid; rw [decide_eq_false_iff_not]; rintro ⟨_, _, _, _, _, _, n, _⟩; exact c6 n
  have e6 : decide (1 ≤ h.log) = false := by rw [decide_eq_false_iff_not]; exact c6
  clear c6
  have hX : (w.alloc (.cells h.cells 35)).heap[w.heap.size]? = some (.cells h.cells 35 (0, 0)) := heap_alloc_new _ _
  have HB := Lib.hid (show Below w.heap.size w (w.alloc (.cells h.cells 35)) from (Below.refl _ _).alloc (Nat.le_refl _) _)
  obtain ⟨w1, hW1⟩ : ∃ w1, w.alloc (.cells h.cells 35) = w1 := ⟨_, rfl⟩
  rw [hW1] at hX HB
  obtain ⟨d5, d8, d9, d10, d11, d12, d13, d14⟩ := head_cells hX
  clear hX
  go_enter Try.func21, Try.ntmps21
  go_upto_region 1 with (fail)
  clear hW1
  go_wp2
  go_ret
  exact ⟨by rw [HD.out]; rfl, HB.out⟩

set_option maxHeartbeats 1000000 in
theorem isHead_7 (h : HeadP) (w : World) (c0 : 1 ≤ h.gen) (c1 : 0 ≤ h.page) (c2 : h.page ≤ 2147483647) (c3 : 0 ≤ h.stamp) (c4 : 0 ≤ h.depth) (c5 : h.depth ≤ h.plan.depth) (c6 : 1 ≤ h.log) (c7 : ¬ (0 ≤ h.region)) : Calls Try.prog 21 #[.agg h.cells] w (HeadTold h w) := by
  have HD : Hid (decide h.Ok = false) := by unfold Hid; rw [decide_eq_false_iff_not]; rintro ⟨_, _, _, _, _, _, _, n, _⟩; exact c7 n
  have e7 : decide (0 ≤ h.region) = false := by rw [decide_eq_false_iff_not]; exact c7
  clear c7
  have hX : (w.alloc (.cells h.cells 35)).heap[w.heap.size]? = some (.cells h.cells 35 (0, 0)) := heap_alloc_new _ _
  have HB := Lib.hid (show Below w.heap.size w (w.alloc (.cells h.cells 35)) from (Below.refl _ _).alloc (Nat.le_refl _) _)
  obtain ⟨w1, hW1⟩ : ∃ w1, w.alloc (.cells h.cells 35) = w1 := ⟨_, rfl⟩
  rw [hW1] at hX HB
  obtain ⟨d5, d8, d9, d10, d11, d12, d13, d14⟩ := head_cells hX
  clear hX
  go_enter Try.func21, Try.ntmps21
  go_upto_region 1 with (fail)
  clear hW1
  go_wp2
  go_ret
  exact ⟨by rw [HD.out]; rfl, HB.out⟩

set_option maxHeartbeats 1000000 in
theorem isHead_8 (h : HeadP) (w : World) (c0 : 1 ≤ h.gen) (c1 : 0 ≤ h.page) (c2 : h.page ≤ 2147483647) (c3 : 0 ≤ h.stamp) (c4 : 0 ≤ h.depth) (c5 : h.depth ≤ h.plan.depth) (c6 : 1 ≤ h.log) (c7 : 0 ≤ h.region) (c8 : ¬ (0 ≤ h.time)) : Calls Try.prog 21 #[.agg h.cells] w (HeadTold h w) := by
  have HD : Hid (decide h.Ok = false) := by unfold Hid; rw [decide_eq_false_iff_not]; rintro ⟨_, _, _, _, _, _, _, _, n, _⟩; exact c8 n
  have e8 : decide (0 ≤ h.time) = false := by rw [decide_eq_false_iff_not]; exact c8
  clear c8
  have hX : (w.alloc (.cells h.cells 35)).heap[w.heap.size]? = some (.cells h.cells 35 (0, 0)) := heap_alloc_new _ _
  have HB := Lib.hid (show Below w.heap.size w (w.alloc (.cells h.cells 35)) from (Below.refl _ _).alloc (Nat.le_refl _) _)
  obtain ⟨w1, hW1⟩ : ∃ w1, w.alloc (.cells h.cells 35) = w1 := ⟨_, rfl⟩
  rw [hW1] at hX HB
  obtain ⟨d5, d8, d9, d10, d11, d12, d13, d14⟩ := head_cells hX
  clear hX
  go_enter Try.func21, Try.ntmps21
  go_upto_region 1 with (fail)
  clear hW1
  go_wp2
  go_ret
  exact ⟨by rw [HD.out]; rfl, HB.out⟩

set_option maxHeartbeats 1000000 in
theorem isHead_9 (h : HeadP) (w : World) (c0 : 1 ≤ h.gen) (c1 : 0 ≤ h.page) (c2 : h.page ≤ 2147483647) (c3 : 0 ≤ h.stamp) (c4 : 0 ≤ h.depth) (c5 : h.depth ≤ h.plan.depth) (c6 : 1 ≤ h.log) (c7 : 0 ≤ h.region) (c8 : 0 ≤ h.time) (c9 : ¬ (h.time ≤ 281474976710656)) : Calls Try.prog 21 #[.agg h.cells] w (HeadTold h w) := by
  have HD : Hid (decide h.Ok = false) := by unfold Hid; rw [decide_eq_false_iff_not]; rintro ⟨_, _, _, _, _, _, _, _, _, n⟩; exact c9 n
  have e9 : decide (h.time ≤ 281474976710656) = false := by rw [decide_eq_false_iff_not]; exact c9
  clear c9
  have hX : (w.alloc (.cells h.cells 35)).heap[w.heap.size]? = some (.cells h.cells 35 (0, 0)) := heap_alloc_new _ _
  have HB := Lib.hid (show Below w.heap.size w (w.alloc (.cells h.cells 35)) from (Below.refl _ _).alloc (Nat.le_refl _) _)
  obtain ⟨w1, hW1⟩ : ∃ w1, w.alloc (.cells h.cells 35) = w1 := ⟨_, rfl⟩
  rw [hW1] at hX HB
  obtain ⟨d5, d8, d9, d10, d11, d12, d13, d14⟩ := head_cells hX
  clear hX
  go_enter Try.func21, Try.ntmps21
  go_upto_region 1 with (fail)
  clear hW1
  go_wp2
  go_ret
  exact ⟨by rw [HD.out]; rfl, HB.out⟩

set_option maxHeartbeats 1000000 in
theorem isHead_10 (h : HeadP) (w : World) (c0 : 1 ≤ h.gen) (c1 : 0 ≤ h.page) (c2 : h.page ≤ 2147483647) (c3 : 0 ≤ h.stamp) (c4 : 0 ≤ h.depth) (c5 : h.depth ≤ h.plan.depth) (c6 : 1 ≤ h.log) (c7 : 0 ≤ h.region) (c8 : 0 ≤ h.time) (c9 : h.time ≤ 281474976710656) : Calls Try.prog 21 #[.agg h.cells] w (HeadTold h w) := by
  have HD : Hid (decide h.Ok = true) := by unfold Hid; rw [decide_eq_true_eq]; exact ⟨c0, c1, c2, c3, c4, c5, c6, c7, c8, c9⟩
  have hX : (w.alloc (.cells h.cells 35)).heap[w.heap.size]? = some (.cells h.cells 35 (0, 0)) := heap_alloc_new _ _
  have HB := Lib.hid (show Below w.heap.size w (w.alloc (.cells h.cells 35)) from (Below.refl _ _).alloc (Nat.le_refl _) _)
  obtain ⟨w1, hW1⟩ : ∃ w1, w.alloc (.cells h.cells 35) = w1 := ⟨_, rfl⟩
  rw [hW1] at hX HB
  obtain ⟨d5, d8, d9, d10, d11, d12, d13, d14⟩ := head_cells hX
  clear hX
  go_enter Try.func21, Try.ntmps21
  go_upto_region 1 with (fail)
  clear hW1
  go_wp2
  go_ret
  exact ⟨by rw [HD.out]; rfl, HB.out⟩

theorem isHead_any (h : HeadP) (w : World) : Calls Try.prog 21 #[.agg h.cells] w (HeadTold h w) := by
  by_cases c0 : 1 ≤ h.gen
  case neg => exact isHead_0 h w c0
  by_cases c1 : 0 ≤ h.page
  case neg => exact isHead_1 h w c0 c1
  by_cases c2 : h.page ≤ 2147483647
  case neg => exact isHead_2 h w c0 c1 c2
  by_cases c3 : 0 ≤ h.stamp
  case neg => exact isHead_3 h w c0 c1 c2 c3
  by_cases c4 : 0 ≤ h.depth
  case neg => exact isHead_4 h w c0 c1 c2 c3 c4
  by_cases c5 : h.depth ≤ h.plan.depth
  case neg => exact isHead_5 h w c0 c1 c2 c3 c4 c5
  by_cases c6 : 1 ≤ h.log
  case neg => exact isHead_6 h w c0 c1 c2 c3 c4 c5 c6
  by_cases c7 : 0 ≤ h.region
  case neg => exact isHead_7 h w c0 c1 c2 c3 c4 c5 c6 c7
  by_cases c8 : 0 ≤ h.time
  case neg => exact isHead_8 h w c0 c1 c2 c3 c4 c5 c6 c7 c8
  by_cases c9 : h.time ≤ 281474976710656
  case neg => exact isHead_9 h w c0 c1 c2 c3 c4 c5 c6 c7 c8 c9
  exact isHead_10 h w c0 c1 c2 c3 c4 c5 c6 c7 c8 c9

theorem turn_any (g : Int) (hg : 0 ≤ g) (w : World) : Calls Try.prog 38 #[.int .i64 g] w fun e w' => e = .returned (.int .i64 (g % 2)) ∧ w = w' := by
  go_enter Try.func38, Try.ntmps38
  go_wp2
  go_ret
  exact ⟨rfl, rfl⟩

end Go.Proofs.Ytfdipeaddofjaaa
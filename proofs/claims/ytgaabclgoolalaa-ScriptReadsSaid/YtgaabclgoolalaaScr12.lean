/-
  sgraffitoref20's Has, Right, Text.
  Conditions: none.
-/
import Derived.Test.YtgaabclgoolalaaScr10
import Derived.Test.YtgaabclgoolalaaRef03
namespace Go.Proofs.Ytgaabclgoolalaa
open Go.RowKit
attribute [local go_sem] Oper.semAt_some

theorem has_sz (a b c : Bool) : (Try.prog.info? 55).map (·.size) = some (#[Value.bool a, .bool b, .bool c] : Array Value).size := by show _ = some 3; kernel_rfl
set_option maxRecDepth 100000 in
set_option maxHeartbeats 4000000 in
theorem has_any (k : Int) (w : World) : Calls Try.prog 19 #[.int .i64 k] w fun e w' => e = .returned (.agg #[.bool (wk (kn k)), .bool (wv (kn k)), .bool (wu (kn k))]) ∧ Below w.heap.size w w' := by
  have hz : (w.alloc (.cells #[.bool false, .bool false, .bool false] 55)).heap[w.heap.size]? = some (.cells #[.bool false, .bool false, .bool false] 55 (0, 0)) := heap_alloc_new _ _
  have HZ := Lib.hid hz
  have HB := Lib.hid ((Below.refl _ w).alloc (Nat.le_refl _) (.cells #[.bool false, .bool false, .bool false] 55))
  clear hz
  rcases kn_is k with ⟨h, e⟩ | ⟨h, e⟩
  · rw [e]
    have h2 : kn ((kn k : Nat) : Int) = kn k := by rw [← e]
    rw [h2]
    generalize kn k = n at h
    clear h2 e
    have h9 : n = 0 ∨ n = 1 ∨ n = 2 ∨ n = 3 ∨ n = 4 ∨ n = 5 ∨ n = 6 ∨ n = 7 ∨ n = 8 ∨ n = 9 := by omega
    rcases h9 with rfl | rfl | rfl | rfl | rfl | rfl | rfl | rfl | rfl | rfl
    · go_enter Try.func19, Try.ntmps19
      go_wp2_with (refine wpList_store_row (o := ⟨none, _, _, _, _, _⟩) rfl 55 (.tmp 2) (.tmp 21) rfl w.heap.size #[.bool true, .bool false, .bool false] rfl rfl 55 #[.bool false, .bool false, .bool false] HZ.out (has_sz _ _ _) rfl ?_ ?_; simp [Value.oneCell'])
      have hend := setRow_heap _ w.heap.size _ #[.bool true, .bool false, .bool false] _ _ HZ.out
      exact bodyPost_ret (results_cell_row rfl _ _ w.heap.size 55 #[.bool true, .bool false, .bool false] (0, 0) _ rfl hend Try.underlying55 rfl (has_sz _ _ _)) rfl ⟨rfl, below_setRow HB.out (Nat.le_refl _) _⟩
    · go_enter Try.func19, Try.ntmps19
      go_wp2_with (refine wpList_store_row (o := ⟨none, _, _, _, _, _⟩) rfl 55 (.tmp 2) (.tmp 21) rfl w.heap.size #[.bool true, .bool true, .bool true] rfl rfl 55 #[.bool false, .bool false, .bool false] HZ.out (has_sz _ _ _) rfl ?_ ?_; simp [Value.oneCell'])
      have hend := setRow_heap _ w.heap.size _ #[.bool true, .bool true, .bool true] _ _ HZ.out
      exact bodyPost_ret (results_cell_row rfl _ _ w.heap.size 55 #[.bool true, .bool true, .bool true] (0, 0) _ rfl hend Try.underlying55 rfl (has_sz _ _ _)) rfl ⟨rfl, below_setRow HB.out (Nat.le_refl _) _⟩
    · go_enter Try.func19, Try.ntmps19
      go_wp2_with (refine wpList_store_row (o := ⟨none, _, _, _, _, _⟩) rfl 55 (.tmp 2) (.tmp 21) rfl w.heap.size #[.bool true, .bool false, .bool false] rfl rfl 55 #[.bool false, .bool false, .bool false] HZ.out (has_sz _ _ _) rfl ?_ ?_; simp [Value.oneCell'])
      have hend := setRow_heap _ w.heap.size _ #[.bool true, .bool false, .bool false] _ _ HZ.out
      exact bodyPost_ret (results_cell_row rfl _ _ w.heap.size 55 #[.bool true, .bool false, .bool false] (0, 0) _ rfl hend Try.underlying55 rfl (has_sz _ _ _)) rfl ⟨rfl, below_setRow HB.out (Nat.le_refl _) _⟩
    · go_enter Try.func19, Try.ntmps19
      go_wp2_with (refine wpList_store_row (o := ⟨none, _, _, _, _, _⟩) rfl 55 (.tmp 2) (.tmp 21) rfl w.heap.size #[.bool false, .bool false, .bool false] rfl rfl 55 #[.bool false, .bool false, .bool false] HZ.out (has_sz _ _ _) rfl ?_ ?_; simp [Value.oneCell'])
      have hend := setRow_heap _ w.heap.size _ #[.bool false, .bool false, .bool false] _ _ HZ.out
      exact bodyPost_ret (results_cell_row rfl _ _ w.heap.size 55 #[.bool false, .bool false, .bool false] (0, 0) _ rfl hend Try.underlying55 rfl (has_sz _ _ _)) rfl ⟨rfl, below_setRow HB.out (Nat.le_refl _) _⟩
    · go_enter Try.func19, Try.ntmps19
      go_wp2_with (refine wpList_store_row (o := ⟨none, _, _, _, _, _⟩) rfl 55 (.tmp 2) (.tmp 21) rfl w.heap.size #[.bool false, .bool false, .bool false] rfl rfl 55 #[.bool false, .bool false, .bool false] HZ.out (has_sz _ _ _) rfl ?_ ?_; simp [Value.oneCell'])
      have hend := setRow_heap _ w.heap.size _ #[.bool false, .bool false, .bool false] _ _ HZ.out
      exact bodyPost_ret (results_cell_row rfl _ _ w.heap.size 55 #[.bool false, .bool false, .bool false] (0, 0) _ rfl hend Try.underlying55 rfl (has_sz _ _ _)) rfl ⟨rfl, below_setRow HB.out (Nat.le_refl _) _⟩
    · go_enter Try.func19, Try.ntmps19
      go_wp2_with (refine wpList_store_row (o := ⟨none, _, _, _, _, _⟩) rfl 55 (.tmp 2) (.tmp 21) rfl w.heap.size #[.bool false, .bool false, .bool true] rfl rfl 55 #[.bool false, .bool false, .bool false] HZ.out (has_sz _ _ _) rfl ?_ ?_; simp [Value.oneCell'])
      have hend := setRow_heap _ w.heap.size _ #[.bool false, .bool false, .bool true] _ _ HZ.out
      exact bodyPost_ret (results_cell_row rfl _ _ w.heap.size 55 #[.bool false, .bool false, .bool true] (0, 0) _ rfl hend Try.underlying55 rfl (has_sz _ _ _)) rfl ⟨rfl, below_setRow HB.out (Nat.le_refl _) _⟩
    · go_enter Try.func19, Try.ntmps19
      go_wp2_with (refine wpList_store_row (o := ⟨none, _, _, _, _, _⟩) rfl 55 (.tmp 2) (.tmp 21) rfl w.heap.size #[.bool false, .bool false, .bool true] rfl rfl 55 #[.bool false, .bool false, .bool false] HZ.out (has_sz _ _ _) rfl ?_ ?_; simp [Value.oneCell'])
      have hend := setRow_heap _ w.heap.size _ #[.bool false, .bool false, .bool true] _ _ HZ.out
      exact bodyPost_ret (results_cell_row rfl _ _ w.heap.size 55 #[.bool false, .bool false, .bool true] (0, 0) _ rfl hend Try.underlying55 rfl (has_sz _ _ _)) rfl ⟨rfl, below_setRow HB.out (Nat.le_refl _) _⟩
    · go_enter Try.func19, Try.ntmps19
      go_wp2_with (refine wpList_store_row (o := ⟨none, _, _, _, _, _⟩) rfl 55 (.tmp 2) (.tmp 21) rfl w.heap.size #[.bool false, .bool false, .bool false] rfl rfl 55 #[.bool false, .bool false, .bool false] HZ.out (has_sz _ _ _) rfl ?_ ?_; simp [Value.oneCell'])
      have hend := setRow_heap _ w.heap.size _ #[.bool false, .bool false, .bool false] _ _ HZ.out
      exact bodyPost_ret (results_cell_row rfl _ _ w.heap.size 55 #[.bool false, .bool false, .bool false] (0, 0) _ rfl hend Try.underlying55 rfl (has_sz _ _ _)) rfl ⟨rfl, below_setRow HB.out (Nat.le_refl _) _⟩
    · go_enter Try.func19, Try.ntmps19
      go_wp2_with (refine wpList_store_row (o := ⟨none, _, _, _, _, _⟩) rfl 55 (.tmp 2) (.tmp 21) rfl w.heap.size #[.bool false, .bool false, .bool false] rfl rfl 55 #[.bool false, .bool false, .bool false] HZ.out (has_sz _ _ _) rfl ?_ ?_; simp [Value.oneCell'])
      have hend := setRow_heap _ w.heap.size _ #[.bool false, .bool false, .bool false] _ _ HZ.out
      exact bodyPost_ret (results_cell_row rfl _ _ w.heap.size 55 #[.bool false, .bool false, .bool false] (0, 0) _ rfl hend Try.underlying55 rfl (has_sz _ _ _)) rfl ⟨rfl, below_setRow HB.out (Nat.le_refl _) _⟩
    · go_enter Try.func19, Try.ntmps19
      go_wp2_with (refine wpList_store_row (o := ⟨none, _, _, _, _, _⟩) rfl 55 (.tmp 2) (.tmp 21) rfl w.heap.size #[.bool false, .bool false, .bool false] rfl rfl 55 #[.bool false, .bool false, .bool false] HZ.out (has_sz _ _ _) rfl ?_ ?_; simp [Value.oneCell'])
      have hend := setRow_heap _ w.heap.size _ #[.bool false, .bool false, .bool false] _ _ HZ.out
      exact bodyPost_ret (results_cell_row rfl _ _ w.heap.size 55 #[.bool false, .bool false, .bool false] (0, 0) _ rfl hend Try.underlying55 rfl (has_sz _ _ _)) rfl ⟨rfl, below_setRow HB.out (Nat.le_refl _) _⟩
  · rw [h]
    have q1 : (k == 1) = false := by simp; omega
    have q5 : (k == 5) = false := by simp; omega
    have q6 : (k == 6) = false := by simp; omega
    rcases e with e | e
    · have e2 : ¬ 0 ≤ k := by omega
      go_enter Try.func19, Try.ntmps19
      go_wp2_with (refine wpList_store_row (o := ⟨none, _, _, _, _, _⟩) rfl 55 (.tmp 2) (.tmp 21) rfl w.heap.size #[.bool false, .bool false, .bool false] rfl rfl 55 #[.bool false, .bool false, .bool false] HZ.out (has_sz _ _ _) rfl ?_ ?_; simp [Value.oneCell'])
      have hend := setRow_heap _ w.heap.size _ #[.bool false, .bool false, .bool false] _ _ HZ.out
      exact bodyPost_ret (results_cell_row rfl _ _ w.heap.size 55 #[.bool false, .bool false, .bool false] (0, 0) _ rfl hend Try.underlying55 rfl (has_sz _ _ _)) rfl ⟨rfl, below_setRow HB.out (Nat.le_refl _) _⟩
    · have e2 : 0 ≤ k := by omega
      have e3 : ¬ k ≤ 2 := by omega
      go_enter Try.func19, Try.ntmps19
      go_wp2_with (refine wpList_store_row (o := ⟨none, _, _, _, _, _⟩) rfl 55 (.tmp 2) (.tmp 21) rfl w.heap.size #[.bool false, .bool false, .bool false] rfl rfl 55 #[.bool false, .bool false, .bool false] HZ.out (has_sz _ _ _) rfl ?_ ?_; simp [Value.oneCell'])
      have hend := setRow_heap _ w.heap.size _ #[.bool false, .bool false, .bool false] _ _ HZ.out
      exact bodyPost_ret (results_cell_row rfl _ _ w.heap.size 55 #[.bool false, .bool false, .bool false] (0, 0) _ rfl hend Try.underlying55 rfl (has_sz _ _ _)) rfl ⟨rfl, below_setRow HB.out (Nat.le_refl _) _⟩
end Go.Proofs.Ytgaabclgoolalaa

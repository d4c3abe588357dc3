/-
  What the chapter's examples say of package mix holds of the program: awake answers true, and nothing that was there is written.
  Conditions: none.
-/
import Derived.Test.YtapfagbegndgjaaSlots
namespace Go.Proofs.Ytapfagbegndgjaa
open Go.RowKit

theorem scr0 (w : World) : Calls Try.prog 7 #[.int .u64 0] w fun e w' => e = .returned (.int .u64 0) ∧ w = w' := scramble_any 0#64 w
theorem scr5 (w : World) : Calls Try.prog 7 #[.int .u64 5] w fun e w' => e = .returned (.int .u64 (U (scr 5#64))) ∧ w = w' := scramble_any 5#64 w
theorem unscr5 (w : World) : Calls Try.prog 10 #[.int .u64 (U (scr 5#64))] w fun e w' => e = .returned (.int .u64 5) ∧ w = w' := by
  have h := unscramble_any (scr 5#64) w
  have e : U (unscr (scr 5#64)) = 5 := by decide +kernel
  rw [e] at h
  exact h
theorem pre2 (w : World) : Calls Try.prog 9 #[.int .u64 9223372036854775808, .int .i64 2] w fun e w' => e = .returned (.int .i64 2) ∧ w = w' := prefix_in 9223372036854775808#64 2 (by decide) (by decide) w
theorem slots113 (w : World) : Calls Try.prog 8 #[.int .i64 1, .int .i64 1, .int .i64 3] w fun e W' => ∃ g, e = .returned (.slice (some ⟨g, 0, none⟩) 4 4) ∧ W'.cell? ⟨g, 0, none⟩ = some (.int .i64 4) ∧ W'.cell? ⟨g, 3, none⟩ = some (.int .i64 7) ∧ Below w.heap.size w W' := by
  refine (lslots_any 1 1 3 2 (by decide) (by decide) (by decide) w).mono ?_
  rintro e w' ⟨g, rfl, hr, hB⟩
  exact ⟨g, rfl, hr.cellAt 0 (by decide), hr.cellAt 3 (by decide), hB⟩

set_option maxRecDepth 100000 in
set_option maxHeartbeats 1000000 in
theorem awake02 (w : World) : Calls Try.prog 5 #[] w fun e w' => e = .returned (.bool true) ∧ Below w.heap.size w w' := by
  go_enter Try.func5, Try.ntmps5
  go_wp2_with (first
    | (go_at_call 8; refine (slots113 _).mono ?_; rintro e w' ⟨g, rfl, hc0, hc3, hB⟩)
    | (go_at_call 7; first | ((with_reducible refine (scr0 _).mono ?_); rintro e w' ⟨rfl, rfl⟩) | ((with_reducible refine (scr5 _).mono ?_); rintro e w' ⟨rfl, rfl⟩))
    | (go_at_call 9; refine (pre2 _).mono ?_; rintro e w' ⟨rfl, rfl⟩)
    | (go_at_call 10; refine (unscr5 _).mono ?_; rintro e w' ⟨rfl, rfl⟩))
  go_ret
  exact ⟨rfl, hB⟩

end Go.Proofs.Ytapfagbegndgjaa

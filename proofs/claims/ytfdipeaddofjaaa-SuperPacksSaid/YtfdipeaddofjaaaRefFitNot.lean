/-
  sgraffitoref06.Fit: a plan with a number that may not be.
  Conditions: none.
-/
import Derived.Test.YtfdipeaddofjaaaRefFitBase
namespace Go.Proofs.Ytfdipeaddofjaaa
open Go.RowKit

set_option maxRecDepth 100000 in
set_option maxHeartbeats 4000000 in
theorem refFit_not (p : PlanP) (h : ¬ p.Alone) (w : World) : Calls Try.prog 28 #[.agg p.cells] w fun e w' => e = .returned (.tuple #[.agg LayP.zero.cells, .int .i64 12]) ∧ Below w.heap.size w w' := by
  have hn := not_alone h
  clear h
  unfold PlanP.cells
  obtain ⟨sectors, size, regions, rs, log, depth, memory, seed⟩ := p
  dsimp only at hn ⊢
  go_enter Try.func28, Try.ntmps28
  rcases hn with h | ⟨h, h'⟩ | ⟨⟨a1, a2⟩, h | ⟨h, h'⟩ | ⟨⟨b1, b2⟩, h | ⟨h, h'⟩ | ⟨⟨c1, c2⟩, h | ⟨h, h'⟩ | ⟨⟨d1, d2⟩, h | ⟨h, h'⟩ | ⟨⟨e1, e2⟩, h | ⟨h, h'⟩ | ⟨⟨f1, f2⟩, h | ⟨h, h'⟩⟩⟩⟩⟩⟩⟩
  all_goals go_upto_region 3 with (fail)
  all_goals exact bodyPost_ret (v := .tuple #[.agg LayP.zero.cells, .int .i64 12]) (refFit_res _ (w.heap.size + 1) LayP.zero 12 _ (two_new _ _ _) rfl rfl) rfl ⟨rfl, ((Below.refl _ w).alloc (Nat.le_refl _) _).alloc (by simp) _⟩
end Go.Proofs.Ytfdipeaddofjaaa

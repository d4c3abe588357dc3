/-
  sgraffitolaw14's entry.
  Conditions: none.
-/
import Derived.Test.YtpihncafmjbccaaBkt4
import Derived.Deep.RegionHeld3
import Derived.Deep.RegionHeldLaw
import Derived.Deep.RegionLaw
import Derived.Deep.AppendLies
namespace Go.Proofs.Ytpihncafmjbccaa
open Go.RowKit

theorem ent_sz (x : Ent) : (Try.prog.info? 40).map (·.size) = some x.cells.size := by show _ = some 4; kernel_rfl
theorem ent_oneB (x : Ent) : x.cells.all (·.oneCell') = true := by simp [Ent.cells, Value.oneCell']
set_option maxRecDepth 100000 in
set_option maxHeartbeats 1000000 in
theorem entry_any (x : Ent) (w : World) : Calls Try.prog 9 #[.agg x.cells] w fun e w' => e = .returned (.agg x.cells) ∧ Below w.heap.size w w' := by
  have hb : Below w.heap.size w ((w.alloc (.cells #[.int .u64 (U x.hash), .int .i64 x.reg, .int .i64 x.at_, .int .i64 x.size] 27)).alloc (.cells #[.int .u64 0, .int .i64 0, .int .i64 0, .int .i64 0] 40)) := ((Below.refl _ w).alloc (Nat.le_refl _) _).alloc (by simp) _
  have HB := Lib.hid hb
  have hz := heap_alloc_new (w.alloc (.cells #[.int .u64 (U x.hash), .int .i64 x.reg, .int .i64 x.at_, .int .i64 x.size] 27)) (.cells #[.int .u64 0, .int .i64 0, .int .i64 0, .int .i64 0] 40)
  rw [World.size_alloc] at hz
  have HZ := Lib.hid hz
  have HC : Hid (x.cells = #[.int .u64 (U x.hash), .int .i64 x.reg, .int .i64 x.at_, .int .i64 x.size]) := rfl
  clear hb hz
  rw [HC.out]
  go_enter Try.func9, Try.ntmps9
  go_wp2_with (first
    | (refine wpList_store_row (o := ⟨none, _, _, _, _, _⟩) rfl 40 (.tmp 2) (.tmp 12) rfl (w.heap.size + 1) x.cells rfl rfl 40 (Ent.cells ⟨0#64, 0, 0, 0⟩) HZ.out (ent_sz x) rfl ?_ ?_; exact ent_oneB x))
  have hend := setRow_heap _ (w.heap.size + 1) _ x.cells _ _ HZ.out
  refine bodyPost_ret (results_cell_row rfl _ _ (w.heap.size + 1) 40 x.cells (0, 0) _ rfl hend Try.underlying40 rfl (ent_sz x)) rfl ⟨rfl, below_setRow HB.out (by omega) _⟩

end Go.Proofs.Ytpihncafmjbccaa

/-
  make([][]byte, 0, n): a row of no slices, with room.
  Conditions: none.
-/
import Derived.Test.YtadglpnmhpmebaaPastRows
import Derived.Test.YtadglpnmhpmebaaFlash11
namespace Go.Proofs.Ytadglpnmhpmebaa
open Go.RowKit

theorem makeRows0 (c : Nat) (hc : c ≤ 70000) (W : World) : (Instr.makeSlice 56 (.int .i64 0) (.int .i64 c)).run Try.prog W = .ok (.slice (some ⟨W.heap.size, 0, none⟩) 0 c) (W.alloc (.cells (madeCells #[.slice none 0 0] c) 42)) := by
  obtain ⟨i0, hi, hz0, hz1, hz2⟩ := info_parts Try.infoRow
  have h := run_make (P := Try.prog) W 56 42 i0 (.slice none 0 0) Try.underlying56 hi hz0 .i64 .i64 0 c (by omega) (by omega) (by rw [hz2]; omega) (by omega)
  rw [hz1] at h
  simpa [Value.cells] using h
theorem own_rows0 (W : World) (n c : Nat) (hn : n ≤ W.heap.size) (hc : c ≤ 70000) : PRows n (W.alloc (.cells (madeCells #[.slice none 0 0] c) 42)) (.slice (some ⟨W.heap.size, 0, none⟩) 0 c) [] := by
  refine ⟨[], ⟨rfl, .inr ⟨W.heap.size, c, _, rfl, hn, heap_alloc_new _ _, Nat.zero_le _, by unfold maxLen; omega, ?_, rfl⟩⟩, fun i x hx => by simp at hx⟩
  simp [madeCells]
end Go.Proofs.Ytadglpnmhpmebaa

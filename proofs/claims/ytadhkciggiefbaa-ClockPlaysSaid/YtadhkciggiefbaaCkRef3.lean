/-
  The document's own clock: New, Drop.
  Conditions: none.
-/
import Derived.Test.YtadhkciggiefbaaCkRef2
namespace Go.Proofs.Ytadhkciggiefbaa
open Go.RowKit

theorem makePlacesR (n : Nat) (hn : n ≤ 4096) (W : World) : (Instr.makeSlice 27 (.int .i64 n) (.int .i64 n)).run Try.prog W = .ok (.slice (some ⟨W.heap.size, 0, none⟩) n n) (W.alloc (.cells (plCells (List.replicate n (Pl.zero (.int .i64 0)))).toArray 39)) := by
  obtain ⟨i0, hi, hz0, hz1, hz2⟩ := info_partsP infoRPl
  have h := run_make (P := Try.prog) W 27 39 i0 (.agg #[.bool false, .bool false, .int .i64 0, .int .i64 0]) Try.underlying27 hi hz0 .i64 .i64 n n (by omega) (by omega) (by rw [hz2]; omega) (by omega)
  rw [hz1, ] at h
  rw [← made_places]
  simpa [Value.cells] using h
theorem PlsAt.of_row {w : World} {g : Nat} {ps : List Pl} (h : w.heap[g]? = some (.cells (plCells ps).toArray 39 (0, 0))) : PlsAt w.heap.size w (.slice (some ⟨g, 0, none⟩) ps.length ps.length) ps :=
  ⟨_, _, rfl, Nat.le_refl _, fun e => (by cases e), .inr ⟨g, 0, rfl, ⟨blk_lt h, _, _, h⟩, fun j u hj => by rw [Nat.zero_add, blk_cell h, List.getElem?_toArray]; exact hj⟩⟩
set_option maxHeartbeats 2000000 in
theorem refNew_any (n : Nat) (hn : n ≤ 4096) (w : World) : Calls Try.prog 7 #[.int .i64 n] w (WithDid (List.replicate n (Pl.zero zeroI)) 0 w) := by
  have n2 : (n : Int) ≤ 4096 := by omega
  have HN := Lib.hid hn
  clear hn
  go_enter Try.func7, Try.ntmps7
  go_upto_region 1 with fail
  obtain ⟨w1, hw1⟩ : ∃ w1, w.alloc (.cells #[.slice none 0 0, .int .i64 0] 29) = w1 := ⟨_, rfl⟩
  have b0 : w1.heap[w.heap.size]? = some (.cells #[.slice none 0 0, .int .i64 0] 29 (0, 0)) := by rw [← hw1]; exact heap_alloc_new _ _
  have hz : w1.heap.size = w.heap.size + 1 := by rw [← hw1]; simp
  have HB : Hid (Below w.heap.size w w1) := by rw [← hw1]; exact (Below.refl _ _).alloc (Nat.le_refl _) _
  rw [show w.alloc (.cells #[.slice none 0 0, .int .i64 0] 29) = w1 from hw1]
  clear hw1
  have hmk := makePlacesR n HN.out w1
  obtain ⟨w2, hw2⟩ : ∃ w2, w1.alloc (.cells (plCells (List.replicate n (Pl.zero (.int .i64 0)))).toArray 39) = w2 := ⟨_, rfl⟩
  rw [hw2] at hmk
  have b1 := blk_alloc b0 (.cells (plCells (List.replicate n (Pl.zero (.int .i64 0)))).toArray 39)
  have r1 := heap_alloc_new w1 (.cells (plCells (List.replicate n (Pl.zero (.int .i64 0)))).toArray 39)
  have HB2 : Hid (Below w.heap.size w w2) := by rw [← hw2]; exact HB.out.alloc (by omega) _
  rw [hw2] at b1 r1
  clear hw2
  have y0 : w2.cell? ⟨w.heap.size, 0, none⟩ = some (.slice none 0 0) := blk_cell b1 0
  have y1 : w2.cell? ⟨w.heap.size, 1, none⟩ = some (.int .i64 0) := blk_cell b1 1
  have h0 := blk_frozen b1 0
  have h1 := blk_frozen b1 1
  have t0 := blk_set (blk_set b1 0 (.slice (some ⟨w1.heap.size, 0, none⟩) n n)) 1 (.int .i64 0)
  simp only [List.setIfInBounds_toArray, List.set_cons_zero, List.set_cons_succ] at t0
  have r2 := (Below.heap_setCell (w2.setCell ⟨w.heap.size, 0, none⟩ (.slice (some ⟨w1.heap.size, 0, none⟩) n n)) ⟨w.heap.size, 1, none⟩ (.int .i64 0) w1.heap.size (by simp; omega)).trans ((Below.heap_setCell w2 ⟨w.heap.size, 0, none⟩ (.slice (some ⟨w1.heap.size, 0, none⟩) n n) w1.heap.size (by simp; omega)).trans r1)
  have r3 := PlsAt.of_row r2
  rw [List.length_replicate] at r3
  have tb := (HB2.out.setCell (p := ⟨w.heap.size, 0, none⟩) (Nat.le_refl _) (.slice (some ⟨w1.heap.size, 0, none⟩) n n)).setCell (p := ⟨w.heap.size, 1, none⟩) (Nat.le_refl _) (.int .i64 0)
  have HT0 := Lib.hid t0
  have HR := Lib.hid r3
  have HTB := Lib.hid tb
  clear hz b0 b1 r1 r2 r3 t0 tb
  go_wp2
  refine bodyPost_ret (results_cell_row rfl _ _ w.heap.size 29 #[.slice (some ⟨w1.heap.size, 0, none⟩) n n, .int .i64 0] (0, 0) _ rfl HT0.out Try.underlying29 rfl (by kernel_rfl)) rfl ?_
  exact ⟨_, rfl, HR.out, HTB.out, fun g' off' n' c' e => by cases e; exact HB.out.size⟩
end Go.Proofs.Ytadhkciggiefbaa

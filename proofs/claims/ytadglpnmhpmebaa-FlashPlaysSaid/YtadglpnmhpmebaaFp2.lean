/-
  sgraffitoref04's act.
  Conditions: none.
-/
import Derived.Test.YtadglpnmhpmebaaFp1
namespace Go.Proofs.Ytadglpnmhpmebaa
open Go.RowKit
attribute [-go_sem] Instr.build Instr.fill

theorem set_other (W : World) (X i Z : Nat) (u : Value) (h : Z ≠ X) : (W.setCell ⟨X, i, none⟩ u).heap[Z]? = W.heap[Z]? := Below.heap_setCell W ⟨X, i, none⟩ u Z h
set_option maxRecDepth 100000 in
set_option maxHeartbeats 4000000 in
theorem refAct_any (size : Nat) (a1 a2 a3 : Option Addr) (n1 n2 n3 c1 c2 c3 : Nat) (d : Dev) (hd : d.down = false) (ha : d.acts ≤ 1000000) (hr : d.armed ≤ 9223372036854775807) (w : World) :
    Calls Try.prog 36 #[.agg (rdC size (.slice a1 n1 c1) (.slice a2 n2 c2) (.slice a3 n3 c3) d.armed d.acts d.down)] w fun e w' => e = .returned (.agg (rdC size (.slice a1 n1 c1) (.slice a2 n2 c2) (.slice a3 n3 c3) d.act.armed d.act.acts d.act.down)) ∧ Below w.heap.size w w' := by
  obtain ⟨W0, hW0⟩ : ∃ W0, (w.alloc (.cells (rdC size (.slice a1 n1 c1) (.slice a2 n2 c2) (.slice a3 n3 c3) d.armed d.acts d.down) 33)).alloc (.cells rd0 33) = W0 := ⟨_, rfl⟩
  have hX : W0.heap[w.heap.size]? = some (.cells (rdC size (.slice a1 n1 c1) (.slice a2 n2 c2) (.slice a3 n3 c3) d.armed d.acts d.down) 33 (0, 0)) := by
    rw [← hW0]; exact heap_alloc2_old w _ _
  have hZ : W0.heap[w.heap.size + 1]? = some (.cells rd0 33 (0, 0)) := by
    rw [← hW0]; exact heap_alloc2_new w _ _
  have hB : Below w.heap.size w W0 := by
    rw [← hW0]; exact ((Below.refl _ w).alloc (Nat.le_refl _) _).alloc (by simp) _
  have HW0 := Lib.hid hW0
  have HX := Lib.hid hX
  have HZ := Lib.hid hZ
  have HB := Lib.hid hB
  clear hW0 hX hZ hB
  have x0 := blk_cell HX.out 0
  have x1 := blk_cell HX.out 1
  have x2 := blk_cell HX.out 2
  have x3 := blk_cell HX.out 3
  have x4 := blk_cell HX.out 4
  have x5 := blk_cell HX.out 5
  have x6 := blk_cell HX.out 6
  have f4 := blk_frozen HX.out 4
  have f5 := blk_frozen HX.out 5
  have f6 := blk_frozen HX.out 6
  obtain ⟨ar, har⟩ : ∃ ar, d.armed = ar := ⟨_, rfl⟩
  obtain ⟨ac, hac⟩ : ∃ ac, d.acts = ac := ⟨_, rfl⟩
  have hac2 : (ac : Int) ≤ 1000000 := by omega
  have har2 : ar ≤ 9223372036854775807 := by omega
  have HR : Hid (d.act.armed = ar - 1 ∧ d.act.acts = ac + 1 ∧ d.act.down = if ar = 1 then true else false) := by
    unfold Hid Dev.act
    rw [har, hac, hd]
    exact ⟨rfl, rfl, rfl⟩
  unfold rdC at x0 x1 x2 x3 x4 x5 x6
  rw [har] at x4
  rw [hac] at x5
  rw [hd] at x6
  have HXX := Lib.hid (show (rdC size (.slice a1 n1 c1) (.slice a2 n2 c2) (.slice a3 n3 c3) d.armed d.acts d.down) = #[.int .i64 size, .slice a1 n1 c1, .slice a2 n2 c2, .slice a3 n3 c3, .int .i64 ar, .int .i64 ac, .bool false] from by unfold rdC; rw [har, hac, hd])
  rw [HXX.out] at HW0 ⊢
  clear HX har hac hd ha hr
  have hq5 : IntKind.i64.wrap ((ac : Int) + 1) = (ac : Int) + 1 := by simp [IntKind.wrap, IntKind.bits, IntKind.signed]; omega
  by_cases h0 : ar = 0
  · subst h0
    have HF : Hid (d.act.armed = 0 ∧ d.act.acts = ac + 1 ∧ d.act.down = false) := by
      obtain ⟨r1, r2, r3⟩ := HR.out
      exact ⟨r1, r2, by rw [r3]; rfl⟩
    rw [HF.out.1, HF.out.2.1, HF.out.2.2]
    clear HF HR HXX
    go_enter Try.func36, Try.ntmps36
    go_upto_region 1 with (fail)
    change Code.wp _ _ _ _ ((w.alloc (.cells #[.int .i64 size, .slice a1 n1 c1, .slice a2 n2 c2, .slice a3 n3 c3, .int .i64 (0 : Nat), .int .i64 ac, .bool false] 33)).alloc (.cells rd0 33))
    rw [HW0.out]
    have hZ2 : (W0.setCell ⟨w.heap.size, 5, none⟩ (.int .i64 ((ac : Int) + 1))).heap[w.heap.size + 1]? = some (.cells rd0 33 (0, 0)) := (set_other _ _ _ _ _ (by omega)).trans HZ.out
    have HZ2 := Lib.hid hZ2
    have hend := setRow_heap _ (w.heap.size + 1) _ (rdC size (.slice a1 n1 c1) (.slice a2 n2 c2) (.slice a3 n3 c3) 0 ((ac : Int) + 1) false) _ _ hZ2
    have HE := Lib.hid hend
    have HBE : Hid (Below w.heap.size w ((W0.setCell ⟨w.heap.size, 5, none⟩ (.int .i64 ((ac : Int) + 1))).setRow (w.heap.size + 1) (rdC size (.slice a1 n1 c1) (.slice a2 n2 c2) (.slice a3 n3 c3) 0 ((ac : Int) + 1) false))) := below_setRow (HB.out.setCell (p := ⟨w.heap.size, 5, none⟩) (Nat.le_refl _) _) (by omega) _
    clear hZ2 hend HW0
    go_wp2_with (refine wpList_store_row (o := ⟨none, _, _, _, _, _⟩) rfl 33 (.tmp 2) (.tmp 18) rfl (w.heap.size + 1) (rdC size (.slice a1 n1 c1) (.slice a2 n2 c2) (.slice a3 n3 c3) 0 ((ac : Int) + 1) false) rfl rfl 33 rd0 HZ2.out (rd_sz _ _ _ _ _ _ _) rfl ?_ ?_; exact rd_one)
    exact bodyPost_ret (results_cell_row rfl _ _ (w.heap.size + 1) 33 (rdC size (.slice a1 n1 c1) (.slice a2 n2 c2) (.slice a3 n3 c3) 0 ((ac : Int) + 1) false) (0, 0) _ rfl HE.out Try.underlying33 rfl (rd_sz _ _ _ _ _ _ _)) rfl ⟨rfl, HBE.out⟩
  · obtain ⟨q, rfl⟩ : ∃ q, ar = q + 1 := ⟨ar - 1, by omega⟩
    obtain ⟨A, hA⟩ : ∃ A : Int, ((q + 1 : Nat) : Int) = A := ⟨_, rfl⟩
    have hA0 : 0 < A := by omega
    have hqA : IntKind.i64.wrap (A - 1) = (q : Int) := by
      have : A - 1 = (q : Int) := by omega
      rw [this]
      simp [IntKind.wrap, IntKind.bits, IntKind.signed]
      omega
    obtain ⟨dn, hdn⟩ : ∃ dn, ((q : Int) == 0) = dn := ⟨_, rfl⟩
    have HF : Hid (d.act.armed = q ∧ d.act.acts = ac + 1 ∧ d.act.down = dn) := by
      obtain ⟨r1, r2, r3⟩ := HR.out
      refine ⟨r1, r2, ?_⟩
      rw [r3, ← hdn]
      by_cases hq : q = 0
      · subst hq; rfl
      · rw [if_neg (by omega)]
        exact (beq_eq_false_iff_ne.2 (by omega)).symm
    rw [HF.out.1, HF.out.2.1, HF.out.2.2]
    rw [hA] at x4 HW0 ⊢
    clear hA h0 HF HR HXX
    go_enter Try.func36, Try.ntmps36
    go_upto_region 1 with (fail)
    change Code.wp _ _ _ _ ((w.alloc (.cells #[.int .i64 size, .slice a1 n1 c1, .slice a2 n2 c2, .slice a3 n3 c3, .int .i64 A, .int .i64 ac, .bool false] 33)).alloc (.cells rd0 33))
    rw [HW0.out]
    have hZ2 : (((W0.setCell ⟨w.heap.size, 5, none⟩ (.int .i64 ((ac : Int) + 1))).setCell ⟨w.heap.size, 4, none⟩ (.int .i64 q)).setCell ⟨w.heap.size, 6, none⟩ (.bool dn)).heap[w.heap.size + 1]? = some (.cells rd0 33 (0, 0)) := (set_other _ _ _ _ _ (by omega)).trans ((set_other _ _ _ _ _ (by omega)).trans ((set_other _ _ _ _ _ (by omega)).trans HZ.out))
    have HZ2 := Lib.hid hZ2
    have hend := setRow_heap _ (w.heap.size + 1) _ (rdC size (.slice a1 n1 c1) (.slice a2 n2 c2) (.slice a3 n3 c3) q ((ac : Int) + 1) dn) _ _ hZ2
    have HE := Lib.hid hend
    have HBE : Hid (Below w.heap.size w ((((W0.setCell ⟨w.heap.size, 5, none⟩ (.int .i64 ((ac : Int) + 1))).setCell ⟨w.heap.size, 4, none⟩ (.int .i64 q)).setCell ⟨w.heap.size, 6, none⟩ (.bool dn)).setRow (w.heap.size + 1) (rdC size (.slice a1 n1 c1) (.slice a2 n2 c2) (.slice a3 n3 c3) q ((ac : Int) + 1) dn))) := below_setRow (((HB.out.setCell (p := ⟨w.heap.size, 5, none⟩) (Nat.le_refl _) _).setCell (p := ⟨w.heap.size, 4, none⟩) (Nat.le_refl _) _).setCell (p := ⟨w.heap.size, 6, none⟩) (Nat.le_refl _) _) (by omega) _
    clear hZ2 hend HW0
    go_wp2_with (refine wpList_store_row (o := ⟨none, _, _, _, _, _⟩) rfl 33 (.tmp 2) (.tmp 18) rfl (w.heap.size + 1) (rdC size (.slice a1 n1 c1) (.slice a2 n2 c2) (.slice a3 n3 c3) q ((ac : Int) + 1) dn) rfl rfl 33 rd0 HZ2.out (rd_sz _ _ _ _ _ _ _) rfl ?_ ?_; exact rd_one)
    exact bodyPost_ret (results_cell_row rfl _ _ (w.heap.size + 1) 33 (rdC size (.slice a1 n1 c1) (.slice a2 n2 c2) (.slice a3 n3 c3) q ((ac : Int) + 1) dn) (0, 0) _ rfl HE.out Try.underlying33 rfl (rd_sz _ _ _ _ _ _ _)) rfl ⟨rfl, HBE.out⟩
end Go.Proofs.Ytadglpnmhpmebaa

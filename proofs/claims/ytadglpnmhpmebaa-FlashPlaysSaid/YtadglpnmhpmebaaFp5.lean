/-
  sgraffitoref04's New: the walk.
  Conditions: none.
-/
import Derived.Test.YtadglpnmhpmebaaFp4
namespace Go.Proofs.Ytadglpnmhpmebaa
open Go.RowKit
attribute [-go_sem] Instr.build
attribute [local go_sem] build_rd

theorem row_moves04 {W : World} (X : Nat) (cs : Array Value) : Moves (fun k => k = X) W (W.setRow X cs) := ⟨rfl, rfl, rfl, by rw [size_setRow]; exact Nat.le_refl _, fun k _ hk => setRow_other W X k cs hk⟩
set_option maxRecDepth 100000 in
set_option maxHeartbeats 8000000 in
theorem refNew_any (sectors size : Nat) (h1 : 1 ≤ sectors ∧ sectors ≤ 16384) (h2 : size ≤ 512) (w : World) : Calls Try.prog 11 #[.int .i64 sectors, .int .i64 size] w fun e w' => ∃ vF vL vP, e = .returned (.agg (rdC size vF vL vP 0 0 false)) ∧ RefAt w'.heap.size w' vF vL vP (Dev.new sectors size) ∧ Below w.heap.size w w' := by
  obtain ⟨W0, hW0⟩ : ∃ W0, ((w.alloc (.cells rd0 33)).alloc (.cells (rdC size (.slice none 0 0) (.slice none 0 0) (.slice none 0 0) 0 0 false) 33)).alloc (.cells (madeCells #[.int .u8 0] size) 5) = W0 := ⟨_, rfl⟩
  have s2 : ((w.alloc (.cells rd0 33)).alloc (.cells (rdC size (.slice none 0 0) (.slice none 0 0) (.slice none 0 0) 0 0 false) 33)).heap.size = w.heap.size + 2 := by simp
  have hZ : W0.heap[w.heap.size]? = some (.cells rd0 33 (0, 0)) := by rw [← hW0]; exact blk_alloc (heap_alloc2_old w _ _) _
  have hX : W0.heap[w.heap.size + 1]? = some (.cells (rdC size (.slice none 0 0) (.slice none 0 0) (.slice none 0 0) 0 0 false) 33 (0, 0)) := by rw [← hW0]; exact blk_alloc (heap_alloc2_new w _ _) _
  have hB : Below w.heap.size w W0 := by rw [← hW0]; exact (((Below.refl _ w).alloc (Nat.le_refl _) _).alloc (by simp) _).alloc (by rw [s2]; omega) _
  have ho := own_zeros ((w.alloc (.cells rd0 33)).alloc (.cells (rdC size (.slice none 0 0) (.slice none 0 0) (.slice none 0 0) 0 0 false) 33)) (w.heap.size + 2) size (by rw [s2]; exact Nat.le_refl _) (by omega)
  rw [s2, hW0] at ho
  have hcv := conv_str (BytesAt.of_owns (show W0.ownsRow (w.heap.size + 2) 5 1 (.slice (some ⟨w.heap.size + 2, 0, none⟩) size size) (zeros size).length (cellsOf (zeros size)) from by rw [zeros_len]; exact ho))
  have hmk := makeBytes size (by omega)
  have HI : Hid (NewI w (w.heap.size + 1) w.heap.size size 0 0 none 0 none 0 W0) := ⟨hB, ⟨by omega, by omega⟩, hX, hZ, World.ownsRow_nil _ _ _ _, [], World.ownsRow_nil _ _ _ _, fun i hi => absurd hi (by omega)⟩
  have HW0 := Lib.hid hW0
  obtain ⟨is, his, hs0, hs1, hs2⟩ := info_parts3 infoStr
  obtain ⟨it, hit, ht0, ht1, ht2⟩ := info_parts3 infoStrs
  have m1 : (sectors : Int) ≤ 16384 := by omega
  have H1 := Lib.hid h1
  clear hW0 s2 hZ hX hB ho h1
  go_enter Try.func11, Try.ntmps11
  go_upto_region 2 with (fail)
  change Code.wp _ _ _ _ ((w.alloc (.cells rd0 33)).alloc (.cells (rdC size (.slice none 0 0) (.slice none 0 0) (.slice none 0 0) 0 0 false) 33))
  generalize hw2 : (w.alloc (.cells rd0 33)).alloc (.cells (rdC size (.slice none 0 0) (.slice none 0 0) (.slice none 0 0) 0 0 false) 33) = w2 at HW0 ⊢
  have hz2 : w2.heap.size = w.heap.size + 2 := by rw [← hw2]; simp
  rw [← hz2] at hcv
  rw [← HW0.out] at hcv
  clear hw2 hz2
  go_upto_region 3 with (fail)
  rw [HW0.out]
  clear hcv hmk HW0
  go_wp2
  go_loopw [7] (fun i wr => ∃ (j : Nat) (a1 : Option Addr) (c1 : Nat) (a3 : Option Addr) (c3 : Nat), j ≤ sectors ∧ i = .int .i64 j ∧ NewI w (w.heap.size + 1) w.heap.size size j j a1 c1 a3 c3 wr) (fun i _ => sectors - (intOf i).toNat)
  case atStart => exact ⟨0, _, _, _, _, Nat.zero_le _, rfl, HI.out⟩
  case round =>
    obtain ⟨j, a1, c1, a3, c3, hj, rfl, hI⟩ := hrel
    have x0 := blk_cell hI.x 0
    have x1 := blk_cell hI.x 1
    have x2 := blk_cell hI.x 2
    have x3 := blk_cell hI.x 3
    have x4 := blk_cell hI.x 4
    have x5 := blk_cell hI.x 5
    have x6 := blk_cell hI.x 6
    unfold rdC at x0 x1 x2 x3 x4 x5 x6
    have HNI := Lib.hid hI
    by_cases hlt : j < sectors
    · have j1 : (j : Int) < sectors := by omega
      have HLT := Lib.hid hlt
      have HJ : Hid (j ≤ 16384) := by have := H1.out; unfold Hid; omega
      clear hI hlt hj x0 x2 x3 x4 x5 x6
      go_upto_region 7 with (at_builtin; (have hba := (Below.refl wr.heap.size wr).alloc (Nat.le_refl _) (.cells #[.string (strB (zeros size))] 9)); (have HA := Lib.hid (HNI.out.on hba)); (refine wpList_append_lies _ rfl (.tmp 19) (.tmp 21) 29 rfl w.heap.size 9 is _ 1 16 Try.underlying29 his hs0 hs1 hs2 rfl (by decide) (.slice a1 j c1) j _ rfl HA.out.rF ⟨wr.heap.size, 0, none⟩ 1 1 [.string (strB (zeros size))] rfl rfl (World.news_of_block (heap_alloc_new wr (.cells #[.string (strB (zeros size))] 9))) (by simp [Value.oneCell']) (by decide) (by have := HJ.out; unfold maxLen; omega) (by have := HJ.out; omega) HA.out.bel.size _ rfl ?_); intro g5 c5 w5 hown hg hdj _; have hx5 := blk_keep HA.out.x hg (own_ne HA.out.rF HA.out.x (by decide)); clear x1; have x1 := blk_cell hx5 1; have f1 := blk_frozen hx5 1; unfold rdC at x1; have HN2 := Lib.hid (HA.out.fast (by omega) hg hown hdj); clear hba hown hg hdj hx5)
      generalize w5.setCell ⟨w.heap.size + 1, 1, none⟩ (.slice (some ⟨g5, 0, none⟩) (j + 1) c5) = w6 at HN2 ⊢
      have x3 := blk_cell HN2.out.x 3
      unfold rdC at x3
      clear x1 f1
      go_wp2_with (at_builtin; (have hba := ((Below.refl w6.heap.size w6).alloc (Nat.le_refl _) (.cells #[.string (strB (zeros size))] 9)).alloc (by simp) (.cells #[.slice (some ⟨w6.heap.size, 0, none⟩) 1 1] 29)); (have hge : ((w6.alloc (.cells #[.string (strB (zeros size))] 9)).alloc (.cells #[.slice (some ⟨w6.heap.size, 0, none⟩) 1 1] 29)).heap[w6.heap.size]? = some (.cells #[.string (strB (zeros size))] 9 (0, 0)) := heap_alloc2_old w6 _ _); (have hgf : ((w6.alloc (.cells #[.string (strB (zeros size))] 9)).alloc (.cells #[.slice (some ⟨w6.heap.size, 0, none⟩) 1 1] 29)).heap[w6.heap.size + 1]? = some (.cells #[.slice (some ⟨w6.heap.size, 0, none⟩) 1 1] 29 (0, 0)) := heap_alloc2_new w6 _ _); (have HA := Lib.hid (HN2.out.on hba)); obtain ⟨us, hus, hel⟩ := HA.out.rP; (have HUS := Lib.hid hus); (have HEL := Lib.hid hel); (have HGE := Lib.hid hge); (have HGN : Hid ((Value.slice (some ⟨g5, 0, none⟩) (j + 1) c5).ownBlock ≠ some w6.heap.size) := fun e => by have := (HN2.out.rF.lt _ e).2; omega); (refine wpList_append_lies _ rfl (.tmp 25) (.tmp 28) 31 rfl w.heap.size 29 it _ 1 24 Try.underlying31 hit ht0 ht1 ht2 rfl (by decide) (.slice a3 j c3) j us rfl HUS.out ⟨w6.heap.size + 1, 0, none⟩ 1 1 [.slice (some ⟨w6.heap.size, 0, none⟩) 1 1] rfl rfl (World.news_of_block hgf) (by simp [Value.oneCell']) (by decide) (by have := HJ.out; unfold maxLen; omega) (by have := HJ.out; omega) HA.out.bel.size _ rfl ?_); intro g7 c7 w7 hown hg _ _; have hx7 := blk_keep HA.out.x hg (own_ne HUS.out HA.out.x (by decide)); clear x3; have x3 := blk_cell hx7 3; have f3 := blk_frozen hx7 3; unfold rdC at x3; have HN3 := Lib.hid (HA.out.past (by omega) HGE.out HGN.out HUS.out HEL.out hg hown); clear hba hge hgf hus hel hown hg hx7)
      go_roundw
      case rel => exact ⟨j + 1, _, _, _, _, HLT.out, by go_num, HN3.out⟩
      case measure => have := HLT.out; simp [intOf]; omega
    · obtain rfl : j = sectors := by omega
      have hend := setRow_heap _ w.heap.size _ (rdC size (.slice a1 j c1) (.slice none 0 0) (.slice a3 j c3) 0 0 false) _ _ hI.z
      have hbs : Below w.heap.size w (wr.setRow w.heap.size (rdC size (.slice a1 j c1) (.slice none 0 0) (.slice a3 j c3) 0 0 false)) := below_setRow hI.bel (Nat.le_refl _) _
      have HRF := Lib.hid (hI.ref (by have := H1.out; omega) (Below.refl _ _))
      have HE := Lib.hid (And.intro hend hbs)
      have HZZ := Lib.hid hI.z
      clear hI hj hlt hend hbs
      go_wp2_with (refine wpList_store_row (o := ⟨none, _, _, _, _, _⟩) rfl 33 (.tmp 4) (.tmp 31) rfl w.heap.size (rdC size (.slice a1 j c1) (.slice none 0 0) (.slice a3 j c3) 0 0 false) rfl rfl 33 rd0 HZZ.out (rd_sz _ _ _ _ _ _ _) rfl ?_ ?_; exact rd_one)
      refine bodyPost_ret (results_cell_row rfl _ _ w.heap.size 33 (rdC size (.slice a1 j c1) (.slice none 0 0) (.slice a3 j c3) 0 0 false) (0, 0) _ rfl HE.out.1 Try.underlying33 rfl (rd_sz _ _ _ _ _ _ _)) rfl ⟨_, _, _, rfl, ?_, HE.out.2⟩
      exact (HRF.out.turn HZZ.out (Nat.le_refl _) (row_moves04 _ _)).mono (by rw [size_setRow]; exact Nat.le_refl _)
end Go.Proofs.Ytadglpnmhpmebaa

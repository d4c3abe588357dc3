/-
  Proved: a clock, whatever is put, got, dropped, lets the same things go as the document's. Whatever number and acts come in, the law ClockPlays answers true and the arguments read as they did.
  Conditions: none.
-/
import Derived.Test.YtadhkciggiefbaaCkPlay4
import Derived.Test.YtadhkciggiefbaaCkPlay2
import Derived.Test.YtadhkciggiefbaaLaw
import Derived.Deep.CutBlock
import Derived.Test.YtadhkciggiefbaaQuietB
namespace Go.Proofs.Ytadhkciggiefbaa
open Go.ChangeShapes Go.WideShapes Go.ChangeAt Go.RowKit

theorem newI_not (n : Int) (h : n < 1 ∨ 4096 < n) (w : World) :
    Calls Try.prog 4 #[.int .i64 n] w fun e w' => e = .returned (.pointer none) ∧ w = w' := by
  rcases h with h | h
  · go_enter Try.func4, Try.ntmps4
    go_wp2
    go_ret
    exact ⟨rfl, rfl⟩
  · have h1 : (1 : Int) ≤ n := by omega
    go_enter Try.func4, Try.ntmps4
    go_wp2
    go_ret
    exact ⟨rfl, rfl⟩
set_option maxRecDepth 100000 in
set_option maxHeartbeats 8000000 in
theorem clockPlays_walk (room : Int) (l : List Act8) (v : Value) (w : World) (hv : ActsAt8 w.heap.size w v l) (hm : l.length ≤ maxLen) : Calls Try.prog 3 #[.int .i64 room, v] w (Good w) := by
  unfold maxLen at hm
  obtain ⟨a, cap, rfl, hcap, hwf, hv⟩ := hv
  by_cases hbig : 200 < l.length
  · have b1 : (200 : Int) < l.length := by omega
    clear hwf hv
    go_enter Try.func3, Try.ntmps3
    go_wp2
    go_ret
    exact ⟨rfl, Below.refl _ _⟩
  have b1 : (l.length : Int) ≤ 200 := by omega
  by_cases hr0 : room < 1
  · have HNW := Lib.hid (newI_not room (.inl hr0))
    have hr2 : room ≤ 20 := by omega
    clear hwf hv hbig
    go_enter Try.func3, Try.ntmps3
    go_wp2_with (first
      | (go_at_call 4; (with_reducible refine (HNW.out _).mono ?_); rintro e w1 ⟨rfl, rfl⟩)
      | (go_at_call 5; (with_reducible refine (room_nil _).mono ?_); rintro e w1 ⟨rfl, rfl⟩)
      | (go_at_call 6; (with_reducible refine (awake08 _).mono ?_); rintro e w7 ⟨rfl, hb7⟩))
    go_ret
    exact ⟨rfl, hb7⟩
  have r1 : 1 ≤ room := by omega
  by_cases hr1 : 4096 < room
  · have HNW := Lib.hid (newI_not room (.inr hr1))
    have hr2 : 20 < room := by omega
    clear hwf hv hbig hr0
    go_enter Try.func3, Try.ntmps3
    go_wp2_with (first
      | (go_at_call 4; (with_reducible refine (HNW.out _).mono ?_); rintro e w1 ⟨rfl, rfl⟩)
      | (go_at_call 5; (with_reducible refine (room_nil _).mono ?_); rintro e w1 ⟨rfl, rfl⟩)
      | (go_at_call 6; (with_reducible refine (awake08 _).mono ?_); rintro e w7 ⟨rfl, hb7⟩))
    go_ret
    exact ⟨rfl, hb7⟩
  have r2 : room ≤ 4096 := by omega
  by_cases hr2 : 20 < room
  · clear hwf hv hbig hr0 hr1
    go_enter Try.func3, Try.ntmps3
    go_wp2
    go_ret
    exact ⟨rfl, Below.refl _ _⟩
  have r3 : room ≤ 20 := by omega
  obtain ⟨n, rfl⟩ : ∃ n : Nat, room = n := ⟨room.toNat, by omega⟩
  have hn : 1 ≤ n ∧ n ≤ 20 := by omega
  have HNEW := Lib.hid (new_any w.heap.size n (by omega) w (Nat.le_refl _))
  have HN := Lib.hid hn
  clear hr0 hr1 hr2 hbig hn
  go_enter Try.func3, Try.ntmps3
  go_upto_region 6 with (go_at_call 4; (with_reducible refine HNEW.out.mono ?_); rintro e w1 ⟨rfl, hw1, hb1⟩; have HC1 := Lib.hid hw1; have HB1 := Lib.hid hb1; clear hw1 hb1)
  go_upto_region 7 with (go_at_call 7; (with_reducible refine (refNew_any n (by have := HN.out; omega) _).mono ?_); rintro e w2 ⟨v2, rfl, hp2, hb2, _⟩; have HP2 := Lib.hid hp2; obtain ⟨a2, c2, rfl⟩ := hp2.slice; have HB2 := Lib.hid hb2; clear hp2 hb2)
  have hz1 : w1.heap.size ≤ w2.heap.size := HB2.out.size
  have hcr : w.heap.size + 2 < w2.heap.size := Nat.lt_of_lt_of_le HC1.out.lt.1 hz1
  have hz0 : w.heap.size ≤ w1.heap.size := HB1.out.size
  have HS : Hid (PlaysAt w w2.heap.size (w.heap.size + 2) w.heap.size (w.heap.size + 1) n (w2.alloc (.cells #[.slice a2 n c2, .int .i64 0] 29)) (Ck.new zeroI n) (.slice a2 n c2)) := by
    have hb3 : Below w2.heap.size w2 (w2.alloc (.cells #[.slice a2 n c2, .int .i64 0] 29)) := (Below.refl _ _).alloc (Nat.le_refl _) _
    have hp := HP2.out
    rw [List.length_replicate] at hp
    exact ⟨(HC1.out.same HB2.out).same hb3, heap_alloc_new _ _, hp.next hb3, by simp [Ck.new], (HB1.out.trans (HB2.out.mono hz0)).trans (hb3.mono (by omega)), by omega⟩
  clear HC1 HB1 HP2 HB2 HNEW
  change (Code.region _ _ _).wp _ _ _ (w2.alloc (.cells #[.slice a2 n c2, .int .i64 0] 29))
  generalize w2.alloc (.cells #[.slice a2 n c2, .int .i64 0] 29) = w3 at HS ⊢
  have HCR : Hid (w.heap.size + 2 < w2.heap.size) := by unfold Hid; exact hcr
  generalize w2.heap.size = R at HS HCR ⊢
  clear hz0 hz1 hcr
  go_wp2
  go_loopw [7] (fun iv wr => ∃ k : Nat, k ≤ l.length ∧ iv = .int .i64 k ∧ ∃ s v', PlaysAt w R (w.heap.size + 2) w.heap.size (w.heap.size + 1) n wr s v') (fun iv _ => l.length - (intOf iv).toNat)
  case atStart => exact ⟨0, by omega, rfl, _, _, HS.out⟩
  case round =>
    obtain ⟨k, hk, rfl, s, v', hS⟩ := hrel
    by_cases hlt : k < l.length
    · have i1 : (k : Int) < l.length := by omega
      obtain ⟨ga, off, rfl, hga, hcells⟩ : ∃ g off, a = some ⟨g, off, none⟩ ∧ g < w.heap.size ∧ ∀ i, i < l.length → ActAt8 w g (off + i * 3) (l[i]?.getD default) := by
        rcases hv with h | h
        · subst h; simp at hlt
        · exact h
      have hat := hcells k hlt
      clear hv hcells hwf
      generalize l[k]?.getD default = act at hat
      obtain ⟨kind, key, thing⟩ := act
      obtain ⟨c0, c1, c2⟩ := hat.below hS.below hga
      obtain ⟨a3, c3, e3⟩ := hS.pls.slice
      rw [hS.len] at e3
      subst e3
      have HLT := Lib.hid hlt
      have HS3 := Lib.hid (hS.next ((Below.refl _ wr).alloc (Nat.le_refl _) (.cells #[.int .i64 kind, .int .i64 key, .int .i64 thing] 32)))
      have HY := Lib.hid (heap_alloc_new wr (.cells #[.int .i64 kind, .int .i64 key, .int .i64 thing] 32))
      have HSR := Lib.hid (blk_lt hS.rb)
      clear hS hlt hga hat
      go_upto_block 2 with (fail)
      obtain ⟨Wy, hWy⟩ : ∃ Wy, wr.alloc (.cells #[.int .i64 kind, .int .i64 key, .int .i64 thing] 32) = Wy := ⟨_, rfl⟩
      rw [hWy] at HS3 HY ⊢
      clear hWy c0 c1 c2
      obtain ⟨Y, hY⟩ : ∃ Y, wr.heap.size = Y := ⟨_, rfl⟩
      rw [hY] at HY HSR ⊢
      clear hY
      go_cut [9] from 57 to 195 (fun _s9 wx => ∃ wz s2 v2, wz = wx ∧ PlaysAt w R (w.heap.size + 2) w.heap.size (w.heap.size + 1) n wz s2 v2)
      case first =>
        have y0 : Wy.cell? ⟨Y, 0, none⟩ = some (.int .i64 kind) := blk_cell HY.out 0
        have y1 : Wy.cell? ⟨Y, 1, none⟩ = some (.int .i64 key) := blk_cell HY.out 1
        have y2 : Wy.cell? ⟨Y, 2, none⟩ = some (.int .i64 thing) := blk_cell HY.out 2
        have x0 : Wy.cell? ⟨R, 0, none⟩ = some (.slice a3 n c3) := blk_cell HS3.out.rb 0
        have x1 : Wy.cell? ⟨R, 1, none⟩ = some (.int .i64 s.hand) := blk_cell HS3.out.rb 1
        have hth := HS3.out.ck.things
        have hl := HS3.out.ck.ok.n2
        have HGT := Lib.hid (fun (W : World) (hb : Below Wy.heap.size Wy W) => (show Calls Try.prog 8 #[.agg #[.slice a3 n c3, .int .i64 s.hand], .int .i64 key, .bool true] W (RefDid (s.got key).ps s.hand (.int .i64 (lookI s key)) (.bool (lookB s key)) W) from refGet_ck (HS3.out.pls.next hb) hth hl key true))
        have HGF := Lib.hid (fun (W : World) (hb : Below Wy.heap.size Wy W) => (show Calls Try.prog 8 #[.agg #[.slice a3 n c3, .int .i64 s.hand], .int .i64 key, .bool false] W (RefDid s.ps s.hand (.int .i64 (lookI s key)) (.bool (lookB s key)) W) from refGet_ck (HS3.out.pls.next hb) hth hl key false))
        have HD := Lib.hid (fun (W : World) (hb : Below Wy.heap.size Wy W) => refDrop_ck (HS3.out.pls.next hb) hth hl key)
        have HP : Hid (∀ (W : World) (hb : Below Wy.heap.size Wy W), ∃ f m, Calls Try.prog 13 #[.agg #[.slice a3 n c3, .int .i64 s.hand], .int .i64 key, .int .i64 thing] W (PutDid (s.put zeroI key (.int .i64 thing)).ps (s.put zeroI key (.int .i64 thing)).hand f m (toldK s key) (toldT s key) (goB s key) W)) := fun W hb => refPut_ck (HS3.out.pls.next hb) HS3.out.ck.ok hth key thing
        have HLI := Lib.hid (lookRes_int hth key)
        have HYR : Hid (R < Y) := HSR.out
        clear hth hl
        cases hk3 : ((wrap64 (kind.tmod 6 + 6)).tmod 6 == 3) with
        | true =>
          have q3 : (wrap64 (kind.tmod 6 + 6)).tmod 6 = 3 := by simpa using hk3
          go_upto_region 21 with (go_at_call 8; (with_reducible refine (HGT.out _ (Below.refl _ _)).mono ?_); rintro e w4 ⟨v4, rfl, hp4, hb4⟩; obtain ⟨a4, c4, e4⟩ := hp4.slice; rw [got_len2, HS3.out.len] at e4; subst e4; have HP4 := Lib.hid hp4; have HB4 := Lib.hid hb4; clear hp4 hb4)
          have hr4 := heap_alloc_new w4 (.cells #[.slice a4 n c4, .int .i64 s.hand] 29)
          have hb5 : Below Wy.heap.size Wy (w4.alloc (.cells #[.slice a4 n c4, .int .i64 s.hand] 29)) := HB4.out.alloc HB4.out.size _
          have hp5 := HP4.out.next ((Below.refl _ w4).alloc (Nat.le_refl _) (.cells #[.slice a4 n c4, .int .i64 s.hand] 29))
          change (Code.region _ _ _).wp _ _ _ (w4.alloc (.cells #[.slice a4 n c4, .int .i64 s.hand] 29))
          generalize w4.alloc (.cells #[.slice a4 n c4, .int .i64 s.hand] 29) = wb at hr4 hb5 hp5 ⊢
          have n0 : wb.cell? ⟨w4.heap.size, 0, none⟩ = some (.slice a4 n c4) := blk_cell hr4 0
          have n1 : wb.cell? ⟨w4.heap.size, 1, none⟩ = some (.int .i64 s.hand) := blk_cell hr4 1
          have HST := Lib.hid (HS3.out.put hb5 hp5 (s.hand : Int))
          have HRB := Lib.hid (HS3.out.next hb5).rb
          have HYB := Lib.hid ((setRow_other wb R Y (ckC (.slice a4 n c4) (s.hand : Int)) (by have := HYR.out; omega)).trans ((hb5.block Y (blk_lt HY.out)).trans HY.out))
          clear hr4 hb5 hp5 HP4 HB4 x0 x1 y0 y1 y2 HGT HGF HD HP
          go_upto_region 22 with (refine wpList_store_row (o := ⟨none, _, _, _, _, _⟩) rfl 29 (.tmp 6) (.tmp 126) rfl R (ckC (.slice a4 n c4) (s.hand : Int)) rfl rfl 29 (ckC (.slice a3 n c3) (s.hand : Int)) HRB.out (ckC_sz _ _) rfl ?_ ?_; exact ckC_one _ _ _ _)
          change (Code.region _ _ _).wp _ _ _ (wb.setRow R (ckC (.slice a4 n c4) (s.hand : Int)))
          generalize wb.setRow R (ckC (.slice a4 n c4) (s.hand : Int)) = w5 at HST HYB ⊢
          have y1 : w5.cell? ⟨Y, 1, none⟩ = some (.int .i64 key) := blk_cell HYB.out 1
          have y0 : w5.cell? ⟨Y, 0, none⟩ = some (.int .i64 kind) := blk_cell HYB.out 0
          clear n0 n1
          have HLK := Lib.hid (look_any HST.out.ck key)
          have HGE := Lib.hid (get_any HST.out.ck key)
          rw [HLI.out] at HLK HGE
          generalize lookI s key = li at HLK HGE ⊢
          generalize lookB s key = lb at HLK HGE ⊢
          clear HLI
          go_wp2_with (first
            | (go_at_call 9; (with_reducible refine HLK.out.mono ?_); rintro e w6 ⟨rfl, rfl⟩)
            | (go_at_call 10; (with_reducible refine HGE.out.mono ?_); rintro e w7 ⟨rfl, h7, m7⟩; have H7 := Lib.hid h7; have M7 := Lib.hid m7; clear h7 m7))
          go_meet
          exact ⟨_, s.got key, _, rfl, Stored.step (s' := s.got key) (by rw [got_hand]; exact HST.out) H7.out (got_len2 s key) M7.out⟩
        | false =>
          cases hk4 : ((wrap64 (kind.tmod 6 + 6)).tmod 6 == 4) with
          | true =>
            go_upto_region 21 with (go_at_call 8; (with_reducible refine (HGF.out _ (Below.refl _ _)).mono ?_); rintro e w4 ⟨v4, rfl, hp4, hb4⟩; obtain ⟨a4, c4, e4⟩ := hp4.slice; rw [HS3.out.len] at e4; subst e4; have HP4 := Lib.hid hp4; have HB4 := Lib.hid hb4; clear hp4 hb4)
            have hr4 := heap_alloc_new w4 (.cells #[.slice a4 n c4, .int .i64 s.hand] 29)
            have hb5 : Below Wy.heap.size Wy (w4.alloc (.cells #[.slice a4 n c4, .int .i64 s.hand] 29)) := HB4.out.alloc HB4.out.size _
            have hp5 := HP4.out.next ((Below.refl _ w4).alloc (Nat.le_refl _) (.cells #[.slice a4 n c4, .int .i64 s.hand] 29))
            change (Code.region _ _ _).wp _ _ _ (w4.alloc (.cells #[.slice a4 n c4, .int .i64 s.hand] 29))
            generalize w4.alloc (.cells #[.slice a4 n c4, .int .i64 s.hand] 29) = wb at hr4 hb5 hp5 ⊢
            have n0 : wb.cell? ⟨w4.heap.size, 0, none⟩ = some (.slice a4 n c4) := blk_cell hr4 0
            have n1 : wb.cell? ⟨w4.heap.size, 1, none⟩ = some (.int .i64 s.hand) := blk_cell hr4 1
            have HST := Lib.hid (HS3.out.put hb5 hp5 (s.hand : Int))
            have HRB := Lib.hid (HS3.out.next hb5).rb
            have HYB := Lib.hid ((setRow_other wb R Y (ckC (.slice a4 n c4) (s.hand : Int)) (by have := HYR.out; omega)).trans ((hb5.block Y (blk_lt HY.out)).trans HY.out))
            clear hr4 hb5 hp5 HP4 HB4 x0 x1 y0 y1 y2 HGT HGF HD HP
            go_upto_region 22 with (refine wpList_store_row (o := ⟨none, _, _, _, _, _⟩) rfl 29 (.tmp 6) (.tmp 126) rfl R (ckC (.slice a4 n c4) (s.hand : Int)) rfl rfl 29 (ckC (.slice a3 n c3) (s.hand : Int)) HRB.out (ckC_sz _ _) rfl ?_ ?_; exact ckC_one _ _ _ _)
            change (Code.region _ _ _).wp _ _ _ (wb.setRow R (ckC (.slice a4 n c4) (s.hand : Int)))
            generalize wb.setRow R (ckC (.slice a4 n c4) (s.hand : Int)) = w5 at HST HYB ⊢
            have y1 : w5.cell? ⟨Y, 1, none⟩ = some (.int .i64 key) := blk_cell HYB.out 1
            have y0 : w5.cell? ⟨Y, 0, none⟩ = some (.int .i64 kind) := blk_cell HYB.out 0
            clear n0 n1
            have HLK := Lib.hid (look_any HST.out.ck key)
            rw [HLI.out] at HLK
            generalize lookI s key = li at HLK ⊢
            generalize lookB s key = lb at HLK ⊢
            clear HLI
            go_wp2_with (go_at_call 9; (with_reducible refine HLK.out.mono ?_); rintro e w6 ⟨rfl, hw6⟩; obtain rfl := hw6.symm)
            go_meet
            exact ⟨_, s, _, rfl, Stored.step (s' := s) HST.out HST.out.ck rfl (Moves.refl _ _)⟩
          | false =>
            cases hk5 : ((wrap64 (kind.tmod 6 + 6)).tmod 6 == 5) with
            | true =>
              go_upto_region 29 with (go_at_call 11; (with_reducible refine (HD.out _ (Below.refl _ _)).mono ?_); rintro e w4 ⟨v4, rfl, hp4, hb4⟩; obtain ⟨a4, c4, e4⟩ := hp4.slice; rw [drop_len2, HS3.out.len] at e4; subst e4; have HP4 := Lib.hid hp4; have HB4 := Lib.hid hb4; clear hp4 hb4)
              have hr4 := heap_alloc_new w4 (.cells #[.slice a4 n c4, .int .i64 s.hand] 29)
              have hb5 : Below Wy.heap.size Wy (w4.alloc (.cells #[.slice a4 n c4, .int .i64 s.hand] 29)) := HB4.out.alloc HB4.out.size _
              have hp5 := HP4.out.next ((Below.refl _ w4).alloc (Nat.le_refl _) (.cells #[.slice a4 n c4, .int .i64 s.hand] 29))
              change (Code.region _ _ _).wp _ _ _ (w4.alloc (.cells #[.slice a4 n c4, .int .i64 s.hand] 29))
              generalize w4.alloc (.cells #[.slice a4 n c4, .int .i64 s.hand] 29) = wb at hr4 hb5 hp5 ⊢
              have n0 : wb.cell? ⟨w4.heap.size, 0, none⟩ = some (.slice a4 n c4) := blk_cell hr4 0
              have n1 : wb.cell? ⟨w4.heap.size, 1, none⟩ = some (.int .i64 s.hand) := blk_cell hr4 1
              have HST := Lib.hid (HS3.out.put hb5 hp5 (s.hand : Int))
              have HRB := Lib.hid (HS3.out.next hb5).rb
              have HYB := Lib.hid ((setRow_other wb R Y (ckC (.slice a4 n c4) (s.hand : Int)) (by have := HYR.out; omega)).trans ((hb5.block Y (blk_lt HY.out)).trans HY.out))
              clear hr4 hb5 hp5 HP4 HB4 x0 x1 y0 y1 y2 HGT HGF HD HP
              go_upto_region 30 with (refine wpList_store_row (o := ⟨none, _, _, _, _, _⟩) rfl 29 (.tmp 6) (.tmp 160) rfl R (ckC (.slice a4 n c4) (s.hand : Int)) rfl rfl 29 (ckC (.slice a3 n c3) (s.hand : Int)) HRB.out (ckC_sz _ _) rfl ?_ ?_; exact ckC_one _ _ _ _)
              change (Code.region _ _ _).wp _ _ _ (wb.setRow R (ckC (.slice a4 n c4) (s.hand : Int)))
              generalize wb.setRow R (ckC (.slice a4 n c4) (s.hand : Int)) = w5 at HST HYB ⊢
              have y1 : w5.cell? ⟨Y, 1, none⟩ = some (.int .i64 key) := blk_cell HYB.out 1
              have y0 : w5.cell? ⟨Y, 0, none⟩ = some (.int .i64 kind) := blk_cell HYB.out 0
              clear n0 n1
              have HDR := Lib.hid (drop_any HST.out.ck key)
              rw [HLI.out] at HDR
              generalize lookI s key = li at HDR ⊢
              generalize lookB s key = lb at HDR ⊢
              clear HLI
              go_wp2_with (go_at_call 12; (with_reducible refine HDR.out.mono ?_); rintro e w7 ⟨rfl, h7, m7⟩; have H7 := Lib.hid h7; have M7 := Lib.hid m7; clear h7 m7)
              go_meet
              exact ⟨_, s.dropped zeroI key, _, rfl, Stored.step (s' := s.dropped zeroI key) (by rw [drop_hand]; exact HST.out) H7.out (drop_len2 s key) M7.out⟩
            | false =>
              obtain ⟨pf, pm, hp1⟩ := HP.out Wy (Below.refl _ _)
              have HP1 := Lib.hid hp1
              clear hp1
              have HP2 : Hid (Calls Try.prog 13 #[.agg #[.slice a3 n c3, .int .i64 s.hand], .int .i64 key, .int .i64 thing] Wy (fun e w' => ∃ v, e = .returned (.tuple #[.agg #[v, .int .i64 ((s.put zeroI key (.int .i64 thing)).hand : Int)], .agg #[.bool pf, .bool pm, .int .i64 (toldK s key), .int .i64 (toldT s key)], .bool (goB s key)]) ∧ PlsAt w'.heap.size w' v (s.put zeroI key (.int .i64 thing)).ps ∧ Below Wy.heap.size Wy w')) := HP1.out
              go_upto_region 13 with (go_at_call 13; (with_reducible refine HP2.out.mono ?_); rintro e w4 ⟨v4, rfl, hp4, hb4⟩; obtain ⟨a4, c4, e4⟩ := hp4.slice; rw [put_len2, HS3.out.len] at e4; subst e4; have HP4 := Lib.hid hp4; have HB4 := Lib.hid hb4; clear hp4 hb4)
              have hr4 := blk_alloc (heap_alloc_new w4 (.cells #[.slice a4 n c4, .int .i64 ((s.put zeroI key (.int .i64 thing)).hand : Int)] 29)) (.cells #[.bool pf, .bool pm, .int .i64 (toldK s key), .int .i64 (toldT s key)] 39)
              have hrp := heap_alloc_new (w4.alloc (.cells #[.slice a4 n c4, .int .i64 ((s.put zeroI key (.int .i64 thing)).hand : Int)] 29)) (.cells #[.bool pf, .bool pm, .int .i64 (toldK s key), .int .i64 (toldT s key)] 39)
              rw [World.size_alloc] at hrp
              have hbb : Below w4.heap.size w4 ((w4.alloc (.cells #[.slice a4 n c4, .int .i64 ((s.put zeroI key (.int .i64 thing)).hand : Int)] 29)).alloc (.cells #[.bool pf, .bool pm, .int .i64 (toldK s key), .int .i64 (toldT s key)] 39)) := ((Below.refl _ w4).alloc (Nat.le_refl _) _).alloc (by simp) _
              have hb5 := HB4.out.trans (hbb.mono HB4.out.size)
              have hp5 := HP4.out.next hbb
              have HW4 : Hid (R < w4.heap.size) := by have h1 := HYR.out; have h2 := blk_lt HY.out; have h3 := HB4.out.size; unfold Hid; omega
              change (Code.region _ _ _).wp _ _ _ ((w4.alloc (.cells #[.slice a4 n c4, .int .i64 ((s.put zeroI key (.int .i64 thing)).hand : Int)] 29)).alloc (.cells #[.bool pf, .bool pm, .int .i64 (toldK s key), .int .i64 (toldT s key)] 39))
              generalize (w4.alloc (.cells #[.slice a4 n c4, .int .i64 ((s.put zeroI key (.int .i64 thing)).hand : Int)] 29)).alloc (.cells #[.bool pf, .bool pm, .int .i64 (toldK s key), .int .i64 (toldT s key)] 39) = wb at hr4 hrp hb5 hp5 hbb ⊢
              have n0 : wb.cell? ⟨w4.heap.size, 0, none⟩ = some (.slice a4 n c4) := blk_cell hr4 0
              have n1 : wb.cell? ⟨w4.heap.size, 1, none⟩ = some (.int .i64 ((s.put zeroI key (.int .i64 thing)).hand : Int)) := blk_cell hr4 1
              have HST := Lib.hid (HS3.out.put hb5 hp5 ((s.put zeroI key (.int .i64 thing)).hand : Int))
              have HRB := Lib.hid (HS3.out.next hb5).rb
              have HYB := Lib.hid ((setRow_other wb R Y (ckC (.slice a4 n c4) ((s.put zeroI key (.int .i64 thing)).hand : Int)) (by have := HYR.out; omega)).trans ((hb5.block Y (blk_lt HY.out)).trans HY.out))
              have HPB := Lib.hid ((setRow_other wb R (w4.heap.size + 1) (ckC (.slice a4 n c4) ((s.put zeroI key (.int .i64 thing)).hand : Int)) (by have := HW4.out; omega)).trans hrp)
              have HOK := Lib.hid HS3.out.ck.ok
              clear hr4 hrp hbb hb5 hp5 HP4 HB4 x0 x1 y0 y1 y2 HGT HGF HD HP HP1 HP2 HLI
              go_upto_region 14 with (refine wpList_store_row (o := ⟨none, _, _, _, _, _⟩) rfl 29 (.tmp 6) (.tmp 82) rfl R (ckC (.slice a4 n c4) ((s.put zeroI key (.int .i64 thing)).hand : Int)) rfl rfl 29 (ckC (.slice a3 n c3) (s.hand : Int)) HRB.out (ckC_sz _ _) rfl ?_ ?_; exact ckC_one _ _ _ _)
              change (Code.region _ _ _).wp _ _ _ (wb.setRow R (ckC (.slice a4 n c4) ((s.put zeroI key (.int .i64 thing)).hand : Int)))
              generalize wb.setRow R (ckC (.slice a4 n c4) ((s.put zeroI key (.int .i64 thing)).hand : Int)) = w5 at HST HYB HPB ⊢
              have y1 : w5.cell? ⟨Y, 1, none⟩ = some (.int .i64 key) := blk_cell HYB.out 1
              have y2 : w5.cell? ⟨Y, 2, none⟩ = some (.int .i64 thing) := blk_cell HYB.out 2
              have HPU := Lib.hid (put_any HST.out.ck key thing)
              rw [told_int HOK.out HST.out.ck.things key] at HPU
              clear n0 n1
              go_wp2_with (go_at_call 14; (with_reducible refine HPU.out.mono ?_); rintro e w7 ⟨rfl, h7, m7⟩; have H7 := Lib.hid h7; have hpb := (m7.block _ (blk_lt HPB.out) (by have h1 := HW4.out; have h2 := HST.out.ck.lo; have h3 := ck_ne HST.out.ck HST.out.rb; have h4 : w.heap.size + 2 < R := (by have h5 := HST.out.ck.lt; exact HCR.out); omega)).trans HPB.out; have p2 : w7.cell? ⟨w4.heap.size + 1, 2, none⟩ = some (.int .i64 (toldK s key)) := blk_cell hpb 2; have p3 : w7.cell? ⟨w4.heap.size + 1, 3, none⟩ = some (.int .i64 (toldT s key)) := blk_cell hpb 3; have M7 := Lib.hid m7; clear h7 m7 hpb)
              go_meet
              exact ⟨_, s.put zeroI key (.int .i64 thing), _, rfl, Stored.step (s' := s.put zeroI key (.int .i64 thing)) HST.out H7.out (put_len2 s key _) M7.out⟩
      case rest =>
        obtain ⟨wz, s2, v2, rfl, hS2⟩ := hcut
        obtain ⟨a5, c5, e5⟩ := hS2.pls.slice
        rw [hS2.len] at e5
        subst e5
        clear HS3 HY HSR
        go_upto_region 33 with (fail)
        have HS2 := Lib.hid hS2
        obtain ⟨ks, hks⟩ : ∃ ks, keysF s2.ps = ks := ⟨_, rfl⟩
        have HKL : Hid (ks.length ≤ 4096) := by
          unfold Hid
          have h1 := keysF_m hS2.ck.ok
          have h2 : s2.m.length ≤ s2.ps.length := by rw [hS2.ck.ok.len]; exact List.countP_le_length
          have h3 := hS2.ck.ok.n2
          rw [← hks]; omega
        have HROOM := Lib.hid (fun (W : World) (hb : Below wz.heap.size wz W) => (show Calls Try.prog 5 #[.pointer (some ⟨w.heap.size + 2, 0, none⟩)] W (fun e w' => e = .returned (.int .i64 n) ∧ W = w') from by have := room_any (hS2.ck.same hb); rwa [hS2.len] at this))
        have HLEN := Lib.hid (fun (W : World) (hb : Below wz.heap.size wz W) => (show Calls Try.prog 15 #[.pointer (some ⟨w.heap.size + 2, 0, none⟩)] W (fun e w' => e = .returned (.int .i64 ks.length) ∧ W = w') from by have := len_any (hS2.ck.same hb); rwa [keysF_m hS2.ck.ok, hks] at this))
        have HCK := Lib.hid (fun (W : World) (hb : Below wz.heap.size wz W) => (show Calls Try.prog 18 #[.pointer (some ⟨w.heap.size + 2, 0, none⟩)] W (KeysDid ks W) from by have := keys_any (hS2.ck.same hb); rwa [hks] at this))
        have HRK := Lib.hid (fun (W : World) (hb : Below wz.heap.size wz W) => (show Calls Try.prog 16 #[.agg #[.slice a5 n c5, .int .i64 s2.hand]] W (KeysDid ks W) from by have := refKeys_any (hS2.pls.next hb) hS2.ck.ok.n2 s2.hand; rwa [hks] at this))
        have HRB := Lib.hid hS2.rb
        have r0 : wz.cell? ⟨R, 0, none⟩ = some (.slice a5 n c5) := blk_cell hS2.rb 0
        have r1 : wz.cell? ⟨R, 1, none⟩ = some (.int .i64 s2.hand) := blk_cell hS2.rb 1
        have HBC : Hid (Below wz.heap.size wz wz.drew) := (Below.refl _ _).drew
        have HKA : Hid True := trivial
        have HKB : Hid True := trivial
        clear hS2 hks
        go_cut [195] (fun s195 wx => s195 = .bool false ∧ ∃ wy, wy = wx ∧ Below wz.heap.size wz wy)
        case first =>
          go_region_with (first
            | (go_at_call 5; (with_reducible refine (HROOM.out _ HBC.out).mono ?_); rintro e w8 ⟨rfl, hw8⟩; obtain rfl := hw8.symm)
            | (go_at_call 15; (with_reducible refine (HLEN.out _ HBC.out).mono ?_); rintro e w8 ⟨rfl, hw8⟩; obtain rfl := hw8.symm)
            | (go_at_call 18; (with_reducible refine (HCK.out _ HBC.out).mono ?_); rintro e w8 ⟨v8, rfl, hi8, hb8⟩; obtain ⟨a8, c8, rfl⟩ := hi8.slice; have HBD := Lib.hid (HBC.out.trans (hb8.mono HBC.out.size)); (try (have HKD := Lib.hid (IntsAt.next HKB.out hb8); clear HKB; have HKB := HKD; clear HKD)); clear HBC HKA; have HBC := HBD; clear HBD; have HKA := Lib.hid hi8; have r0' := (HBC.out.cell (p := ⟨R, 0, none⟩) (blk_lt HRB.out)).trans (blk_cell HRB.out 0); have r1' := (HBC.out.cell (p := ⟨R, 1, none⟩) (blk_lt HRB.out)).trans (blk_cell HRB.out 1); simp only [ckC, List.getElem?_toArray, List.getElem?_cons_zero, List.getElem?_cons_succ] at r0' r1'; clear hi8 hb8)
            | (go_at_call 16; (with_reducible refine (HRK.out _ HBC.out).mono ?_); rintro e w8 ⟨v8, rfl, hi8, hb8⟩; obtain ⟨a8, c8, rfl⟩ := hi8.slice; have HBD := Lib.hid (HBC.out.trans (hb8.mono HBC.out.size)); (try (have HKD := Lib.hid (IntsAt.next HKA.out hb8); clear HKA; have HKA := HKD; clear HKD)); clear HBC HKB; have HBC := HBD; clear HBD; have HKB := Lib.hid hi8; have r0' := (HBC.out.cell (p := ⟨R, 0, none⟩) (blk_lt HRB.out)).trans (blk_cell HRB.out 0); have r1' := (HBC.out.cell (p := ⟨R, 1, none⟩) (blk_lt HRB.out)).trans (blk_cell HRB.out 1); simp only [ckC, List.getElem?_toArray, List.getElem?_cons_zero, List.getElem?_cons_succ] at r0' r1'; clear hi8 hb8)
            | (go_at_call 17; (with_reducible refine (same_yes HKA.out HKB.out HKL.out).mono ?_); rintro e w8 ⟨rfl, hb8⟩; have HBD := Lib.hid (HBC.out.trans (hb8.mono HBC.out.size)); clear HBC; have HBC := HBD; clear HBD hb8))
          all_goals (go_wp2_with fail)
          all_goals go_meet
          all_goals exact ⟨rfl, _, rfl, HBC.out⟩
        case rest =>
          obtain ⟨rfl, wy, rfl, hB9⟩ := hcut
          have H9 := Lib.hid (HS2.out.next hB9)
          clear hB9 r0 r1
          go_wp2
          go_roundw
          case rel => exact ⟨k + 1, by have := HLT.out; omega, by go_num, _, _, H9.out⟩
          case measure => have := HLT.out; simp [intOf]; omega
    · obtain rfl : k = l.length := by omega
      have HB := Lib.hid hS.below
      clear hS
      go_wp2_with (go_at_call 6; (with_reducible refine (awake08 _).mono ?_); rintro e w7 ⟨rfl, hb7⟩)
      go_ret
      exact ⟨rfl, HB.out.trans (hb7.mono HB.out.size)⟩

set_option maxRecDepth 100000 in
theorem clockPlays_lifted (os : Os) (started : os.Started) (H : Type) (enc : TypeId × Value → H) :
    ReturnsInHanded {} Try.checked os 3 .any (Rows.clockPlaysSpec.pre6 enc Try.prog Try.f3 Rows.clockPlaysRow.domain false) (Rows.clockPlaysSpec.post enc Try.prog Try.f3 false true false false) :=
  law_lifted 3 Try.f3 Rows.clockPlaysSpec Try.func3 (by kernel_rfl) rfl rfl
    (fun ds h => by match ds, h with | [_, _], _ => rfl) (by kernel_rfl) os started
    (ChangeSpec.witness6 (enc := enc) (C := Try.checked) false ⟨#[], #[.int .i64 0, .slice none 0 0], []⟩ 8 (by kernel_rfl) (by kernel_rfl) (by kernel_rfl) (by kernel_rfl))
    fun W args ds ps hval hA => by
      rw [Try.params3] at hA hval
      obtain ⟨v0, vs0, d0, ds0, p0, q0, hargs, rfl, rfl, h0, r0⟩ := trodAll_cons hA
      obtain ⟨v1, vs1, d1, ds1, p1, q1, rfl, rfl, rfl, h1, r1⟩ := trodAll_cons r0
      obtain ⟨rfl, rfl, rfl⟩ := trodAll_nil r1
      obtain rfl : args = #[v0, v1] := by cases args; simp_all
      obtain ⟨b0, o0⟩ := hval 0 _ v0 rfl rfl
      obtain ⟨b1, o1⟩ := hval 1 _ v1 rfl rfl
      obtain ⟨a0, rfl, rfl, rfl, w0⟩ := open_int Try.underlying3 o0 h0
      obtain ⟨l1, hb1, hm1⟩ := open_acts8 o1 h1
      exact clockPlays_walk a0 l1 _ W hb1 hm1

/-- The statement. -/
theorem clockPlays_holds : Rows.ClockPlaysSaid :=
  OpenClaim.holds_of_wide 3 Try.f3 rfl rfl rfl rfl rfl rfl rfl ⟨rfl, rfl, rfl, rfl, rfl⟩ rfl rfl rfl rfl rfl (by kernel_rfl) Try.func3 (by kernel_rfl)
    (of_decide_eq_true (by kernel_rfl)) (by unfold Func.isWrapper; first | (rw [if_pos (by decide +kernel)]; kernel_rfl) | (rw [if_neg (by decide +kernel)]; exact ⟨rfl, rfl⟩))
    (fun os started H enc _ => clockPlays_lifted os started H enc)
#print axioms clockPlays_holds

end Go.Proofs.Ytadhkciggiefbaa

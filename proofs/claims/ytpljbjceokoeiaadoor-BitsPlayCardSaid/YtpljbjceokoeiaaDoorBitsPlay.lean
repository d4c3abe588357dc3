/-
  Proved: a set, whatever is taken, marked, freed, has the numbers of the document. Whatever number and acts come in, the law BitsPlay answers true and the arguments read as they did. The package-level variable math/bits.deBruijn64tab is listed and tied to the program's text.
  Conditions: none.
-/
import Derived.Test.YtpljbjceokoeiaaDoorPl7P
import Derived.Test.YtpljbjceokoeiaaDoorLawD
import Derived.Test.YtpljbjceokoeiaaDoorCards
import Derived.Test.YtpljbjceokoeiaaDoorTie
import Derived.Deep.CutBlock
import Derived.Deep.CutRange
namespace Go.Proofs.YtpljbjceokoeiaaDoor
open Go.ChangeShapes Go.WideShapes Go.ChangeAt Go.RowKit

set_option maxRecDepth 100000 in
set_option maxHeartbeats 16000000 in
theorem bitsPlay_walk (room : Int) (l : List Act7) (v : Value) (w : World) (hv : ActsAt7 w.heap.size w v l) (hm : l.length ≤ maxLen) (hT : Tab w) : Calls Tryd.prog 3 #[.int .i64 room, v] w (Good w) := by
  unfold maxLen at hm
  obtain ⟨a, cap, rfl, hlc, hwf, hv⟩ := hv
  by_cases hbig : 200 < l.length
  · have b1 : (200 : Int) < l.length := by omega
    clear hwf hv hT
    go_enter Tryd.func3, Tryd.ntmps3
    go_wp2
    go_ret
    exact ⟨rfl, Below.refl _ _⟩
  have b1 : (l.length : Int) ≤ 200 := by omega
  by_cases hr0 : room < 1
  · have HNW := Lib.hid (new_out room (.inl hr0))
    have hr2 : room ≤ 300 := by omega
    clear hwf hv hbig hT
    go_enter Tryd.func3, Tryd.ntmps3
    go_wp2_with (first
      | (go_at_call 5; (with_reducible refine (HNW.out _).mono ?_); rintro e w1 ⟨rfl, rfl⟩)
      | (go_at_call 6; (with_reducible refine (room7_nil _).mono ?_); rintro e w1 ⟨rfl, rfl⟩)
      | (go_at_call 7; (with_reducible refine (awake07 _).mono ?_); rintro e w7 ⟨rfl, hb7⟩))
    go_ret
    exact ⟨rfl, hb7⟩
  have r1 : 1 ≤ room := by omega
  by_cases hr1 : 65536 < room
  · have HNW := Lib.hid (new_out room (.inr hr1))
    have hr2 : 300 < room := by omega
    clear hwf hv hbig hr0 hT
    go_enter Tryd.func3, Tryd.ntmps3
    go_wp2_with (first
      | (go_at_call 5; (with_reducible refine (HNW.out _).mono ?_); rintro e w1 ⟨rfl, rfl⟩)
      | (go_at_call 6; (with_reducible refine (room7_nil _).mono ?_); rintro e w1 ⟨rfl, rfl⟩)
      | (go_at_call 7; (with_reducible refine (awake07 _).mono ?_); rintro e w7 ⟨rfl, hb7⟩))
    go_ret
    exact ⟨rfl, hb7⟩
  have r2 : room ≤ 65536 := by omega
  by_cases hr2 : 300 < room
  · clear hwf hv hbig hr0 hr1 hT
    go_enter Tryd.func3, Tryd.ntmps3
    go_wp2
    go_ret
    exact ⟨rfl, Below.refl _ _⟩
  have r3 : room ≤ 300 := by omega
  obtain ⟨n, rfl⟩ : ∃ n : Nat, room = n := ⟨room.toNat, by omega⟩
  have hn : 1 ≤ n ∧ n ≤ 300 := by omega
  have HNEW := Lib.hid (new_any w.heap.size n (by omega) w (Nat.le_refl _))
  have HN := Lib.hid hn
  have HT := Lib.hid hT
  clear hr0 hr1 hr2 hbig hn hT
  go_enter Tryd.func3, Tryd.ntmps3
  go_upto_region 6 with (go_at_call 5; (with_reducible refine HNEW.out.mono ?_); rintro e w1 ⟨rfl, hw1, hb1⟩; have HC1 := Lib.hid hw1; have HB1 := Lib.hid hb1; clear hw1 hb1)
  go_upto_region 7 with (go_at_call 8; (with_reducible refine (refNew_any n (by have := HN.out; omega) _).mono ?_); rintro e w2 ⟨v2, rfl, hp2, hb2⟩; have HP2 := Lib.hid hp2; obtain ⟨a2, c2, rfl⟩ := hp2.slice; have HB2 := Lib.hid hb2; clear hp2 hb2)
  have hz1 : w1.heap.size ≤ w2.heap.size := HB2.out.size
  have hz0 : w.heap.size ≤ w1.heap.size := HB1.out.size

  have HS : Hid (PlayAt w w2.heap.size n (w2.alloc (.cells #[.slice a2 n c2, .int .i64 0] 29)) (w.heap.size + 1) w.heap.size ((n + 63) / 64) (BSet.new n) (BSet.new n) (.slice a2 n c2) (List.replicate n false)) := by
    have hb3 : Below w2.heap.size w2 (w2.alloc (.cells #[.slice a2 n c2, .int .i64 0] 29)) := (Below.refl _ _).alloc (Nat.le_refl _) _
    have hp := HP2.out
    rw [List.length_replicate] at hp
    exact ⟨(HC1.out.same HB2.out).same hb3, heap_alloc_new _ _, hp.next hb3, used_new n (by have := HN.out; omega), rfl, rfl, (HB1.out.trans (HB2.out.mono hz0)).trans (hb3.mono (by omega)), by omega⟩
  clear HC1 HB1 HP2 HB2 HNEW
  change (Code.region _ _ _).wp _ _ _ (w2.alloc (.cells #[.slice a2 n c2, .int .i64 0] 29))
  generalize w2.alloc (.cells #[.slice a2 n c2, .int .i64 0] 29) = w3 at HS ⊢
  generalize w2.heap.size = R at HS ⊢
  clear hz0 hz1
  go_wp2
  go_loopw [5, 7] (fun sv iv wr => ∃ (k D g cc : Nat) (s : BSet) (v' : Value) (l' : List Bool), k ≤ l.length ∧ iv = .int .i64 k ∧ sv = .pointer (some ⟨D, 0, none⟩) ∧ PlayAt w R n wr D g cc s s v' l') (fun _ iv _ => l.length - (intOf iv).toNat)
  case atStart => exact ⟨0, _, _, _, _, _, _, by omega, rfl, rfl, HS.out⟩
  case round =>
    obtain ⟨k, D, g, cc, s, v', l', hk, rfl, rfl, hS⟩ := hrel
    by_cases hlt : k < l.length
    · have i1 : (k : Int) < l.length := by omega
      obtain ⟨ga, off, rfl, hga, hcells⟩ : ∃ g off, a = some ⟨g, off, none⟩ ∧ g < w.heap.size ∧ ∀ i, i < l.length → ActAt7 w g (off + i * 2) (l[i]?.getD default) := by
        rcases hv with h | h
        · subst h; simp at hlt
        · exact h
      have hat := hcells k hlt
      clear hv hcells hwf
      generalize l[k]?.getD default = act at hat
      obtain ⟨kind, x⟩ := act
      obtain ⟨c0, c1⟩ := hat.below hS.below hga
      obtain ⟨a3, c3, e3⟩ := hS.row.slice
      rw [hS.len] at e3
      subst e3
      have HLT := Lib.hid hlt
      have HS3 := Lib.hid hS
      clear hS hlt hga hat
      go_upto_block 2 with (fail)
      clear c0 c1
      go_cut [5, 9, 10, 11, 12, 13, 14, 15, 16, 17] from 49 to 154 (fun s5 _s9 _s10 _s11 _s12 _s13 _s14 _s15 _s16 _s17 wx => ∃ wz D g cc s2 v2 l2, wz = wx ∧ s5 = .pointer (some ⟨D, 0, none⟩) ∧ PlayAt w R n wz D g cc s2 s2 v2 l2)
      case first =>
        have x0 : wr.cell? ⟨R, 0, none⟩ = some (.slice a3 n c3) := blk_cell HS3.out.rb 0
        have x1 : wr.cell? ⟨R, 1, none⟩ = some (.int .i64 s.hand) := blk_cell HS3.out.rb 1
        cases hk3 : ((wrap64 (kind.tmod 7 + 7)).tmod 7 == 3) with
        | true =>
          have q3 : (wrap64 (kind.tmod 7 + 7)).tmod 7 = 3 := by simpa using hk3
          have HRC := Lib.hid (refMark_any HS3.out.row HS3.out.used x)
          go_upto_region 19 with (go_at_call 9; (with_reducible refine HRC.out.mono ?_); rintro e w4 ⟨v4, l4, rfl, hp4, hu4, hb4⟩; obtain ⟨a4, c4, e4⟩ := hp4.slice; rw [hu4.len, mark_n, HS3.out.n1] at e4; subst e4; have HP4 := Lib.hid hp4; have HU4 := Lib.hid hu4; have HB4 := Lib.hid hb4; clear hp4 hu4 hb4)
          have hr4 := heap_alloc_new w4 (.cells #[.slice a4 n c4, .int .i64 (s.markI x).hand] 29)
          have hb5 : Below wr.heap.size wr (w4.alloc (.cells #[.slice a4 n c4, .int .i64 (s.markI x).hand] 29)) := HB4.out.alloc HB4.out.size _
          have hp5 := HP4.out.next ((Below.refl _ w4).alloc (Nat.le_refl _) (.cells #[.slice a4 n c4, .int .i64 (s.markI x).hand] 29))
          change (Code.region _ _ _).wp _ _ _ (w4.alloc (.cells #[.slice a4 n c4, .int .i64 (s.markI x).hand] 29))
          generalize w4.alloc (.cells #[.slice a4 n c4, .int .i64 (s.markI x).hand] 29) = wb at hr4 hb5 hp5 ⊢
          have n0 : wb.cell? ⟨w4.heap.size, 0, none⟩ = some (.slice a4 n c4) := blk_cell hr4 0
          have n1 : wb.cell? ⟨w4.heap.size, 1, none⟩ = some (.int .i64 (s.markI x).hand) := blk_cell hr4 1
          have HST := Lib.hid (HS3.out.put hb5 hp5 HU4.out (by rw [mark_n]; exact HS3.out.n1))
          have HRB := Lib.hid (HS3.out.next hb5).rb
          clear hr4 hb5 hp5 HP4 HB4 HU4 x0 x1
          go_upto_region 20 with (refine wpList_store_row (o := ⟨none, _, _, _, _, _⟩) rfl 29 (.tmp 6) (.tmp 107) rfl R (bsC (.slice a4 n c4) ((s.markI x).hand : Int)) rfl rfl 29 (bsC (.slice a3 n c3) (s.hand : Int)) HRB.out (bsC_sz _ _) rfl ?_ ?_; exact bsC_one _ _ _ _)
          change (Code.region _ _ _).wp _ _ _ (wb.setRow R (bsC (.slice a4 n c4) ((s.markI x).hand : Int)))
          generalize wb.setRow R (bsC (.slice a4 n c4) ((s.markI x).hand : Int)) = w5 at HST ⊢
          clear n0 n1
          have HMK := Lib.hid (mark_any HST.out.set x)
          generalize s.freeB x = fb at HMK ⊢
          go_wp2_with (go_at_call 10; (with_reducible refine HMK.out.mono ?_); rintro e w7 ⟨rfl, h7, m7⟩; have H7 := Lib.hid h7; have M7 := Lib.hid m7; clear h7 m7)
          go_meet
          exact ⟨_, D, g, cc, s.markI x, _, _, rfl, rfl, HST.out.step H7.out M7.out⟩
        | false =>
          cases hk4 : ((wrap64 (kind.tmod 7 + 7)).tmod 7 == 4) with
          | true =>
            have HRC := Lib.hid (refClear_any HS3.out.row HS3.out.used x)
            go_upto_region 24 with (go_at_call 11; (with_reducible refine HRC.out.mono ?_); rintro e w4 ⟨v4, l4, rfl, hp4, hu4, hb4⟩; obtain ⟨a4, c4, e4⟩ := hp4.slice; rw [hu4.len, clear_n, HS3.out.n1] at e4; subst e4; have HP4 := Lib.hid hp4; have HU4 := Lib.hid hu4; have HB4 := Lib.hid hb4; clear hp4 hu4 hb4)
            have hr4 := heap_alloc_new w4 (.cells #[.slice a4 n c4, .int .i64 (s.clearI x).hand] 29)
            have hb5 : Below wr.heap.size wr (w4.alloc (.cells #[.slice a4 n c4, .int .i64 (s.clearI x).hand] 29)) := HB4.out.alloc HB4.out.size _
            have hp5 := HP4.out.next ((Below.refl _ w4).alloc (Nat.le_refl _) (.cells #[.slice a4 n c4, .int .i64 (s.clearI x).hand] 29))
            change (Code.region _ _ _).wp _ _ _ (w4.alloc (.cells #[.slice a4 n c4, .int .i64 (s.clearI x).hand] 29))
            generalize w4.alloc (.cells #[.slice a4 n c4, .int .i64 (s.clearI x).hand] 29) = wb at hr4 hb5 hp5 ⊢
            have n0 : wb.cell? ⟨w4.heap.size, 0, none⟩ = some (.slice a4 n c4) := blk_cell hr4 0
            have n1 : wb.cell? ⟨w4.heap.size, 1, none⟩ = some (.int .i64 (s.clearI x).hand) := blk_cell hr4 1
            have HST := Lib.hid (HS3.out.put hb5 hp5 HU4.out (by rw [clear_n]; exact HS3.out.n1))
            have HRB := Lib.hid (HS3.out.next hb5).rb
            clear hr4 hb5 hp5 HP4 HB4 HU4 x0 x1
            go_upto_region 25 with (refine wpList_store_row (o := ⟨none, _, _, _, _, _⟩) rfl 29 (.tmp 6) (.tmp 121) rfl R (bsC (.slice a4 n c4) ((s.clearI x).hand : Int)) rfl rfl 29 (bsC (.slice a3 n c3) (s.hand : Int)) HRB.out (bsC_sz _ _) rfl ?_ ?_; exact bsC_one _ _ _ _)
            change (Code.region _ _ _).wp _ _ _ (wb.setRow R (bsC (.slice a4 n c4) ((s.clearI x).hand : Int)))
            generalize wb.setRow R (bsC (.slice a4 n c4) ((s.clearI x).hand : Int)) = w5 at HST ⊢
            clear n0 n1
            have HMK := Lib.hid (clear_any HST.out.set x)
            generalize s.hasB x = fb at HMK ⊢
            go_wp2_with (go_at_call 12; (with_reducible refine HMK.out.mono ?_); rintro e w7 ⟨rfl, h7, m7⟩; have H7 := Lib.hid h7; have M7 := Lib.hid m7; clear h7 m7)
            go_meet
            exact ⟨_, D, g, cc, s.clearI x, _, _, rfl, rfl, HST.out.step H7.out M7.out⟩
          | false =>
            cases hk5 : ((wrap64 (kind.tmod 7 + 7)).tmod 7 == 5) with
            | true =>
              have HHB := Lib.hid (fun (W : World) (hb : Below wr.heap.size wr W) => has_any (HS3.out.next hb).set x)
              have HHR := Lib.hid (fun (W : World) (hb : Below wr.heap.size wr W) => (show Calls Tryd.prog 14 #[.agg #[.slice a3 n c3, .int .i64 s.hand], .int .i64 x] W (fun e w' => e = .returned (.bool (s.hasB x)) ∧ Below W.heap.size W w') from refHas_any (HS3.out.next hb).row HS3.out.used s.hand x))
              have HRB := Lib.hid HS3.out.rb
              have HBC : Hid (Below wr.heap.size wr wr.drew) := (Below.refl _ _).drew
              generalize s.hasB x = hx at HHB HHR
              go_upto_region 28 with (fail)
              go_region_with (first
                | (go_at_call 13; (with_reducible refine (HHB.out _ HBC.out).mono ?_); rintro e w8 ⟨rfl, q8, hw8⟩; have HBD : Hid (Below wr.heap.size wr w8) := (by rw [hw8]; exact below_drewI HBC.out q8); clear HBC hw8; have HBC := HBD; clear HBD; have r0' := (HBC.out.cell (p := ⟨R, 0, none⟩) (blk_lt HRB.out)).trans (blk_cell HRB.out 0); have r1' := (HBC.out.cell (p := ⟨R, 1, none⟩) (blk_lt HRB.out)).trans (blk_cell HRB.out 1); simp only [bsC, List.getElem?_toArray, List.getElem?_cons_zero, List.getElem?_cons_succ] at r0' r1')
                | (go_at_call 14; (with_reducible refine (HHR.out _ HBC.out).mono ?_); rintro e w8 ⟨rfl, hb8⟩; have HBD := Lib.hid (HBC.out.trans (hb8.mono HBC.out.size)); clear HBC; have HBC := HBD; clear HBD hb8))
              all_goals (go_wp2_with fail)
              all_goals go_meet
              all_goals exact ⟨_, D, g, cc, s, _, _, rfl, rfl, HS3.out.next HBC.out⟩
            | false =>
              cases hk6 : ((wrap64 (kind.tmod 7 + 7)).tmod 7 == 6) with
              | true =>
                have HCP := Lib.hid (copy_any HS3.out.set)
                go_wp2_with (first
                  | (go_at_call 15; (with_reducible refine HCP.out.mono ?_); rintro e w4 ⟨g4, c4, rfl, hb4, hw4⟩; have H4 := Lib.hid hb4; have W4 := Lib.hid hw4; have HTK := Lib.hid (take_any (HS3.out.next hw4).set); clear hb4 hw4)
                  | (go_at_call 16; (with_reducible refine HTK.out.mono ?_); rintro e w5 ⟨rfl, _, hm5⟩; have M5 := Lib.hid hm5; clear hm5))
                go_meet
                exact ⟨_, _, g4, c4, s, _, _, rfl, rfl, HS3.out.copied W4.out H4.out M5.out⟩
              | false =>
                by_cases hnx : s.next < s.n
                · have HTI : takeI s = (s.next : Int) := by unfold takeI; rw [if_pos hnx]
                  have HTR : takeRes s.n s.next = .tuple #[.int .i64 s.next, .bool true] := by unfold takeRes; rw [if_pos hnx]
                  have HRC := Lib.hid ((show Calls Tryd.prog 17 #[.agg #[.slice a3 n c3, .int .i64 s.hand]] wr (fun e w2 => ∃ v l, e = .returned (.tuple #[.agg #[v, .int .i64 s.take.hand], .int .i64 ((s.next : Int))]) ∧ BoolsAt w2.heap.size w2 v l ∧ UsedIs s.take.n s.take l ∧ Below wr.heap.size wr w2) from (by have := refTake_any HS3.out.row HS3.out.used; unfold RefTook at this; rw [HTI] at this; exact this)))
                  go_upto_region 13 with (go_at_call 17; (with_reducible refine HRC.out.mono ?_); rintro e w4 ⟨v4, l4, rfl, hp4, hu4, hb4⟩; obtain ⟨a4, c4, e4⟩ := hp4.slice; rw [hu4.len, take_n, HS3.out.n1] at e4; subst e4; have HP4 := Lib.hid hp4; have HU4 := Lib.hid hu4; have HB4 := Lib.hid hb4; clear hp4 hu4 hb4)
                  have hr4 := heap_alloc_new w4 (.cells #[.slice a4 n c4, .int .i64 (s.take).hand] 29)
                  have hb5 : Below wr.heap.size wr (w4.alloc (.cells #[.slice a4 n c4, .int .i64 (s.take).hand] 29)) := HB4.out.alloc HB4.out.size _
                  have hp5 := HP4.out.next ((Below.refl _ w4).alloc (Nat.le_refl _) (.cells #[.slice a4 n c4, .int .i64 (s.take).hand] 29))
                  change (Code.region _ _ _).wp _ _ _ (w4.alloc (.cells #[.slice a4 n c4, .int .i64 (s.take).hand] 29))
                  generalize w4.alloc (.cells #[.slice a4 n c4, .int .i64 (s.take).hand] 29) = wb at hr4 hb5 hp5 ⊢
                  have n0 : wb.cell? ⟨w4.heap.size, 0, none⟩ = some (.slice a4 n c4) := blk_cell hr4 0
                  have n1 : wb.cell? ⟨w4.heap.size, 1, none⟩ = some (.int .i64 (s.take).hand) := blk_cell hr4 1
                  have HST := Lib.hid (HS3.out.put hb5 hp5 HU4.out (by rw [take_n]; exact HS3.out.n1))
                  have HRB := Lib.hid (HS3.out.next hb5).rb
                  clear hr4 hb5 hp5 HP4 HB4 HU4 x0 x1
                  go_upto_region 14 with (refine wpList_store_row (o := ⟨none, _, _, _, _, _⟩) rfl 29 (.tmp 6) (.tmp 73) rfl R (bsC (.slice a4 n c4) ((s.take).hand : Int)) rfl rfl 29 (bsC (.slice a3 n c3) (s.hand : Int)) HRB.out (bsC_sz _ _) rfl ?_ ?_; exact bsC_one _ _ _ _)
                  change (Code.region _ _ _).wp _ _ _ (wb.setRow R (bsC (.slice a4 n c4) ((s.take).hand : Int)))
                  generalize wb.setRow R (bsC (.slice a4 n c4) ((s.take).hand : Int)) = w5 at HST ⊢
                  clear n0 n1
                  have HTK := take_any HST.out.set
                  rw [HTR] at HTK
                  have HTK := Lib.hid HTK
                  clear HTI HTR
                  generalize s.next = q at HTK ⊢
                  have q0 : (0 : Int) ≤ (q : Int) := by omega
                  go_wp2_with (go_at_call 16; (with_reducible refine HTK.out.mono ?_); rintro e w7 ⟨rfl, h7, m7⟩; have H7 := Lib.hid h7; have M7 := Lib.hid m7; clear h7 m7)
                  go_meet
                  exact ⟨_, D, g, cc, s.take, _, _, rfl, rfl, HST.out.step H7.out M7.out⟩
                · have HTI : takeI s = -1 := by unfold takeI; rw [if_neg hnx]
                  have HTR : takeRes s.n s.next = .tuple #[.int .i64 0, .bool false] := by unfold takeRes; rw [if_neg hnx]
                  have HRC := Lib.hid ((show Calls Tryd.prog 17 #[.agg #[.slice a3 n c3, .int .i64 s.hand]] wr (fun e w2 => ∃ v l, e = .returned (.tuple #[.agg #[v, .int .i64 s.take.hand], .int .i64 (-1)]) ∧ BoolsAt w2.heap.size w2 v l ∧ UsedIs s.take.n s.take l ∧ Below wr.heap.size wr w2) from (by have := refTake_any HS3.out.row HS3.out.used; unfold RefTook at this; rw [HTI] at this; exact this)))
                  go_upto_region 13 with (go_at_call 17; (with_reducible refine HRC.out.mono ?_); rintro e w4 ⟨v4, l4, rfl, hp4, hu4, hb4⟩; obtain ⟨a4, c4, e4⟩ := hp4.slice; rw [hu4.len, take_n, HS3.out.n1] at e4; subst e4; have HP4 := Lib.hid hp4; have HU4 := Lib.hid hu4; have HB4 := Lib.hid hb4; clear hp4 hu4 hb4)
                  have hr4 := heap_alloc_new w4 (.cells #[.slice a4 n c4, .int .i64 (s.take).hand] 29)
                  have hb5 : Below wr.heap.size wr (w4.alloc (.cells #[.slice a4 n c4, .int .i64 (s.take).hand] 29)) := HB4.out.alloc HB4.out.size _
                  have hp5 := HP4.out.next ((Below.refl _ w4).alloc (Nat.le_refl _) (.cells #[.slice a4 n c4, .int .i64 (s.take).hand] 29))
                  change (Code.region _ _ _).wp _ _ _ (w4.alloc (.cells #[.slice a4 n c4, .int .i64 (s.take).hand] 29))
                  generalize w4.alloc (.cells #[.slice a4 n c4, .int .i64 (s.take).hand] 29) = wb at hr4 hb5 hp5 ⊢
                  have n0 : wb.cell? ⟨w4.heap.size, 0, none⟩ = some (.slice a4 n c4) := blk_cell hr4 0
                  have n1 : wb.cell? ⟨w4.heap.size, 1, none⟩ = some (.int .i64 (s.take).hand) := blk_cell hr4 1
                  have HST := Lib.hid (HS3.out.put hb5 hp5 HU4.out (by rw [take_n]; exact HS3.out.n1))
                  have HRB := Lib.hid (HS3.out.next hb5).rb
                  clear hr4 hb5 hp5 HP4 HB4 HU4 x0 x1
                  go_upto_region 14 with (refine wpList_store_row (o := ⟨none, _, _, _, _, _⟩) rfl 29 (.tmp 6) (.tmp 73) rfl R (bsC (.slice a4 n c4) ((s.take).hand : Int)) rfl rfl 29 (bsC (.slice a3 n c3) (s.hand : Int)) HRB.out (bsC_sz _ _) rfl ?_ ?_; exact bsC_one _ _ _ _)
                  change (Code.region _ _ _).wp _ _ _ (wb.setRow R (bsC (.slice a4 n c4) ((s.take).hand : Int)))
                  generalize wb.setRow R (bsC (.slice a4 n c4) ((s.take).hand : Int)) = w5 at HST ⊢
                  clear n0 n1
                  have HTK := take_any HST.out.set
                  rw [HTR] at HTK
                  have HTK := Lib.hid HTK
                  clear HTI HTR
                  go_wp2_with (go_at_call 16; (with_reducible refine HTK.out.mono ?_); rintro e w7 ⟨rfl, h7, m7⟩; have H7 := Lib.hid h7; have M7 := Lib.hid m7; clear h7 m7)
                  go_meet
                  exact ⟨_, D, g, cc, s.take, _, _, rfl, rfl, HST.out.step H7.out M7.out⟩
      case rest =>
        obtain ⟨wz, D2, g2, cc2, s2, v2, l2, rfl, rfl, hS2⟩ := hcut
        obtain ⟨a5, c5, e5⟩ := hS2.row.slice
        rw [hS2.len] at e5
        subst e5
        clear HS3
        go_upto_region 34 with (fail)
        have HS2 := Lib.hid hS2
        have HROOM := Lib.hid (fun (W : World) (hb : Below wz.heap.size wz W) => (show Calls Tryd.prog 6 #[.pointer (some ⟨D2, 0, none⟩)] W (fun e w' => e = .returned (.int .i64 n) ∧ W = w') from by have := room7_any (hS2.set.same hb); rwa [hS2.n1] at this))
        have HLEN := Lib.hid (fun (W : World) (hb : Below wz.heap.size wz W) => (show Calls Tryd.prog 18 #[.pointer (some ⟨D2, 0, none⟩)] W (fun e w' => e = .returned (.int .i64 s2.cnt) ∧ W = w') from count_any (hS2.set.same hb)))
        have HRK := Lib.hid (fun (W : World) (hb : Below wz.heap.size wz W) => (show Calls Tryd.prog 19 #[.agg #[.slice a5 n c5, .int .i64 s2.hand]] W (fun e w' => (∃ a c, e = .returned (.slice a s2.cnt c)) ∧ Below W.heap.size W w') from (refAll_any (hS2.row.next hb) hS2.used s2.hand).mono fun e w' ⟨v, he, hv, h2⟩ => by
          obtain ⟨a, c, rfl⟩ := hv.slice
          rw [natInts_len, show s2.all.length = s2.cnt from all_length s2] at he
          exact ⟨⟨a, c, he⟩, h2⟩))
        have HRB := Lib.hid hS2.rb
        have r0 : wz.cell? ⟨R, 0, none⟩ = some (.slice a5 n c5) := blk_cell hS2.rb 0
        have r1 : wz.cell? ⟨R, 1, none⟩ = some (.int .i64 s2.hand) := blk_cell hS2.rb 1
        have HBC : Hid (Below wz.heap.size wz wz.drew) := (Below.refl _ _).drew
        clear hS2
        go_cut [154] (fun s154 wx => s154 = .bool false ∧ ∃ wy, wy = wx ∧ Below wz.heap.size wz wy)
        case first =>
          generalize s2.cnt = m at HLEN HRK
          go_region_with (first
            | (go_at_call 6; (with_reducible refine (HROOM.out _ HBC.out).mono ?_); rintro e w8 ⟨rfl, hw8⟩; obtain rfl := hw8.symm)
            | (go_at_call 18; (with_reducible refine (HLEN.out _ HBC.out).mono ?_); rintro e w8 ⟨rfl, hw8⟩; obtain rfl := hw8.symm)
            | (go_at_call 19; (with_reducible refine (HRK.out _ HBC.out).mono ?_); rintro e w8 ⟨⟨a8, c8, rfl⟩, hb8⟩; have HBD := Lib.hid (HBC.out.trans (hb8.mono HBC.out.size)); clear HBC; have HBC := HBD; clear HBD hb8))
          all_goals (go_wp2_with fail)
          all_goals go_meet
          all_goals exact ⟨rfl, _, rfl, HBC.out⟩
        case rest =>
          obtain ⟨rfl, wy, rfl, hB9⟩ := hcut
          have H9 := Lib.hid (HS2.out.next hB9)
          clear hB9 r0 r1
          go_wp2
          go_roundw
          case rel => exact ⟨k + 1, D2, g2, cc2, s2, _, _, by have := HLT.out; omega, by go_num, rfl, H9.out⟩
          case measure => have := HLT.out; simp [intOf]; omega
    · obtain rfl : k = l.length := by omega
      obtain ⟨a5, c5, e5⟩ := hS.row.slice
      rw [hS.len] at e5
      subst e5
      have HS2 := Lib.hid hS
      have HAB := Lib.hid (fun (W : World) (hb : Below wr.heap.size wr W) => (show Calls Tryd.prog 21 #[.pointer (some ⟨D, 0, none⟩)] W (IntsDid (natInts s.all) W) from allB_any (hS.set.same hb) ((HT.out.next hS.below).next hb)))
      have HRK := Lib.hid (fun (W : World) (hb : Below wr.heap.size wr W) => (show Calls Tryd.prog 19 #[.agg #[.slice a5 n c5, .int .i64 s.hand]] W (IntsDid (natInts s.all) W) from refAll_any (hS.row.next hb) hS.used s.hand))
      have HKL : Hid ((natInts s.all).length ≤ 65536) := by
        have h1 := allTo_len s s.n
        have h2 := hS.n1
        have h3 := HN.out
        unfold Hid
        rw [natInts_len]
        unfold BSet.all
        omega
      have HRB := Lib.hid hS.rb
      have r0 : wr.cell? ⟨R, 0, none⟩ = some (.slice a5 n c5) := blk_cell hS.rb 0
      have r1 : wr.cell? ⟨R, 1, none⟩ = some (.int .i64 s.hand) := blk_cell hS.rb 1
      have HBC : Hid (Below wr.heap.size wr wr.drew) := (Below.refl _ _).drew
      have HKA : Hid True := trivial
      have HKB : Hid True := trivial
      clear hS
      generalize natInts s.all = ks at HAB HRK HKL
      go_upto_region 36 with (fail)
      go_region_with (first
        | (go_at_call 21; (with_reducible refine (HAB.out _ HBC.out).mono ?_); rintro e w8 ⟨v8, rfl, hi8, hb8⟩; obtain ⟨a8, c8, rfl⟩ := hi8.slice; have HBD := Lib.hid (HBC.out.trans (hb8.mono HBC.out.size)); (try (have HKD := Lib.hid (IntsAt.next HKB.out hb8); clear HKB; have HKB := HKD; clear HKD)); clear HBC HKA; have HBC := HBD; clear HBD; have HKA := Lib.hid hi8; have r0' := (HBC.out.cell (p := ⟨R, 0, none⟩) (blk_lt HRB.out)).trans (blk_cell HRB.out 0); have r1' := (HBC.out.cell (p := ⟨R, 1, none⟩) (blk_lt HRB.out)).trans (blk_cell HRB.out 1); simp only [bsC, List.getElem?_toArray, List.getElem?_cons_zero, List.getElem?_cons_succ] at r0' r1'; clear hi8 hb8)
        | (go_at_call 19; (with_reducible refine (HRK.out _ HBC.out).mono ?_); rintro e w8 ⟨v8, rfl, hi8, hb8⟩; obtain ⟨a8, c8, rfl⟩ := hi8.slice; have HBD := Lib.hid (HBC.out.trans (hb8.mono HBC.out.size)); (try (have HKD := Lib.hid (IntsAt.next HKA.out hb8); clear HKA; have HKA := HKD; clear HKD)); clear HBC HKB; have HBC := HBD; clear HBD; have HKB := Lib.hid hi8; clear hi8 hb8)
        | (go_at_call 20; (with_reducible refine (same_yes HKA.out HKB.out HKL.out).mono ?_); rintro e w8 ⟨rfl, hb8⟩; have HBD := Lib.hid (HBC.out.trans (hb8.mono HBC.out.size)); clear HBC; have HBC := HBD; clear HBD hb8)
        | (go_at_call 7; (with_reducible refine (awake07 _).mono ?_); rintro e w9 ⟨rfl, hb9⟩; have HBD := Lib.hid (HBC.out.trans (hb9.mono HBC.out.size)); clear HBC; have HBC := HBD; clear HBD hb9))
      all_goals (try go_wp2)
      all_goals go_ret
      all_goals exact ⟨rfl, HS2.out.below.trans (HBC.out.mono HS2.out.below.size)⟩

set_option maxRecDepth 100000 in
theorem bitsPlay_door (os : Os) (args : Array Value) : laidMetH Tryd.prog Rows.bitsPlayRow.laid ((World.doorLaid Tryd.prog 400 os).forCall (fun _ _ => 0) ⟨#[], args, []⟩).memory :=
  laidMetH_of_parts3 (fuel := 8) (laidMet_of_run' 8 (by kernel_rfl) (by kernel_rfl)) (by kernel_rfl) (by kernel_rfl)
set_option maxRecDepth 100000 in
theorem bitsPlay_lifted (os : Os) (started : os.Started) (H : Type) (enc : TypeId × Value → H) :
    ReturnsInHanded {} Tryd.checked os 3 .any (fun w args => (Rows.bitsPlaySpec.pre enc Tryd.prog Tryd.f3 [] false w args ∧ laidMetH Tryd.prog Rows.bitsPlayRow.laid w) ∧ sizedMet enc Tryd.prog Tryd.f3 (OpenSpec.ofChange Rows.bitsPlaySpec) false w args) (Rows.bitsPlaySpec.post enc Tryd.prog Tryd.f3 false true false false) :=
  law_lifted_laid 3 Tryd.f3 Rows.bitsPlaySpec Rows.bitsPlayRow.laid Tryd.func3 (by kernel_rfl) rfl rfl
    (fun ds h => by match ds, h with | [_, _], _ => rfl) (by kernel_rfl) os started
    (ChangeSpec.witness_shaped (enc := enc) (C := Tryd.checked) (os := os) (X := fun w _ => laidMetH Tryd.prog Rows.bitsPlayRow.laid w) false (World.doorLaid Tryd.prog 400 os) #[.int .i64 0, .slice none 0 0] 8 rfl (World.shaped_of_RefB (by kernel_rfl) (by kernel_rfl)) (by kernel_rfl) (by kernel_rfl) (by kernel_rfl) (bitsPlay_door os _))
    fun W args ds ps hval hL hA => by
      rw [Tryd.params3] at hA hval
      obtain ⟨v0, vs0, d0, ds0, p0, q0, hargs, rfl, rfl, h0, r0⟩ := trodAll_cons hA
      obtain ⟨v1, vs1, d1, ds1, p1, q1, rfl, rfl, rfl, h1, r1⟩ := trodAll_cons r0
      obtain ⟨rfl, rfl, rfl⟩ := trodAll_nil r1
      obtain rfl : args = #[v0, v1] := by cases args; simp_all
      obtain ⟨b0, o0⟩ := hval 0 _ v0 rfl rfl
      obtain ⟨b1, o1⟩ := hval 1 _ v1 rfl rfl
      obtain ⟨a0, rfl, rfl, rfl, w0⟩ := open_int Tryd.underlying3 o0 h0
      obtain ⟨l1, hb1, hm1⟩ := open_acts7 o1 h1
      exact bitsPlay_walk a0 l1 _ W hb1 hm1 (tab_laid hL)

theorem bitsPlay_row : Rows.BitsPlaySaid :=
  OpenClaim.holds_of_wide 3 Tryd.f3 rfl rfl rfl rfl rfl rfl rfl ⟨rfl, rfl, rfl, rfl, rfl⟩ rfl rfl rfl rfl rfl (by kernel_rfl) Tryd.func3 (by kernel_rfl)
    (of_decide_eq_true (by kernel_rfl)) (by unfold Func.isWrapper; first | (rw [if_pos (by decide +kernel)]; kernel_rfl) | (rw [if_neg (by decide +kernel)]; exact ⟨rfl, rfl⟩))
    (fun os started H enc _ => bitsPlay_lifted os started H enc)
set_option maxRecDepth 100000 in
/-- The statement. -/
theorem bitsPlay_holds : Rows.BitsPlayCardSaid :=
  Claim7.holds_tied_plain_at .later [] [.data] true Rows.bitsPlayCard.stood.harness Rows.bitsPlayCard.stood.looks
    bitsPlay_row (fun _ h => by cases h) (by kernel_rfl) (fun _ h => by cases h) bitsPlay_row_tie rfl ⟨rfl, rfl⟩ (by kernel_rfl) rfl
    (fun f fn hf hfn => by
      obtain rfl : f = 3 := Option.some.inj ((show Tryd.prog.funcNamed "sgraffito/sgraffitolaw07.BitsPlay" = some 3 by kernel_rfl).symm.trans hf) |>.symm
      obtain rfl : fn = Tryd.f3 := (Option.some.inj (Tryd.func3.symm.trans hfn)).symm
      exact ⟨by kernel_rfl, fun j t ht => by
        rw [Tryd.params3] at ht
        have hm : t ∈ [3, 22] := by simpa using Array.mem_of_getElem? ht
        have hall : ([3, 22].all fun u => !Tryd.prog.wantsStandIn u) = true := by kernel_rfl
        exact (show Tryd.prog.wantsStandIn t = false by simpa using List.all_eq_true.1 hall t hm)⟩)
    (by kernel_rfl)
#print axioms bitsPlay_holds

end Go.Proofs.YtpljbjceokoeiaaDoor

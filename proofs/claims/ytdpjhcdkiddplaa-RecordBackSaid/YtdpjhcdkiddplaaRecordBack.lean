/-
  RecordBack: a record is read as it was written, whatever stands behind it; records one behind the other, noughts between, are all read.
  Conditions: none.
-/
import Derived.Test.YtdpjhcdkiddplaaRecHelp
import Derived.Test.YtdpjhcdkiddplaaRec3
import Derived.Deep.RegionHeld3
namespace Go.Proofs.Ytdpjhcdkiddplaa
open Go.ChangeShapes Go.WideShapes Go.ChangeAt Go.RowKit Go.Deep

/-- What holds ahead of each round. -/
def BackRound (w : World) (l : List RecP) (z k : Nat) (vb vi : Value) (W : World) : Prop :=
  W.ownsRow w.heap.size 5 1 vb (train z (kept (l.take k))).length (cellsOf (train z (kept (l.take k)))) ∧ W.ownsRow w.heap.size 25 3 vi (kept (l.take k)).length (docRows (kept (l.take k))) ∧ Below w.heap.size w W
theorem BackRound.below {w W W' : World} {l : List RecP} {z k : Nat} {vb vi : Value} (h : BackRound w l z k vb vi W) (hb : Below W.heap.size W W') : BackRound w l z k vb vi W' :=
  ⟨ownsRow_below h.1 hb, ownsRow_below h.2.1 hb, h.2.2.trans (hb.mono h.2.2.size)⟩
set_option maxRecDepth 100000 in
set_option maxHeartbeats 16000000 in
theorem recordBack_walk (v : Value) (l : List RecP) (b : BitVec 8) (v2 : Value) (beh : List (BitVec 8)) (w : World) (hv : DocsAt w.heap.size w v l) (hv2 : BytesAt w.heap.size w v2 beh) : Calls Try.prog 3 #[v, .int .u8 (U b), v2] w (Good w) := by
  obtain ⟨a, cap, rfl, hcap, hwf, hv⟩ := hv
  obtain ⟨a2, cap2, rfl, hcap2, _⟩ := id hv2
  have hlc : (l.length : Int) ≤ cap := by omega
  by_cases h10 : 10 < l.length
  · have b1 : (10 : Int) < l.length := by omega
    clear hwf hv hv2
    go_enter Try.func3, Try.ntmps3
    go_wp2
    go_ret
    exact ⟨rfl, Below.refl _ _⟩
  by_cases h200 : 200 < beh.length
  · have b1 : ¬ (10 : Int) < l.length := by omega
    have b2 : (200 : Int) < beh.length := by omega
    clear hwf hv hv2
    go_enter Try.func3, Try.ntmps3
    go_wp2
    go_ret
    exact ⟨rfl, Below.refl _ _⟩
  have b1 : (l.length : Int) ≤ 10 := by omega
  have b2 : (beh.length : Int) ≤ 200 := by omega
  obtain ⟨z, hz⟩ : ∃ z, b.toNat % 5 = z := ⟨_, rfl⟩
  have hz5 : z ≤ 4 := by omega
  have hzr : (U b).tmod 5 = (z : Int) := by
    rw [← hz]
    show ((b.toNat : Int)).tmod 5 = _
    rw [Int.tmod_eq_emod_of_nonneg (by omega)]
    omega
  have hbu : 0 ≤ U b ∧ U b < 256 := by
    have := b.isLt
    show 0 ≤ (b.toNat : Int) ∧ (b.toNat : Int) < 256
    omega
  have hcv : IntKind.i64.wrap (U b) = U b := IntWalk.i64_in _ ⟨by omega, by omega⟩
  have hcv2 : wrap64 (U b) = U b := IntWalk.wrap64_in _ ⟨by omega, by omega⟩
  have HWF := Lib.hid hwf
  have HV := Lib.hid hv
  have HV2 := Lib.hid hv2
  have HAW := Lib.hid (fun W => awake09 W)
  have HZ5 := Lib.hid hz5
  have HL10 : Hid (l.length ≤ 10) := by unfold Hid; omega
  have HB200 : Hid (beh.length ≤ 200) := by unfold Hid; omega
  obtain ⟨i0, hi, hz0, hz1, hz2⟩ := info_parts Try.infoU8
  have HI0 := Lib.hid (And.intro hi (And.intro hz0 (And.intro hz1 hz2)))
  clear hwf hv hv2 hz hz5 hbu h10 h200 hi hz0 hz1 hz2
  go_enter Try.func3, Try.ntmps3
  go_wp2
  go_loopw [7, 8, 9] (fun vb vi iv wr => ∃ k : Nat, k ≤ l.length ∧ iv = .int .i64 k ∧ BackRound w l z k vb vi wr) (fun _ _ iv _ => l.length - (intOf iv).toNat)
  case atStart => exact ⟨0, Nat.zero_le _, rfl, World.ownsRow_nil _ _ _ _, World.ownsRow_nil _ _ _ _, Below.refl _ _⟩
  case round =>
    obtain ⟨k, hk, rfl, hI⟩ := hrel
    by_cases hlt : k < l.length
    · rcases HV.out with h | ⟨g, off, rfl, hg, hc⟩
      · exact absurd hlt (by rw [h]; simp)
      obtain ⟨x, hx⟩ : ∃ x, l[k]?.getD default = x := ⟨_, rfl⟩
      have hwx := HWF.out k hlt
      have hcx := hc k hlt
      rw [hx] at hwx hcx
      have hxk : l[k] = x := by rw [← hx]; simp [hlt]
      have HDA : Hid (∀ V, Below w.heap.size w V → DocAt V g (off + k * 3) x) := fun V hb => hcx.below hb hg
      obtain ⟨c0, c1, c2⟩ := HDA.out wr hI.2.2
      have HI := Lib.hid hI
      have HKT : Hid (kept (l.take (k + 1)) = kept (l.take k) ++ (if x.err = 0 then [x] else [])) := by
        have := kept_take_succ l k hlt
        rw [hxk] at this
        exact this
      have HKL : Hid ((kept (l.take k)).length ≤ 10) := by
        have h1 := kept_len_le (l.take k)
        rw [List.length_take] at h1
        unfold Hid; omega
      have HLT := Lib.hid hlt
      have k0 : (0 : Int) ≤ k := by omega
      have k1 : (k : Int) < l.length := by omega
      obtain ⟨sk, hsk⟩ : ∃ sk, strB x.key = sk := ⟨_, rfl⟩
      obtain ⟨sv, hsv⟩ : ∃ sv, strB x.val = sv := ⟨_, rfl⟩
      have hnk : sk.size = x.key.length := by rw [← hsk, strB_size]
      have hnv : sv.size = x.val.length := by rw [← hsv, strB_size]
      rw [hsk] at c0
      rw [hsv] at c1
      by_cases hbig : 100 < x.key.length ∨ 100 < x.val.length
      · have n1 : 100 < (sk.size : Int) ∨ (¬ 100 < (sk.size : Int) ∧ 100 < (sv.size : Int)) := by omega
        clear hcx hc hI hx hxk hlt hwx hbig hnk hnv hsk hsv
        rcases n1 with n1 | ⟨n1, n2⟩
        · go_wp2
          go_ret
          exact ⟨rfl, HI.out.2.2⟩
        · go_wp2
          go_ret
          exact ⟨rfl, HI.out.2.2⟩
      · have n1 : ¬ 100 < (sk.size : Int) := by omega
        have n2 : ¬ 100 < (sv.size : Int) := by omega
        have HKV : Hid (x.key.length ≤ 100 ∧ x.val.length ≤ 100) := by unfold Hid; omega
        have HOF := Lib.hid (fun W => of09_any x W)
        unfold RecP.doc at HOF
        rw [hsk, hsv] at HOF
        have HSK := Lib.hid (And.intro hsk hsv)
        clear hcx hc hI hx hxk hlt hwx hbig hnk hnv hsk hsv
        go_upto_region 11 with (first
          | (go_at_call 5; (with_reducible refine (HOF.out _).mono ?_); rintro e w1 ⟨u1, u2, rfl, hu1, hu2, hb1⟩; have HB1 := Lib.hid hb1; have HP1 := Lib.hid (show Calls Try.prog 4 #[.agg (x.cells u1 u2)] w1 (Packed (packB x.key x.val x.fin) x.err w1) from pack_any u1 u2 x.key x.val x.fin w1 hu1 hu2 (by have := HKV.out; omega) (by have := HKV.out; omega)); clear hu1 hu2 hb1 n1 n2)
          | (go_at_call 4; (with_reducible refine HP1.out.mono ?_); rintro e w2 ⟨up, rfl, hup, hb2⟩; have HUP := Lib.hid hup; have HB2 := Lib.hid hb2; clear hup hb2))
        have HB02 := Lib.hid (HB1.out.trans (HB2.out.mono HB1.out.size))
        by_cases hpe : x.err = 0
        · have HPE := Lib.hid hpe
          have hpb : packB x.key x.val x.fin = recB x.key x.val x.fin := if_pos hpe
          rw [hpb] at HUP
          obtain ⟨rb, hrb⟩ : ∃ rb, recB x.key x.val x.fin = rb := ⟨_, rfl⟩
          have hub : unpRec (recB x.key x.val x.fin ++ beh) = x ∧ unpN (recB x.key x.val x.fin ++ beh) = ((recB x.key x.val x.fin).length : Int) ∧ unpErr (recB x.key x.val x.fin ++ beh) = 0 := unp_behind hpe beh
          have hrl := recB_small hpe
          rw [hrb] at HUP hub hrl
          have HRB := Lib.hid hrb
          have HRL := Lib.hid hrl
          have HUB := Lib.hid hub
          rw [hpe]
          obtain ⟨ap, cp, rfl⟩ := owns_slice HUP.out
          have HPA := Lib.hid (BytesAt.of_owns HUP.out)
          have HFR : Hid (∀ j, (Value.slice ap rb.length cp).ownBlock = some j → ¬ u7.ownBlock = some j) := fun j e1 e2 => by
            have h1 := (HUP.out.lt j e1).1
            have h2 := (HI.out.1.lt j e2).2
            have h3 := HB1.out.size
            omega
          have HE2 := Lib.hid (own_empty w2 w2.heap.size (Nat.le_refl _))
          have HB20 : Hid (Below w2.heap.size w2 (w2.alloc (.cells #[] 5))) := (Below.refl _ _).alloc (Nat.le_refl _) _
          obtain ⟨hi, hz0, hz1, hz2⟩ := HI0.out
          have HV22 := Lib.hid ((HV2.out.below (HI.out.2.2.trans (HB02.out.mono HI.out.2.2.size))).mono (Nat.le_trans HI.out.2.2.size HB02.out.size))
          clear hpe hpb hrb hub hrl HUP
          clear c0 c1 c2
          go_upto_region 13 with (first
            | (at_builtin; (refine wpList_append_bytes rfl (.tmp 59) (.tmp 60) rfl rfl w2.heap.size i0 hi hz0 hz1 hz2 _ rfl [] HE2.out _ rfl _ _ (HPA.out.below HB20.out) (by have := HRL.out; simp; omega) HB20.out.size ?_); intro v3 w3 n3 hn3 hown3 hg3 _; have HB3 := Lib.hid (HB20.out.grown hg3 HB20.out.size (fun k e => (HE2.out.lt k e).1)); rw [List.nil_append] at hown3 hn3; rw [hn3.out] at hown3; have HO3 := Lib.hid hown3; clear hn3 hown3 hg3)
            | (at_builtin; (refine wpList_append_bytes rfl (.tmp 61) (.tmp 62) rfl rfl w2.heap.size i0 hi hz0 hz1 hz2 _ rfl rb HO3.out _ rfl _ _ (HV22.out.below HB3.out) (by have := HRL.out; have := HB200.out; omega) HB3.out.size ?_); intro v4 w4 n4 hn4 hown4 hg4 _; rw [hn4.out] at hown4; have HB4 := Lib.hid (HB3.out.grown hg4 HB3.out.size (fun k e => (HO3.out.lt k e).1)); have hup4 := unpackR_any v4 (rb ++ beh) w4 (BytesAt.of_owns hown4) (by have := HRL.out; have := HB200.out; rw [List.length_append]; omega); rw [HUB.out.1, HUB.out.2.1, HUB.out.2.2] at hup4; have HUP4 := Lib.hid hup4; clear hn4 hown4 hg4 hup4)
            | (go_at_call 6; (with_reducible refine HUP4.out.mono ?_); rintro e w5 ⟨u5, v5, rfl, hu5, hv5, hb5⟩; obtain ⟨au5, cu5, rfl, _⟩ := id hu5; obtain ⟨av5, cv5, rfl, _⟩ := id hv5; have HB5 := Lib.hid (HB4.out.trans (hb5.mono HB4.out.size)); have HU5 := Lib.hid hu5; have HV5 := Lib.hid hv5; clear hu5 hv5 hb5)
            | (refine wpList_store_row (o := ⟨none, _, _, _, _, _⟩) rfl 30 (.tmp 12) (.tmp 65) rfl w5.heap.size (x.cells (.slice au5 x.key.length cu5) (.slice av5 x.val.length cv5)) rfl rfl 30 (RecP.zero.cells (.slice none 0 0) (.slice none 0 0)) (heap_alloc_new _ _) (rec_sz _ _ _) rfl ?_ ?_; exact rec_one _))
          obtain ⟨hbw, hPw⟩ := rrow_new w5 x (.slice au5 x.key.length cu5) (.slice av5 x.val.length cv5)
          change (Code.region _ _ _).wp _ _ _ ((w5.alloc (.cells (RecP.zero.cells (.slice none 0 0) (.slice none 0 0)) 30)).setRow w5.heap.size (x.cells (.slice au5 x.key.length cu5) (.slice av5 x.val.length cv5)))
          generalize (w5.alloc (.cells (RecP.zero.cells (.slice none 0 0) (.slice none 0 0)) 30)).setRow w5.heap.size (x.cells (.slice au5 x.key.length cu5) (.slice av5 x.val.length cv5)) = w6 at hbw hPw ⊢
          have HB6 := Lib.hid (HB02.out.trans ((HB5.out.trans (hbw.mono HB5.out.size)).mono HB02.out.size))
          have HPA6 := Lib.hid ((HPA.out.below (HB5.out.trans (hbw.mono HB5.out.size))).mono (HB5.out.trans (hbw.mono HB5.out.size)).size)
          obtain ⟨d0, d1, d2⟩ := HDA.out w6 (HI.out.2.2.trans (HB6.out.mono HI.out.2.2.size))
          obtain ⟨p0, p1, p2⟩ := rcells3 hPw (Below.refl w6.heap.size w6)
          have HT6 := Lib.hid (fun (V : World) (hb : Below w6.heap.size w6 V) => told09_yes x _ _ _ V ((HU5.out.below hbw).below (hb.mono hbw.size)) ((HV5.out.below hbw).below (hb.mono hbw.size)))
          obtain ⟨P, hP⟩ : ∃ P, w5.heap.size = P := ⟨_, rfl⟩
          rw [hP] at p0 p1 p2 ⊢
          rw [HSK.out.1] at d0
          rw [HSK.out.2] at d1
          unfold RecP.doc RecP.cells at HT6
          rw [HSK.out.1, HSK.out.2] at HT6
          have q0 := after_cell p0
          have q1 := after_cell p1
          have q2 := after_cell p2
          have q3 := after_cell d0
          have q4 := after_cell d1
          have q5 := after_cell d2
          clear hbw hPw hP HUP4 HU5 HV5 HB5 HB4 HB3 HO3 HE2 HB20 HV22 HPA p0 p1 p2 d0 d1 d2
          refine wp_region_after (by kernel_rfl) (by kernel_rfl) ?_
          repeat (go_big_quiet_step ((go_at_call 7; with_reducible exact after_call (HT6.out _ (After.h _)))))
          refine wpQuiet_nil ?_
          rintro _ ⟨p9, rfl⟩
          have HB9 := Lib.hid (HB6.out.trans (p9.h.mono HB6.out.size))
          have HPA9 := Lib.hid ((HPA6.out.below p9.h).mono p9.h.size)
          generalize p9.v = w9 at HB9 HPA9 ⊢
          clear q0 q1 q2 q3 q4 q5 HT6
          have hI9 := HI.out.below HB9.out
          have htl := train_len z (by have := HZ5.out; omega) (kept (l.take k)) (kept_err _)
          have HTL : Hid ((train z (kept (l.take k))).length ≤ 50000) := by have := HKL.out; unfold Hid; omega
          obtain ⟨v7, w7, hr7, ho7, hg7⟩ := run_append_zeros_onto (w := w9) w.heap.size u7 (train z (kept (l.take k))) hI9.1 z (by have := HZ5.out; omega) (by have := HTL.out; omega) hI9.2.2.size 23
          have hm7 : Moves (fun j => u7.ownBlock = some j) w9 w7 := Moves.of_grown hg7 (fun _ e => e)
          have HD7 := Lib.hid (hm7.row hI9.2.1 (rows_apart hI9.2.1 hI9.1 (by decide)))
          have HP7 := Lib.hid ((hm7.bytes HPA9.out (Nat.le_refl _) (fun _ => HFR.out)).mono hm7.size)
          have HB7 := Lib.hid (hI9.2.2.grown hg7 hI9.2.2.size (fun j e => (hI9.1.lt j e).1))
          have HO7 := Lib.hid ho7
          have HR7 := Lib.hid hr7
          clear hI9 htl ho7 hg7 hm7 hr7
          obtain ⟨tr, htr⟩ : ∃ tr, train z (kept (l.take k)) = tr := ⟨_, rfl⟩
          rw [htr] at HO7 HTL
          have HTR := Lib.hid htr
          clear htr
          go_upto_region 16 with (at_builtin; refine Lib.wpList_append_run _ rfl _ _ _ _ rfl _ _ rfl rfl v7 w7 HR7.out ?_)
          obtain ⟨id_, hid_, hd0, hd1, hd2⟩ := info_partsD infoDoc
          have HID := Lib.hid (And.intro hid_ (And.intro hd0 (And.intro hd1 hd2)))
          clear hid_ hd0 hd1 hd2
          go_upto_region 17 with (at_builtin; (refine wpList_append_bytes rfl (.tmp 90) (.tmp 91) rfl rfl w.heap.size i0 hi hz0 hz1 hz2 _ rfl (tr ++ List.replicate z 0#8) HO7.out _ rfl _ _ HP7.out (by have := HTL.out; have := HRL.out; have := HZ5.out; rw [List.length_append, List.length_replicate]; omega) HB7.out.size ?_); intro v8 w8 n8 hn8 hown8 hg8 _; rw [hn8.out] at hown8; have HB8 := Lib.hid (HB7.out.grown hg8 HB7.out.size (fun k e => (HO7.out.lt k e).1)); have HD8 := Lib.hid ((Moves.of_grown (S := fun j => v7.ownBlock = some j) hg8 (fun _ e => e)).row HD7.out (rows_apart HD7.out HO7.out (by decide))); have HO8 := Lib.hid hown8; clear hn8 hown8 hg8)
          obtain ⟨d0, d1, d2⟩ := HDA.out w8 HB8.out
          rw [HSK.out.1] at d0
          rw [HSK.out.2] at d1
          have hrow := HD8.out.alloc (.cells #[.string sk, .string sv, .int .i64 x.fin] 25)
          have HROW := Lib.hid hrow
          have HBW := Lib.hid (HB8.out.alloc HB8.out.size (.cells #[.string sk, .string sv, .int .i64 x.fin] 25))
          have HOB := Lib.hid (HO8.out.alloc (.cells #[.string sk, .string sv, .int .i64 x.fin] 25))
          have HDC : Hid (x.doc.toList = [.string sk, .string sv, .int .i64 x.fin]) := by unfold Hid RecP.doc; rw [HSK.out.1, HSK.out.2]
          have HNEW : Hid (∀ (j : Nat) (u : Value), x.doc.toList[j]? = some u → (w8.alloc (.cells #[.string sk, .string sv, .int .i64 x.fin] 25)).cell? ((⟨w8.heap.size, 0, none⟩ : Addr).add j) = some u) := by
            intro j u hj
            rw [add_plain, Nat.zero_add, blk_cell (heap_alloc_new _ _)]
            rw [HDC.out] at hj
            rw [← hj]
            simp
          clear hrow
          go_wp2_with (at_builtin; (refine wpList_append_own _ rfl _ _ 22 rfl w.heap.size 25 id_ _ 3 40 Try.underlying22 HID.out.1 HID.out.2.1 HID.out.2.2.1 HID.out.2.2.2 rfl (by decide) u8 (kept (l.take k)).length (docRows (kept (l.take k))) rfl HROW.out ⟨w8.heap.size, 0, none⟩ 1 1 x.doc.toList rfl rfl HNEW.out x.docOne (by have := HKL.out; unfold maxLen; omega) (by have := HKL.out; omega) HBW.out.size ?_); intro v9 w10 hown hgrow hnil; have HR9 := Lib.hid hown; have HO9 := Lib.hid ((Moves.of_grown (S := fun j => u8.ownBlock = some j) hgrow (fun _ e => e)).row HOB.out (rows_apart HOB.out HROW.out (by decide))); have HB10 := Lib.hid (HBW.out.grown hgrow HBW.out.size (fun k e => (HROW.out.lt k e).1)); clear hown hgrow hnil)
          clear d0 d1 d2
          go_roundw
          case rel =>
            have e1 : kept (l.take (k + 1)) = kept (l.take k) ++ [x] := by rw [HKT.out, if_pos HPE.out]
            have e2 : train z (kept (l.take (k + 1))) = tr ++ List.replicate z 0#8 ++ rb := by
              rw [e1, train_append, HTR.out, train, train, HRB.out, List.append_nil, List.append_assoc]
            refine ⟨k + 1, HLT.out, by go_num, ?_, ?_, HB10.out⟩
            · rw [e2]; exact HO9.out
            · rw [e1, docRows_snoc, List.length_append, List.length_singleton]; exact HR9.out
          case measure => have := HLT.out; simp [intOf]; omega
        · have hz0 : (x.err == 0) = false := beq_eq_false_iff_ne.2 hpe
          have HPE := Lib.hid hpe
          obtain ⟨ap, cp, rfl⟩ := owns_slice HUP.out
          have hkt := HKT.out
          rw [if_neg hpe, List.append_nil] at hkt
          have HKT2 := Lib.hid hkt
          obtain ⟨er, her⟩ : ∃ er, x.err = er := ⟨_, rfl⟩
          rw [her] at hz0 ⊢
          clear hpe hkt her c0 c1 c2
          go_wp2
          clear hz0
          go_roundw
          case rel =>
            have h := HI.out.below HB02.out
            exact ⟨k + 1, HLT.out, by go_num, by rw [HKT2.out]; exact h.1, by rw [HKT2.out]; exact h.2.1, h.2.2⟩
          case measure => have := HLT.out; simp [intOf]; omega
    · obtain rfl : k = l.length := by omega
      obtain ⟨ho, hd, hb⟩ := hI
      rw [List.take_length] at ho hd
      have htl := train_len z (by have := HZ5.out; omega) (kept l) (kept_err _)
      have hkl := kept_len_le l
      have HTL : Hid ((train z (kept l)).length ≤ 50000) := by have := HL10.out; unfold Hid; omega
      have hrec : recs (train z (kept l) ++ [0#8, 0#8, 1#8]) = kept l := by rw [recs_train z (kept l) (kept_err l), recs_tail, List.append_nil]
      have HREC := Lib.hid hrec
      obtain ⟨tr, htr⟩ : ∃ tr, train z (kept l) = tr := ⟨_, rfl⟩
      rw [htr] at ho HTL HREC
      have HO := Lib.hid (ho.alloc (.cells #[.int .u8 0, .int .u8 0, .int .u8 1] 5))
      have HD := Lib.hid (hd.alloc (.cells #[.int .u8 0, .int .u8 0, .int .u8 1] 5))
      have HB := Lib.hid (hb.alloc hb.size (.cells #[.int .u8 0, .int .u8 0, .int .u8 1] 5))
      have HU3 : Hid (BytesAt (wr.heap.size + 1) (wr.alloc (.cells #[.int .u8 0, .int .u8 0, .int .u8 1] 5)) (.slice (some ⟨wr.heap.size, 0, none⟩) 3 3) [0#8, 0#8, 1#8]) := bytes_new wr [0#8, 0#8, 1#8] 3 rfl _ rfl
      obtain ⟨hi, hz0, hz1, hz2⟩ := HI0.out
      clear ho hd hb htl hkl hrec htr
      go_upto_region 19 with (first
        | (at_builtin; (refine wpList_append_bytes rfl (.tmp 100) (.tmp 101) rfl rfl w.heap.size i0 hi hz0 hz1 hz2 _ rfl tr HO.out _ rfl _ _ HU3.out (by have := HTL.out; simp; omega) HB.out.size ?_); intro v1 w1 n1 hn1 hown1 hg1 _; rw [hn1.out] at hown1; have HB1 := Lib.hid (HB.out.grown hg1 HB.out.size (fun k e => (HO.out.lt k e).1)); have HD1 := Lib.hid ((Moves.of_grown (S := fun j => u7.ownBlock = some j) hg1 (fun _ e => e)).row HD.out (rows_apart HD.out HO.out (by decide))); have hall := all_any v1 _ w1 (BytesAt.of_owns hown1) (by have := HTL.out; simp; omega); rw [HREC.out] at hall; have HALL := Lib.hid hall; clear hn1 hown1 hg1 hall)
        | (go_at_call 8; (with_reducible refine HALL.out.mono ?_); rintro e w2 ⟨ua, rfl, hr2, hb2⟩; have HR2 := Lib.hid hr2; have HB2 := Lib.hid hb2; clear hr2 hb2))
      obtain ⟨xs, hxm, hown, hgood⟩ := HR2.out
      have hxl : xs.length = (kept l).length := by rw [← hxm, List.length_map]
      rw [hxl] at hown
      have hd2 := ownsRow_below HD1.out HB2.out
      obtain ⟨a9, c9, rfl⟩ := owns_slice hown
      obtain ⟨a10, c10, rfl⟩ := owns_slice hd2
      have HW9 := Lib.hid hown
      have HO10 := Lib.hid hd2
      have HG9 : Hid (∀ y ∈ xs, y.Good w2) := hgood
      have HXM := Lib.hid hxm
      have HXL := Lib.hid hxl
      have HB11 := Lib.hid (HB1.out.trans (HB2.out.mono HB1.out.size))
      obtain ⟨N, hN⟩ : ∃ N, (kept l).length = N := ⟨_, rfl⟩
      rw [hN] at HW9 HO10 HXL ⊢
      clear hxm hxl hown hgood hN HR2 hd2 HB1 HB2 HALL HD1
      go_wp2
      go_loopw [16] (fun iv wr => ∃ i : Nat, iv = .int .i64 i ∧ i ≤ N ∧ Below w2.heap.size w2 wr) (fun iv _ => N - (intOf iv).toNat)
      case atStart => exact ⟨0, rfl, Nat.zero_le _, Below.refl _ _⟩
      case round =>
        obtain ⟨i, rfl, hi2, hB⟩ := hrel
        by_cases hlt : i < N
        · have i1 : (i : Int) < N := by omega
          have HW1 : Hid (wrap64 ((i : Int) + 1) = (i : Int) + 1) := by
            have := ownsRow_le HW9.out
            unfold maxLen at this
            unfold Hid wrap64; omega
          have ho9 := ownsRow_below HW9.out hB
          have ho10 := ownsRow_below HO10.out hB
          obtain ⟨g9, cp9, e9⟩ := ownsRow_pos ho9 (by omega)
          obtain ⟨g10, cp10, e10⟩ := ownsRow_pos ho10 (by omega)
          simp only [Value.slice.injEq] at e9 e10
          obtain ⟨rfl, _, rfl⟩ := e9
          obtain ⟨rfl, _, rfl⟩ := e10
          obtain ⟨y, hy⟩ : ∃ y, xs[i]? = some y := ⟨xs[i]'(by rw [HXL.out]; exact hlt), List.getElem?_eq_getElem _⟩
          have hyr : (kept l)[i]? = some y.r := by rw [← HXM.out, List.getElem?_map, hy]; rfl
          have hgy := HG9.out y (List.mem_of_getElem? hy)
          have f0 := flat3_get (fun x : RX => x.cells.toList) (fun _ => rfl) xs i y hy
          have f1 := flat3_get (fun x : RecP => x.doc.toList) (fun _ => rfl) (kept l) i y.r hyr
          have d0 : wr.drew.cell? ⟨g9, i * 3, none⟩ = some (.slice y.au y.nu y.cu) := (ho9.cellAt (i * 3) (by omega)).trans (f0 0 (by omega))
          have d1 : wr.drew.cell? ⟨g9, i * 3 + 1, none⟩ = some (.slice y.av y.nv y.cv) := (ho9.cellAt (i * 3 + 1) (by omega)).trans (f0 1 (by omega))
          have d2 : wr.drew.cell? ⟨g9, i * 3 + 2, none⟩ = some (.int .i64 y.r.fin) := (ho9.cellAt (i * 3 + 2) (by omega)).trans (f0 2 (by omega))
          have b0 : wr.drew.cell? ⟨g10, i * 3, none⟩ = some (.string (strB y.r.key)) := (ho10.cellAt (i * 3) (by omega)).trans (f1 0 (by omega))
          have b1 : wr.drew.cell? ⟨g10, i * 3 + 1, none⟩ = some (.string (strB y.r.val)) := (ho10.cellAt (i * 3 + 1) (by omega)).trans (f1 1 (by omega))
          have b2 : wr.drew.cell? ⟨g10, i * 3 + 2, none⟩ = some (.int .i64 y.r.fin) := (ho10.cellAt (i * 3 + 2) (by omega)).trans (f1 2 (by omega))
          have hl9 : g9 < wr.drew.heap.size := World.block_lt_of_cell? _ _ d0
          have hl10 : g10 < wr.drew.heap.size := World.block_lt_of_cell? _ _ b0
          have HT := Lib.hid (show Calls Try.prog 7 #[.agg #[y.u, y.v, .int .i64 y.r.fin], .agg #[.string (strB y.r.key), .string (strB y.r.val), .int .i64 y.r.fin]] wr.drew (fun e w' => e = .returned (.bool true) ∧ Below wr.drew.heap.size wr.drew w') from told09_yes y.r y.u y.v _ wr.drew (hgy.1.below hB) (hgy.2.below hB))
          unfold RX.u RX.v at HT
          have HBR := Lib.hid hB
          have i2 : (0 : Int) ≤ i := by omega
          clear hy hyr hgy f0 f1 ho9 ho10 hB
          go_upto_region 24 with (fail)
          go_cut [124] (fun s69 wx => s69 = .bool false ∧ Below wr.heap.size wr wx)
          case first =>
            go_region_held3 (fun W => W.cell? ⟨g9, i * 3, none⟩ = some (.slice y.au y.nu y.cu) ∧ W.cell? ⟨g9, i * 3 + 1, none⟩ = some (.slice y.av y.nv y.cv) ∧ W.cell? ⟨g9, i * 3 + 2, none⟩ = some (.int .i64 y.r.fin) ∧ W.cell? ⟨g10, i * 3, none⟩ = some (.string (strB y.r.key)) ∧ W.cell? ⟨g10, i * 3 + 1, none⟩ = some (.string (strB y.r.val)) ∧ W.cell? ⟨g10, i * 3 + 2, none⟩ = some (.int .i64 y.r.fin))
              (first | exact ⟨d0, d1, d2, b0, b1, b2⟩ | exact HS2.out)
              ((go_at_call 7; (with_reducible refine HT.out.mono ?_); rintro e w12 ⟨rfl, hb⟩; have HB12 := Lib.hid ((Below.refl _ _).drew.trans hb); have HS2 := Lib.hid (show w12.cell? ⟨g9, i * 3, none⟩ = some (.slice y.au y.nu y.cu) ∧ w12.cell? ⟨g9, i * 3 + 1, none⟩ = some (.slice y.av y.nv y.cv) ∧ w12.cell? ⟨g9, i * 3 + 2, none⟩ = some (.int .i64 y.r.fin) ∧ w12.cell? ⟨g10, i * 3, none⟩ = some (.string (strB y.r.key)) ∧ w12.cell? ⟨g10, i * 3 + 1, none⟩ = some (.string (strB y.r.val)) ∧ w12.cell? ⟨g10, i * 3 + 2, none⟩ = some (.int .i64 y.r.fin) from ⟨(hb.cell (p := ⟨g9, i * 3, none⟩) hl9).trans d0, (hb.cell (p := ⟨g9, i * 3 + 1, none⟩) hl9).trans d1, (hb.cell (p := ⟨g9, i * 3 + 2, none⟩) hl9).trans d2, (hb.cell (p := ⟨g10, i * 3, none⟩) hl10).trans b0, (hb.cell (p := ⟨g10, i * 3 + 1, none⟩) hl10).trans b1, (hb.cell (p := ⟨g10, i * 3 + 2, none⟩) hl10).trans b2⟩); clear hb))
            all_goals (go_wp2_with fail)
            all_goals go_meet
            all_goals exact ⟨rfl, HB12.out⟩
          case rest =>
            obtain ⟨rfl, hbx⟩ := hcut
            have HBX := Lib.hid (HBR.out.trans (hbx.mono HBR.out.size))
            clear hbx d0 d1 d2 b0 b1 b2
            go_wp2
            go_roundw
            case rel => exact ⟨i + 1, by rw [HW1.out]; exact congrArg (Value.int .i64) (by omega), by omega, HBX.out⟩
            case measure =>
              have h := meas_lt N i hlt HW1.out
              clear HW1
              simpa using h
        · obtain rfl : i = N := by omega
          have HBR := Lib.hid hB
          clear hB hlt hi2
          go_wp2_with (go_at_call 9; (with_reducible refine (HAW.out _).mono ?_); rintro e w12 ⟨rfl, hb⟩; have HB12 := Lib.hid hb; clear hb)
          go_ret
          exact ⟨rfl, HB11.out.trans ((HBR.out.trans (HB12.out.mono HBR.out.size)).mono HB11.out.size)⟩
set_option maxRecDepth 100000 in
theorem recordBack_lifted (os : Os) (started : os.Started) (H : Type) (enc : TypeId × Value → H) :
    ReturnsInHanded {} Try.checked os 3 .any (Rows.recordBackSpec.pre6 enc Try.prog Try.f3 Rows.recordBackRow.domain false) (Rows.recordBackSpec.post enc Try.prog Try.f3 false true false false) :=
  law_lifted 3 Try.f3 Rows.recordBackSpec Try.func3 (by kernel_rfl) rfl rfl
    (fun ds h => by match ds, h with | [_, _, _], _ => rfl) (by kernel_rfl) os started
    (ChangeSpec.witness6 (enc := enc) (C := Try.checked) false ⟨#[], #[.slice none 0 0, .int .u8 0, .slice none 0 0], []⟩ 8 (by kernel_rfl) (by kernel_rfl) (by kernel_rfl) (by kernel_rfl))
    fun W args ds ps hval hA => by
      rw [Try.params3] at hA hval
      obtain ⟨v0, vs0, d0, ds0, p0, q0, hargs, rfl, rfl, h0, r0⟩ := trodAll_cons hA
      obtain ⟨v1, vs1, d1, ds1, p1, q1, rfl, rfl, rfl, h1, r1⟩ := trodAll_cons r0
      obtain ⟨v2, vs2, d2, ds2, p2, q2, rfl, rfl, rfl, h2, r2⟩ := trodAll_cons r1
      obtain ⟨rfl, rfl, rfl⟩ := trodAll_nil r2
      obtain rfl : args = #[v0, v1, v2] := by cases args; simp_all
      obtain ⟨b0, o0⟩ := hval 0 _ v0 rfl rfl
      obtain ⟨b1, o1⟩ := hval 1 _ v1 rfl rfl
      obtain ⟨b2, o2⟩ := hval 2 _ v2 rfl rfl
      obtain ⟨l0, hb0, hm0⟩ := open_docs o0 h0
      obtain ⟨a1, rfl, rfl, rfl, w1⟩ := open_int Try.underlying5 o1 h1
      obtain ⟨x1, rfl⟩ := wf_u8 w1
      obtain ⟨bs2, hb2, hm2⟩ := open_bytes o2 h2
      exact recordBack_walk _ l0 x1 _ bs2 W hb0 hb2

/-- The statement. -/
theorem recordBack_holds : Rows.RecordBackSaid :=
  OpenClaim.holds_of_wide 3 Try.f3 rfl rfl rfl rfl rfl rfl rfl ⟨rfl, rfl, rfl, rfl, rfl⟩ rfl rfl rfl rfl rfl (by kernel_rfl) Try.func3 (by kernel_rfl)
    (of_decide_eq_true (by kernel_rfl)) (by unfold Func.isWrapper; first | (rw [if_pos (by decide +kernel)]; kernel_rfl) | (rw [if_neg (by decide +kernel)]; exact ⟨rfl, rfl⟩))
    (fun os started H enc _ => recordBack_lifted os started H enc)
#print axioms recordBack_holds
end Go.Proofs.Ytdpjhcdkiddplaa

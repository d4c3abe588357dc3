/-
  The document's answer which leaf bytes are the sector of: sgraffitoref05.Read.
  Conditions: none.
-/
import Derived.Test.YtiibpkncdflfcaaLeafBuilds
import Derived.Test.YtiibpkncdflfcaaReadMath
import Derived.Test.YtiibpkncdflfcaaRefOf
import Derived.Deep.RegionHeld3
namespace Go.Proofs.Ytiibpkncdflfcaa
open Go.RowKit

theorem BytesAt.mid {n₀ : Nat} {w : World} {g off n cap : Nat} {bs : List (BitVec 8)} (h : BytesAt n₀ w (.slice (some ⟨g, off, none⟩) n cap) bs) (i j : Nat) (hij : i ≤ j) (hj : j ≤ bs.length) :
    BytesAt n₀ w (.slice (some ⟨g, off + i, none⟩) (j - i) (cap - i)) ((bs.drop i).take (j - i)) := by
  have h1 := h.suf i (by omega)
  rw [add_plain] at h1
  exact h1.pre (j - i) (by rw [List.length_drop]; omega)
theorem doc_sz (x : LeafP) : (Try.prog.info? 29).map (·.size) = some x.doc.size := by show _ = some 4; kernel_rfl
theorem doc_one (x : LeafP) : x.doc.all (·.oneCell') = true := by simp [LeafP.doc, Value.oneCell']
theorem refRead_res (w : World) (z : Nat) (x : LeafP) (n : Int) (a : Act) (h : w.heap[z]? = some (.cells x.doc 29 (0, 0))) (h2 : a.tmps.getD 2 undef = .pointer (some ⟨z, 0, none⟩)) (h3 : a.tmps.getD 3 undef = .int .i64 n) :
    (results Try.f13 a.tmps).run Try.prog w = .ok (.tuple #[.agg x.doc, .int .i64 n]) w := by
  have h2' : a.tmps[2]?.getD undef = .pointer (some ⟨z, 0, none⟩) := by simpa using h2
  have h3' : a.tmps[3]?.getD undef = .int .i64 n := by simpa using h3
  simp [results, Try.results13, h2', h3', asAddr, run_loadVar_row w z 29 29 x.doc (0, 0) _ h Try.underlying29 rfl (doc_sz x)]
def RefLeafRet (x : LeafP) (n : Int) (w : World) (e : Ending) (w' : World) : Prop := e = .returned (.tuple #[.agg x.doc, .int .i64 n]) ∧ Below w.heap.size w w'

set_option maxRecDepth 100000 in
set_option maxHeartbeats 10000000 in
theorem refRead_any (n₀ : Nat) (v : Value) (bs : List (BitVec 8)) (w : World) (hv : BytesAt n₀ w v bs) (hn : n₀ ≤ w.heap.size) (hl : bs.length ≤ 549755813888) :
    Calls Try.prog 13 #[v] w (RefLeafRet (readL bs) (readErr bs) w) := by
  have hB0 : Below w.heap.size w (w.alloc (.cells LeafP.zero.doc 29)) := (Below.refl _ _).alloc (Nat.le_refl _) _
  have HV := Lib.hid hv
  have HNN := Lib.hid hn
  have hZ : (w.alloc (.cells LeafP.zero.doc 29)).heap[w.heap.size]? = some (.cells LeafP.zero.doc 29 (0, 0)) := heap_alloc_new _ _
  have HB0 := Lib.hid hB0
  have HZ := Lib.hid hZ
  have HVL := Lib.hid hl
  have HEND : Hid (∀ (er : Int) (x : LeafP) W, readErr bs = er → readL bs = x → Below w.heap.size w W → RefLeafRet (readL bs) (readErr bs) w (.returned (.tuple #[.agg x.doc, .int .i64 er])) W) := fun er x W h1 h2 h3 => ⟨by rw [h1, h2], h3⟩
  obtain ⟨a, cap, rfl, hcap, _⟩ := id hv
  clear hB0 hZ hv hn
  by_cases s1 : 96 ≤ (bs.length : Int)
  · by_cases s2 : (bs.length : Int) ≤ 512
    · have hs : sizeB bs.length = true := by unfold sizeB; simp; omega
      have hne : bs ≠ [] := fun h => by rw [h] at s1; exact absurd s1 (by decide)
      obtain ⟨_, _, e1, _, _, hv2⟩ := HV.out
      cases e1
      obtain ⟨g, off, rfl, hg, hc⟩ := hv2.resolve_left hne
      have hc0 := hc 0 (by omega)
      have HG := Lib.hid hg
      clear hv2 hne hc hg
      have OF1 := Lib.hid (fun W (hW : Below w.heap.size w W) => (show Calls Try.prog 31 #[.slice (some ⟨g, off + 1, none⟩) 2 (cap - 1)] W fun e w' => e = .returned (.int .u64 (secN bs : Nat)) ∧ W = w' from (refOf_any n₀ ((bs.drop 1).take 2) _ W ((HV.out.below (hW.mono HNN.out)).mid 1 3 (by decide) (by omega)) (by rw [List.length_take]; omega)).mono fun e w' h => ⟨by rw [h.1, refOf_eq _ (by rw [List.length_take]; omega)]; rfl, h.2⟩))
      have OF2 := Lib.hid (fun W (hW : Below w.heap.size w W) => (show Calls Try.prog 31 #[.slice (some ⟨g, off + 7, none⟩) 8 (cap - 7)] W fun e w' => e = .returned (.int .u64 (secS bs : Nat)) ∧ W = w' from (refOf_any n₀ ((bs.drop 7).take 8) _ W ((HV.out.below (hW.mono HNN.out)).mid 7 15 (by decide) (by omega)) (by rw [List.length_take]; omega)).mono fun e w' h => ⟨by rw [h.1, refOf_eq _ (by rw [List.length_take]; omega)]; rfl, h.2⟩))
      have OF3 := Lib.hid (fun W (hW : Below w.heap.size w W) => (show Calls Try.prog 31 #[.slice (some ⟨g, off + 3, none⟩) 4 (cap - 3)] W fun e w' => e = .returned (.int .u64 (secP bs : Nat)) ∧ W = w' from (refOf_any n₀ ((bs.drop 3).take 4) _ W ((HV.out.below (hW.mono HNN.out)).mid 3 7 (by decide) (by omega)) (by rw [List.length_take]; omega)).mono fun e w' h => ⟨by rw [h.1, refOf_eq _ (by rw [List.length_take]; omega)]; rfl, h.2⟩))
      have hn1 := secN_lt bs
      have hs1 := secS_lt bs
      have hp1 := secP_lt bs
      have hk1 := secK_lt bs
      by_cases n1 : (secN bs : Int) ≤ (bs.length : Int) - 19
      · by_cases t1 : secS bs ≤ 9223372036854775807
        · have hy := seem_secL bs n1 t1
          have HRE : Hid (readErr bs = if buildErr bs.length (secL bs).kind (secL bs).place (secL bs).stamp (secL bs).load.length = 0 ∧ leafB bs.length (secL bs).kind (secL bs).place (secL bs).stamp (secL bs).load = bs then 0 else 5) := by unfold Hid readErr; rw [if_pos hs, hy]
          have HRL : Hid (readL bs = if readErr bs = 0 then secL bs else LeafP.zero) := by unfold Hid readL; rw [hy]
          have hld : (secL bs).load.length = secN bs := by show ((bs.drop 15).take (secN bs)).length = _; rw [List.length_take, List.length_drop]; omega
          have HBU := Lib.hid (fun W => (show Calls Try.prog 6 #[.int .i64 bs.length, .agg (secL bs).doc] W (Built (buildB bs.length (secL bs).kind (secL bs).place (secL bs).stamp (secL bs).load) (buildErr bs.length (secL bs).kind (secL bs).place (secL bs).stamp (secL bs).load.length) W) from refBuild_any bs.length (secL bs) W (by show (secS bs : Int) ≤ _; omega) (by rw [hld]; unfold maxLen; omega)))
          have HS : Hid (∀ W, Below w.heap.size w W → (convert 30 9 (.slice (some ⟨g, off + 15, none⟩) (secN bs) (cap - 15))).run Try.prog W = .ok (.string (strB (secL bs).load)) W ∧ W.cell? ⟨g, off, none⟩ = some (.int .u8 (secK bs : Nat))) := fun W hW => by
            have h := (HV.out.below (hW.mono HNN.out)).mid 15 (15 + secN bs) (by omega) (by omega)
            rw [show 15 + secN bs - 15 = secN bs by omega] at h
            refine ⟨conv_str h, ?_⟩
            obtain ⟨_, _, e1, _, _, hv2⟩ := HV.out.below (hW.mono HNN.out)
            cases e1
            obtain ⟨g', off', e2, _, hc⟩ := hv2.resolve_left (fun h => by rw [h] at s1; exact absurd s1 (by decide))
            cases e2
            exact hc 0 (by omega)
          have HCS := Lib.hid (fun W (hW : Below w.heap.size w W) => conv_str (HV.out.below (hW.mono HNN.out)))
          have HYD : Hid ((secL bs).doc = #[.int .i64 (secK bs : Nat), .int .i64 (secP bs : Nat), .int .i64 (secS bs : Nat), .string (strB (secL bs).load)]) := rfl
          have HBE := Lib.hid (fun B => strB_beq B bs)
          obtain ⟨y, hyy⟩ : ∃ y, secL bs = y := ⟨_, rfl⟩
          obtain ⟨nn, hnn⟩ : ∃ n, secN bs = n := ⟨_, rfl⟩
          obtain ⟨pp, hpp⟩ : ∃ n, secP bs = n := ⟨_, rfl⟩
          obtain ⟨ss, hss⟩ : ∃ n, secS bs = n := ⟨_, rfl⟩
          obtain ⟨kk, hkk⟩ : ∃ n, secK bs = n := ⟨_, rfl⟩
          simp only [hyy, hnn, hpp, hss, hkk] at HRE HRL HBU HS HYD OF1 OF2 OF3 hn1 hs1 hp1 hk1 n1 t1
          clear hyy hnn hpp hss hkk hy hld hc0 hs HVL HEND HV
          obtain ⟨L, hL⟩ : ∃ L, bs.length = L := ⟨_, rfl⟩
          simp only [hL] at HRE HBU HCS s1 s2 n1 hcap ⊢
          clear hL
          go_enter Try.func13, Try.ntmps13
          go_upto_region 1 with (fail)
          change (Code.region _ _ _).wp _ _ _ (w.alloc (.cells LeafP.zero.doc 29))
          generalize w.alloc (.cells LeafP.zero.doc 29) = w0 at HZ HB0 ⊢
          go_upto_region 7 with (first
            | (go_at_call 31; (with_reducible refine (OF1.out _ HB0.out).mono ?_); rintro e w' ⟨rfl, rfl⟩)
            | (go_at_call 31; (with_reducible refine (OF2.out _ HB0.out).mono ?_); rintro e w' ⟨rfl, rfl⟩))
          have hb0 : Below w.heap.size w w0.drew := HB0.out.drew
          have hb1 : Below w.heap.size w (w0.alloc (.cells #[.int .i64 0, .int .i64 0, .int .i64 0, .string ⟨#[]⟩] 29)).drew := (HB0.out.alloc HB0.out.size _).drew
          have hb2 : Below w.heap.size w (w0.alloc (.cells #[.int .i64 (kk : Nat), .int .i64 (pp : Nat), .int .i64 (ss : Nat), .string (strB y.load)] 29)).drew := (HB0.out.alloc HB0.out.size _).drew
          have k1 : (L : Int) ≤ cap := by omega
          have k4 : ¬ (cap = 15) := by omega
          have k5 : ¬ (cap = 3) := by omega
          have y4 : IntKind.i64.wrap (ss : Int) = ss := IntWalk.i64_in _ (by omega)
          have z0 : (0 : Int) < L := by omega
          have z1 : (7 : Int) ≤ cap := by omega
          have y2 : 0 < L := by omega
          have y3 : 15 + nn ≤ cap := by omega
          have z2 : (7 : Int) ≤ L := by omega
          have z3 : (15 : Int) + nn ≤ cap := by omega
          have z4 : IntKind.i64.wrap (15 + (nn : Int)) = 15 + (nn : Int) := IntWalk.i64_in _ (by omega)
          have z5 : wrap64 (15 + (nn : Int)) = 15 + (nn : Int) := by unfold wrap64; omega
          have z6 : (15 : Int) ≤ 15 + nn := by omega
          have z7 : (15 : Int) ≤ cap := by omega
          have z8 : (0 : Int) ≤ 15 + nn := by omega
          have z9 : IntKind.i64.wrap (kk : Int) = kk := IntWalk.i64_in _ (by omega)
          have y0 : IntKind.i64.wrap (pp : Int) = pp := IntWalk.i64_in _ (by omega)
          have y1 : (15 + (nn : Int)).toNat - 15 = nn := by omega
          go_cut [6] (fun s6 wx => s6 = .pointer (some ⟨w0.heap.size, 0, none⟩) ∧ wx = (w0.alloc (.cells #[.int .i64 (kk : Nat), .int .i64 (pp : Nat), .int .i64 (ss : Nat), .string (strB y.load)] 29)).drew)
          case first =>
            go_region_held3 (fun W => (convert 30 9 (.slice (some ⟨g, off + 15, none⟩) nn (cap - 15))).run Try.prog W = .ok (.string (strB y.load)) W ∧ W.cell? ⟨g, off, none⟩ = some (.int .u8 (kk : Nat)))
              (first | exact HS.out _ hb0 | exact HS.out _ hb1 | exact HS.out _ hb2)
              (first
                | (go_at_call 31; (with_reducible refine (OF3.out _ hb0).mono ?_); rintro e w' ⟨rfl, rfl⟩)
                | (go_at_call 31; (with_reducible refine (OF3.out _ hb1).mono ?_); rintro e w' ⟨rfl, rfl⟩))
            all_goals (go_wp2_with fail)
            all_goals go_meet
            all_goals exact ⟨rfl, rfl⟩
          case rest =>
            obtain ⟨rfl, rfl⟩ := hcut
            rw [← HYD.out] at hb2 ⊢
            have hP : (w0.alloc (.cells y.doc 29)).drew.heap[w0.heap.size]? = some (.cells y.doc 29 (0, 0)) := heap_alloc_new w0 _
            have hZ : (w0.alloc (.cells y.doc 29)).drew.heap[w.heap.size]? = some (.cells LeafP.zero.doc 29 (0, 0)) := blk_alloc HZ.out _
            obtain ⟨w4, hw4⟩ : ∃ w4, (w0.alloc (.cells y.doc 29)).drew = w4 := ⟨_, rfl⟩
            obtain ⟨P, hPP⟩ : ∃ P, w0.heap.size = P := ⟨_, rfl⟩
            rw [hw4] at hb2 hP hZ ⊢
            rw [hPP] at hP ⊢
            have HP4 := Lib.hid hP
            have HZ4 := Lib.hid hZ
            have HB4 := Lib.hid hb2
            clear hP hZ hb2 hw4 hPP hb0 hb1 z0 z1 z2 z3 z4 z5 z6 z7 z8 z9 y0 y1 y2 y3 y4 k1 k4 k5 HB0 HZ OF1 OF2 OF3 HS HYD
            by_cases he : buildErr L y.kind y.place y.stamp y.load.length = 0
            · have hbb : buildB L y.kind y.place y.stamp y.load = leafB L y.kind y.place y.stamp y.load := by unfold buildB; rw [if_pos he]
              rw [hbb, he] at HBU
              rw [he] at HRE
              obtain ⟨B, hB⟩ : ∃ B, leafB L y.kind y.place y.stamp y.load = B := ⟨_, rfl⟩
              rw [hB] at HBU HRE
              have hbe := HBE.out B
              clear hbb he hB
              by_cases hbs : B = bs
              · have HE : Hid (readErr bs = 0) := by unfold Hid; rw [HRE.out, if_pos ⟨rfl, hbs⟩]
                have HR : Hid (readL bs = y) := by unfold Hid; rw [HRL.out, HE.out]; rfl
                have hd : decide (B = bs) = true := by simpa using hbs
                rw [hd] at hbe
                clear HRE HRL hd hbs
                go_wp2_with (first
                  | (refine wpList_load_row (o := ⟨some 54, _, _, _, _, _⟩) rfl 29 (.tmp 6) rfl P rfl 29 y.doc (0, 0) _ HP4.out Try.underlying29 rfl (doc_sz _) ?_)
                  | (go_at_call 6; (with_reducible refine (HBU.out _).mono ?_); rintro e w5 ⟨u5, rfl, hu5, hb5⟩; have hc5 := conv_str (BytesAt.of_owns hu5); have hc0 := HCS.out _ (HB4.out.trans (hb5.mono HB4.out.size)); have HB5 := Lib.hid hb5; have HP5 := Lib.hid ((hb5.block _ (blk_lt HP4.out)).trans HP4.out); have HZ5 := Lib.hid ((hb5.block _ (blk_lt HZ4.out)).trans HZ4.out); clear hu5 hb5)
                  | (refine wpList_load_row (o := ⟨some 68, _, _, _, _, _⟩) rfl 29 (.tmp 6) rfl P rfl 29 y.doc (0, 0) _ HP5.out Try.underlying29 rfl (doc_sz _) ?_)
                  | (refine wpList_store_row (o := ⟨none, _, _, _, _, _⟩) rfl 29 (.tmp 2) (.tmp 68) rfl w.heap.size y.doc rfl rfl 29 LeafP.zero.doc HZ5.out (doc_sz _) rfl ?_ ?_; exact doc_one _))
                exact bodyPost_ret (refRead_res _ w.heap.size y 0 _ (setRow_heap _ _ _ _ _ _ HZ5.out) rfl rfl) rfl ⟨by rw [HE.out, HR.out], below_setRow (HB4.out.trans (HB5.out.mono HB4.out.size)) (Nat.le_refl _) _⟩
              · have HE : Hid (readErr bs = 5) := by unfold Hid; rw [HRE.out, if_neg (fun h => hbs h.2)]
                have HR : Hid (readL bs = LeafP.zero) := by unfold Hid; rw [HRL.out, HE.out]; rfl
                have hd : decide (B = bs) = false := by simpa using hbs
                rw [hd] at hbe
                clear HRE HRL hd hbs
                go_wp2_with (first
                  | (refine wpList_load_row (o := ⟨some 54, _, _, _, _, _⟩) rfl 29 (.tmp 6) rfl P rfl 29 y.doc (0, 0) _ HP4.out Try.underlying29 rfl (doc_sz _) ?_)
                  | (go_at_call 6; (with_reducible refine (HBU.out _).mono ?_); rintro e w5 ⟨u5, rfl, hu5, hb5⟩; have hc5 := conv_str (BytesAt.of_owns hu5); have hc0 := HCS.out _ (HB4.out.trans (hb5.mono HB4.out.size)); have HB5 := Lib.hid hb5; have HZ5 := Lib.hid ((hb5.block _ (blk_lt HZ4.out)).trans HZ4.out); clear hu5 hb5)
                  | (refine wpList_store_row (o := ⟨none, _, _, _, _, _⟩) rfl 29 (.tmp 2) (.tmp 67) rfl w.heap.size LeafP.zero.doc rfl rfl 29 LeafP.zero.doc HZ5.out (doc_sz _) rfl ?_ ?_; exact doc_one _))
                exact bodyPost_ret (refRead_res _ w.heap.size LeafP.zero 5 _ (setRow_heap _ _ _ _ _ _ HZ5.out) rfl rfl) rfl ⟨by rw [HE.out, HR.out], below_setRow (HB4.out.trans (HB5.out.mono HB4.out.size)) (Nat.le_refl _) _⟩
            · have HE : Hid (readErr bs = 5) := by unfold Hid; rw [HRE.out, if_neg (fun h => he h.1)]
              have HR : Hid (readL bs = LeafP.zero) := by unfold Hid; rw [HRL.out, HE.out]; rfl
              obtain ⟨er, her⟩ : ∃ er, buildErr L y.kind y.place y.stamp y.load.length = er := ⟨_, rfl⟩
              rw [her] at HBU he
              have hne : (er != 0) = true := by simpa using he
              clear HRE HRL her he
              go_wp2_with (first
                | (refine wpList_load_row (o := ⟨some 54, _, _, _, _, _⟩) rfl 29 (.tmp 6) rfl P rfl 29 y.doc (0, 0) _ HP4.out Try.underlying29 rfl (doc_sz _) ?_)
                | (go_at_call 6; (with_reducible refine (HBU.out _).mono ?_); rintro e w5 ⟨u5, rfl, hu5, hb5⟩; have HB5 := Lib.hid hb5; have HZ5 := Lib.hid ((hb5.block _ (blk_lt HZ4.out)).trans HZ4.out); clear hu5 hb5)
                | (refine wpList_store_row (o := ⟨none, _, _, _, _, _⟩) rfl 29 (.tmp 2) (.tmp 67) rfl w.heap.size LeafP.zero.doc rfl rfl 29 LeafP.zero.doc HZ5.out (doc_sz _) rfl ?_ ?_; exact doc_one _))
              exact bodyPost_ret (refRead_res _ w.heap.size LeafP.zero 5 _ (setRow_heap _ _ _ _ _ _ HZ5.out) rfl rfl) rfl ⟨by rw [HE.out, HR.out], below_setRow (HB4.out.trans (HB5.out.mono HB4.out.size)) (Nat.le_refl _) _⟩
        · have HE : Hid (readErr bs = 5) := read_neg bs hs (by omega)
          have HR : Hid (readL bs = LeafP.zero) := by unfold Hid readL; rw [HE.out]; rfl
          have HN := Lib.hid (fun W => HEND.out 5 LeafP.zero W HE.out HR.out)
          obtain ⟨nn, hnn⟩ : ∃ n, secN bs = n := ⟨_, rfl⟩
          obtain ⟨ss, hss⟩ : ∃ n, secS bs = n := ⟨_, rfl⟩
          simp only [hnn, hss] at OF1 OF2 hn1 hs1 n1 t1
          have t2 : (9223372036854775807 : Int) < ss := by omega
          clear hnn hss hc0 hs HVL HE HR HEND t1
          go_enter Try.func13, Try.ntmps13
          go_upto_region 1 with (fail)
          change (Code.region _ _ _).wp _ _ _ (w.alloc (.cells LeafP.zero.doc 29))
          generalize w.alloc (.cells LeafP.zero.doc 29) = w0 at HZ HB0 ⊢
          go_wp2_with (first
            | (go_at_call 31; (with_reducible refine (OF1.out _ HB0.out).mono ?_); rintro e w' ⟨rfl, rfl⟩)
            | (go_at_call 31; (with_reducible refine (OF2.out _ HB0.out).mono ?_); rintro e w' ⟨rfl, rfl⟩)
            | (refine wpList_store_row (o := ⟨none, _, _, _, _, _⟩) rfl 29 (.tmp 2) (.tmp 34) rfl w.heap.size LeafP.zero.doc rfl rfl 29 LeafP.zero.doc HZ.out (doc_sz _) rfl ?_ ?_; exact doc_one _))
          exact bodyPost_ret (refRead_res _ w.heap.size LeafP.zero 5 _ (setRow_heap _ _ _ _ _ _ HZ.out) rfl rfl) rfl (HN.out _ (below_setRow HB0.out (Nat.le_refl _) _))
      · have HE : Hid (readErr bs = 5) := read_long bs hs (by omega)
        have HR : Hid (readL bs = LeafP.zero) := by unfold Hid readL; rw [HE.out]; rfl
        have HN := Lib.hid (fun W => HEND.out 5 LeafP.zero W HE.out HR.out)
        obtain ⟨nn, hnn⟩ : ∃ n, secN bs = n := ⟨_, rfl⟩
        obtain ⟨ss, hss⟩ : ∃ n, secS bs = n := ⟨_, rfl⟩
        simp only [hnn, hss] at OF1 OF2 hn1 hs1 n1
        have n2 : (bs.length : Int) - 19 < nn := by omega
        clear hnn hss hc0 hs HVL HE HR HEND n1
        go_enter Try.func13, Try.ntmps13
        go_upto_region 1 with (fail)
        change (Code.region _ _ _).wp _ _ _ (w.alloc (.cells LeafP.zero.doc 29))
        generalize w.alloc (.cells LeafP.zero.doc 29) = w0 at HZ HB0 ⊢
        go_wp2_with (first
          | (go_at_call 31; (with_reducible refine (OF1.out _ HB0.out).mono ?_); rintro e w' ⟨rfl, rfl⟩)
          | (go_at_call 31; (with_reducible refine (OF2.out _ HB0.out).mono ?_); rintro e w' ⟨rfl, rfl⟩)
          | (refine wpList_store_row (o := ⟨none, _, _, _, _, _⟩) rfl 29 (.tmp 2) (.tmp 34) rfl w.heap.size LeafP.zero.doc rfl rfl 29 LeafP.zero.doc HZ.out (doc_sz _) rfl ?_ ?_; exact doc_one _))
        exact bodyPost_ret (refRead_res _ w.heap.size LeafP.zero 5 _ (setRow_heap _ _ _ _ _ _ HZ.out) rfl rfl) rfl (HN.out _ (below_setRow HB0.out (Nat.le_refl _) _))
    · have HE : Hid (readErr bs = 3) := by unfold Hid readErr; rw [if_neg (by unfold sizeB; simp; omega)]
      have HR : Hid (readL bs = LeafP.zero) := by unfold Hid readL; rw [HE.out]; rfl
      have HN := Lib.hid (fun W => HEND.out 3 LeafP.zero W HE.out HR.out)
      clear HE HR HEND
      go_enter Try.func13, Try.ntmps13
      go_upto_region 1 with (fail)
      change (Code.region _ _ _).wp _ _ _ (w.alloc (.cells LeafP.zero.doc 29))
      generalize w.alloc (.cells LeafP.zero.doc 29) = w0 at HZ HB0 ⊢
      go_wp2_with (refine wpList_store_row (o := ⟨none, _, _, _, _, _⟩) rfl 29 (.tmp 2) (.tmp 17) rfl w.heap.size LeafP.zero.doc rfl rfl 29 LeafP.zero.doc HZ.out (doc_sz _) rfl ?_ ?_; exact doc_one _)
      exact bodyPost_ret (refRead_res _ w.heap.size LeafP.zero 3 _ (setRow_heap _ _ _ _ _ _ HZ.out) rfl rfl) rfl (HN.out _ (below_setRow HB0.out (Nat.le_refl _) _))
  · have HE : Hid (readErr bs = 3) := by unfold Hid readErr; rw [if_neg (by unfold sizeB; simp; omega)]
    have HR : Hid (readL bs = LeafP.zero) := by unfold Hid readL; rw [HE.out]; rfl
    have HN := Lib.hid (fun W => HEND.out 3 LeafP.zero W HE.out HR.out)
    clear HE HR HEND
    go_enter Try.func13, Try.ntmps13
    go_upto_region 1 with (fail)
    change (Code.region _ _ _).wp _ _ _ (w.alloc (.cells LeafP.zero.doc 29))
    generalize w.alloc (.cells LeafP.zero.doc 29) = w0 at HZ HB0 ⊢
    go_wp2_with (refine wpList_store_row (o := ⟨none, _, _, _, _, _⟩) rfl 29 (.tmp 2) (.tmp 17) rfl w.heap.size LeafP.zero.doc rfl rfl 29 LeafP.zero.doc HZ.out (doc_sz _) rfl ?_ ?_; exact doc_one _)
    exact bodyPost_ret (refRead_res _ w.heap.size LeafP.zero 3 _ (setRow_heap _ _ _ _ _ _ HZ.out) rfl rfl) rfl (HN.out _ (below_setRow HB0.out (Nat.le_refl _) _))
end Go.Proofs.Ytiibpkncdflfcaa

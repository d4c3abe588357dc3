/-
  The document's answer which record bytes begin with: sgraffitoref09.Unpack.
  Conditions: none.
-/
import Derived.Test.YtakipdfmlolgfaaRefRecMath
import Derived.Test.YtakipdfmlolgfaaRec5
import Derived.Test.YtakipdfmlolgfaaRefOf
import Derived.Deep.RegionHeld3
import Derived.StillTailTactics
import Derived.Deep.QuietTactic
import Derived.BigQuiet
namespace Go.Proofs.Ytakipdfmlolgfaa
open Go.RowKit

theorem BytesAt.mid {n₀ : Nat} {w : World} {g off n cap : Nat} {bs : List (BitVec 8)} (h : BytesAt n₀ w (.slice (some ⟨g, off, none⟩) n cap) bs) (i j : Nat) (hij : i ≤ j) (hj : j ≤ bs.length) :
    BytesAt n₀ w (.slice (some ⟨g, off + i, none⟩) (j - i) (cap - i)) ((bs.drop i).take (j - i)) := by
  have h1 := h.suf i (by omega)
  rw [add_plain] at h1
  exact h1.pre (j - i) (by rw [List.length_drop]; omega)
theorem rdoc_sz (x : RecP) : (Try.prog.info? 29).map (·.size) = some x.doc.size := by show _ = some 3; kernel_rfl
theorem rdoc_one (x : RecP) : x.doc.all (·.oneCell') = true := by simp [RecP.doc, Value.oneCell']
theorem refUnp_res (w : World) (z : Nat) (x : RecP) (n er : Int) (a : Act) (h : w.heap[z]? = some (.cells x.doc 29 (0, 0))) (h2 : a.tmps.getD 2 undef = .pointer (some ⟨z, 0, none⟩)) (h3 : a.tmps.getD 3 undef = .int .i64 n) (h4 : a.tmps.getD 4 undef = .int .i64 er) :
    (results Try.f6 a.tmps).run Try.prog w = .ok (.tuple #[.agg x.doc, .int .i64 n, .int .i64 er]) w := by
  have h2' : a.tmps[2]?.getD undef = .pointer (some ⟨z, 0, none⟩) := by simpa using h2
  have h3' : a.tmps[3]?.getD undef = .int .i64 n := by simpa using h3
  have h4' : a.tmps[4]?.getD undef = .int .i64 er := by simpa using h4
  simp [results, Try.results6, h2', h3', h4', asAddr, run_loadVar_row w z 29 29 x.doc (0, 0) _ h Try.underlying29 rfl (rdoc_sz x)]
def RefUnp (x : RecP) (n er : Int) (w : World) (e : Ending) (w' : World) : Prop := e = .returned (.tuple #[.agg x.doc, .int .i64 n, .int .i64 er]) ∧ Below w.heap.size w w'

set_option maxRecDepth 100000 in
set_option maxHeartbeats 10000000 in
theorem refUnp_any (n₀ : Nat) (v : Value) (bs : List (BitVec 8)) (w : World) (hv : BytesAt n₀ w v bs) (hn : n₀ ≤ w.heap.size) (hl : bs.length ≤ 549755813888) :
    Calls Try.prog 6 #[v] w (RefUnp (unpRec bs) (unpN bs) (unpErr bs) w) := by
  have hB0 : Below w.heap.size w (w.alloc (.cells RecP.zero.doc 29)) := (Below.refl _ _).alloc (Nat.le_refl _) _
  have HV := Lib.hid hv
  have HNN := Lib.hid hn
  have hZ : (w.alloc (.cells RecP.zero.doc 29)).heap[w.heap.size]? = some (.cells RecP.zero.doc 29 (0, 0)) := heap_alloc_new _ _
  have HB0 := Lib.hid hB0
  have HZ := Lib.hid hZ
  have HBAD : Hid (∀ W, ¬ recGood bs → Below w.heap.size w W → RefUnp (unpRec bs) (unpN bs) (unpErr bs) w (.returned (.tuple #[.agg RecP.zero.doc, .int .i64 0, .int .i64 5])) W) := fun W h1 h2 => ⟨by unfold unpRec unpN unpErr; rw [if_neg h1, if_neg h1, if_neg h1], h2⟩
  obtain ⟨a, cap, rfl, hcap, _⟩ := id hv
  have hl0 : (bs.length : Int) ≤ 549755813888 := by omega
  clear hB0 hZ hv hn
  by_cases s1 : 13 ≤ (bs.length : Int)
  · have hne : bs ≠ [] := fun h => by rw [h] at s1; exact absurd s1 (by decide)
    obtain ⟨_, _, e1, _, _, hv2⟩ := HV.out
    cases e1
    obtain ⟨g, off, rfl, hg, hc⟩ := hv2.resolve_left hne
    clear hv2 hne hc hg
    have HL := Lib.hid (show 13 ≤ bs.length ∧ bs.length ≤ 549755813888 from ⟨by omega, hl⟩)
    have OF1 := Lib.hid (fun W (hW : Below w.heap.size w W) => (show Calls Try.prog 18 #[.slice (some ⟨g, off + 2, none⟩) 2 (cap - 2)] W fun e w' => e = .returned (.int .u64 (rv bs : Nat)) ∧ W = w' from (refOf_any n₀ ((bs.drop 2).take 2) _ W ((HV.out.below (hW.mono HNN.out)).mid 2 4 (by decide) (by omega)) (by rw [List.length_take]; omega)).mono fun e w' h => ⟨by rw [h.1, refOf_eq _ (by rw [List.length_take]; omega)]; rfl, h.2⟩))
    have OF2 := Lib.hid (fun W (hW : Below w.heap.size w W) => (show Calls Try.prog 18 #[.slice (some ⟨g, off + 4, none⟩) 8 (cap - 4)] W fun e w' => e = .returned (.int .u64 (rE bs : Nat)) ∧ W = w' from (refOf_any n₀ ((bs.drop 4).take 8) _ W ((HV.out.below (hW.mono HNN.out)).mid 4 12 (by decide) (by omega)) (by rw [List.length_take]; omega)).mono fun e w' h => ⟨by rw [h.1, refOf_eq _ (by rw [List.length_take]; omega)]; rfl, h.2⟩))
    have HK : Hid (∀ W, Below w.heap.size w W → W.cell? ⟨g, off + 1, none⟩ = some (.int .u8 (rk bs : Nat))) := fun W hW => by
      obtain ⟨_, _, e1, _, _, hv2⟩ := HV.out.below (hW.mono HNN.out)
      cases e1
      obtain ⟨g', off', e2, _, hc⟩ := hv2.resolve_left (fun h => by rw [h] at s1; exact absurd s1 (by decide))
      cases e2
      exact hc 1 (by omega)
    have hk1 := rk_lt bs
    have hv1 := rv_lt bs
    have he1 := rE_lt bs
    have HGOOD := Lib.hid (fun h1 h2 => good_iff bs h1 h2)
    have HPART := Lib.hid (fun h1 h2 h3 => good_parts bs h1 h2 h3)
    have HBO := Lib.hid (bad_of bs)
    have hxl := recX_len bs
    have HCV : Hid (13 + rk bs + rv bs ≤ bs.length → ∀ W, Below w.heap.size w W → (convert 22 9 (.slice (some ⟨g, off + 12, none⟩) (rk bs) (cap - 12))).run Try.prog W = .ok (.string (strB (recX bs).key)) W ∧ (convert 22 9 (.slice (some ⟨g, off + (12 + rk bs), none⟩) (rv bs) (cap - (12 + rk bs)))).run Try.prog W = .ok (.string (strB (recX bs).val)) W ∧ (convert 22 9 (.slice (some ⟨g, off, none⟩) (13 + rk bs + rv bs) cap)).run Try.prog W = .ok (.string (strB (bs.take (13 + rk bs + rv bs)))) W) := fun hle W hW => by
      have hb := HV.out.below (hW.mono HNN.out)
      have m1 := hb.mid 12 (12 + rk bs) (by omega) (by omega)
      have m2 := hb.mid (12 + rk bs) (12 + rk bs + rv bs) (by omega) (by omega)
      rw [show 12 + rk bs - 12 = rk bs by omega] at m1
      rw [show 12 + rk bs + rv bs - (12 + rk bs) = rv bs by omega] at m2
      exact ⟨conv_str m1, conv_str m2, conv_str (hb.pre _ hle)⟩
    have HXD : Hid ((recX bs).doc = #[.string (strB (recX bs).key), .string (strB (recX bs).val), .int .i64 (rE bs : Nat)]) := rfl
    have HXL := Lib.hid hxl
    have HPK : Hid (∀ W, 13 + rk bs + rv bs ≤ bs.length → Calls Try.prog 19 #[.agg (recX bs).doc] W (Packed (if packErr (rk bs) (rv bs) (rE bs) = 0 then recB (recX bs).key (recX bs).val (rE bs) else []) (packErr (rk bs) (rv bs) (rE bs)) W)) := fun W hle => by
      obtain ⟨x1, x2⟩ := HXL.out hle
      have := ref09Pack_any (recX bs) W (by omega) (by omega)
      unfold packB at this
      rw [x1, x2] at this
      exact this
    obtain ⟨x, hx⟩ : ∃ x, recX bs = x := ⟨_, rfl⟩
    obtain ⟨kk, hkk⟩ : ∃ n, rk bs = n := ⟨_, rfl⟩
    obtain ⟨vv, hvv⟩ : ∃ n, rv bs = n := ⟨_, rfl⟩
    obtain ⟨ee, hee⟩ : ∃ n, rE bs = n := ⟨_, rfl⟩
    simp only [hx, hkk, hvv, hee] at OF1 OF2 HK hk1 hv1 he1 HGOOD HPART HBO HCV HXD HPK
    have HS := Lib.hid (fun B : List (BitVec 8) => strB_beq B (bs.take (13 + kk + vv)))
    clear hx hkk hvv hee hxl HXL HV
    obtain ⟨L, hL⟩ : ∃ L, bs.length = L := ⟨_, rfl⟩
    simp only [hL] at s1 hcap hl0 HL HGOOD HPART HBO HCV HPK ⊢
    clear hL hl
    have k1 : (L : Int) ≤ cap := by omega
    have k2 : ¬ (cap = 2) := by omega
    have k4 : ¬ (cap = 4) := by omega
    have z0 : 1 < L := by omega
    have z1 : (1 : Int) < L := by omega
    have z2 : (4 : Int) ≤ cap := by omega
    have z3 : (12 : Int) ≤ cap := by omega
    have z4 : IntKind.i64.wrap (kk : Int) = kk := IntWalk.i64_in _ (by omega)
    have z5 : IntKind.i64.wrap (vv : Int) = vv := IntWalk.i64_in _ (by omega)
    go_enter Try.func6, Try.ntmps6
    go_upto_region 1 with (fail)
    change (Code.region _ _ _).wp _ _ _ (w.alloc (.cells RecP.zero.doc 29))
    generalize w.alloc (.cells RecP.zero.doc 29) = w0 at HZ HB0 ⊢
    go_upto_region 3 with (fail)
    have hb0 : Below w.heap.size w w0.drew := HB0.out.drew
    go_cut [5, 6] (fun s5 s6 wx => s5 = .int .i64 (kk : Nat) ∧ s6 = .int .i64 (vv : Nat) ∧ wx = w0.drew)
    case first =>
      go_region_held3 (fun W => W.cell? ⟨g, off + 1, none⟩ = some (.int .u8 (kk : Nat)))
        (exact HK.out _ hb0)
        ((go_at_call 18; (with_reducible refine (OF1.out _ hb0).mono ?_); rintro e w' ⟨rfl, rfl⟩))
      all_goals (go_wp2_with fail)
      all_goals go_meet
      all_goals exact ⟨rfl, rfl, rfl⟩
    case rest =>
      obtain ⟨rfl, rfl, rfl⟩ := hcut
      have HZ1 : Hid (w0.drew.heap[w.heap.size]? = some (.cells RecP.zero.doc 29 (0, 0))) := HZ.out
      obtain ⟨w1, hw1⟩ : ∃ w1, w0.drew = w1 := ⟨_, rfl⟩
      rw [hw1] at hb0 HZ1 ⊢
      have HB1 := Lib.hid hb0
      clear HZ HB0 hb0 hw1 OF1 HK
      by_cases n1 : 13 + kk + vv ≤ L
      · by_cases t1 : ee ≤ 281474976710656
        · have n2 : 13 + (kk : Int) + vv ≤ L := by omega
          have t2 : (ee : Int) ≤ 281474976710656 := by omega
          have HG2 := Lib.hid (HGOOD.out n1 t1)
          have HP2 := Lib.hid (HPART.out n1 t1)
          have HC2 := Lib.hid (HCV.out n1)
          have HPK2 := Lib.hid (fun W => HPK.out W n1)
          go_upto_region 7 with (go_at_call 18; (with_reducible refine (OF2.out _ HB1.out).mono ?_); rintro e w' ⟨rfl, rfl⟩)
          have hb1 : Below w.heap.size w w1.drew := HB1.out.drew
          have hb2 : Below w.heap.size w (w1.alloc (.cells #[.string ⟨#[]⟩, .string ⟨#[]⟩, .int .i64 0] 29)).drew := (HB1.out.alloc HB1.out.size _).drew
          have hb3 : Below w.heap.size w (w1.alloc (.cells #[.string (strB x.key), .string (strB x.val), .int .i64 (ee : Nat)] 29)).drew := (HB1.out.alloc HB1.out.size _).drew
          have y0 : IntKind.i64.wrap (12 + (kk : Int)) = 12 + (kk : Int) := IntWalk.i64_in _ (by omega)
          have y1 : IntKind.i64.wrap (12 + (kk : Int) + vv) = 12 + (kk : Int) + vv := IntWalk.i64_in _ (by omega)
          have y2 : IntKind.i64.wrap (ee : Int) = ee := IntWalk.i64_in _ (by omega)
          have y3 : (12 : Int) ≤ 12 + kk := by omega
          have y4 : (12 : Int) + kk ≤ cap := by omega
          have y5 : (12 : Int) + kk + vv ≤ cap := by omega
          have y6 : (12 : Int) + kk ≤ 12 + kk + vv := by omega
          have y7 : ¬ (cap = 12) := by omega
          have y8 : ¬ (cap = 12 + kk) := by omega
          have y9 : (0 : Int) ≤ 12 + kk := by omega
          have x0 : 12 + kk ≤ cap := by omega
          have x1 : 12 + kk + vv ≤ cap := by omega
          have x2 : (12 + (kk : Int)).toNat = 12 + kk := by omega
          have x5 : (12 + (kk : Int) + vv).toNat = 12 + kk + vv := by omega
          have x3 : 12 + kk + vv - (12 + kk) = vv := by omega
          have x4 : (0 : Int) ≤ 12 + kk + vv := by omega
          go_cut [8] (fun s8 wx => s8 = .pointer (some ⟨w1.heap.size, 0, none⟩) ∧ wx = (w1.alloc (.cells #[.string (strB x.key), .string (strB x.val), .int .i64 (ee : Nat)] 29)).drew)
          case first =>
            go_region_held3 (fun W => (convert 22 9 (.slice (some ⟨g, off + 12, none⟩) kk (cap - 12))).run Try.prog W = .ok (.string (strB x.key)) W ∧ (convert 22 9 (.slice (some ⟨g, off + (12 + kk), none⟩) vv (cap - (12 + kk)))).run Try.prog W = .ok (.string (strB x.val)) W)
              (first | exact ⟨(HC2.out _ hb1).1, (HC2.out _ hb1).2.1⟩ | exact ⟨(HC2.out _ hb2).1, (HC2.out _ hb2).2.1⟩ | exact ⟨(HC2.out _ hb3).1, (HC2.out _ hb3).2.1⟩)
              ((fail))
            all_goals (go_wp2_with fail)
            all_goals go_meet
            all_goals exact ⟨rfl, rfl⟩
          case rest =>
            obtain ⟨rfl, rfl⟩ := hcut
            rw [← HXD.out] at hb3 ⊢
            have hP : (w1.alloc (.cells x.doc 29)).drew.heap[w1.heap.size]? = some (.cells x.doc 29 (0, 0)) := heap_alloc_new w1 _
            have hZ : (w1.alloc (.cells x.doc 29)).drew.heap[w.heap.size]? = some (.cells RecP.zero.doc 29 (0, 0)) := blk_alloc HZ1.out _
            obtain ⟨w4, hw4⟩ : ∃ w4, (w1.alloc (.cells x.doc 29)).drew = w4 := ⟨_, rfl⟩
            obtain ⟨P, hPP⟩ : ∃ P, w1.heap.size = P := ⟨_, rfl⟩
            rw [hw4] at hb3 hP hZ ⊢
            rw [hPP] at hP ⊢
            have HP4 := Lib.hid hP
            have HZ4 := Lib.hid hZ
            have HB4 := Lib.hid hb3
            have v0 : IntKind.i64.wrap (13 + (kk : Int)) = 13 + (kk : Int) := IntWalk.i64_in _ (by omega)
            have v1 : IntKind.i64.wrap (13 + (kk : Int) + vv) = 13 + (kk : Int) + vv := IntWalk.i64_in _ (by omega)
            have v2 : (13 + (kk : Int) + vv).toNat = 13 + kk + vv := by omega
            have v3 : (13 : Int) + kk + vv ≤ cap := by omega
            have v4 : (0 : Int) ≤ 13 + kk + vv := by omega
            have v5 : 13 + kk + vv ≤ cap := by omega
            clear hP hZ hb3 hw4 hPP hb1 hb2 y0 y1 y2 y3 y4 y5 y6 y7 y8 y9 x0 x1 x2 x3 x4 x5 HB1 HZ1 OF2 z0 z1 z2 z3 z4 z5 k2 k4 HXD HBO HGOOD HPART HCV HPK
            by_cases he : packErr kk vv ee = 0
            · simp only [he, if_pos] at HPK2 HG2
              have hs := HS.out (recB x.key x.val ee)
              obtain ⟨B, hB⟩ : ∃ B, recB x.key x.val ee = B := ⟨_, rfl⟩
              rw [hB] at HPK2 HG2 hs
              clear he hB
              go_upto_region 9 with (first
                | (refine wpList_load_row (o := ⟨some 56, _, _, _, _, _⟩) rfl 29 (.tmp 8) rfl P rfl 29 x.doc (0, 0) _ HP4.out Try.underlying29 rfl (rdoc_sz _) ?_)
                | (go_at_call 19; (with_reducible refine (HPK2.out _).mono ?_); rintro e w5 ⟨u5, rfl, hu5, hb5⟩; have HU5 := Lib.hid (BytesAt.of_owns hu5); have HB5 := Lib.hid hb5; have HP5 := Lib.hid ((hb5.block _ (blk_lt HP4.out)).trans HP4.out); have HZ5 := Lib.hid ((hb5.block _ (blk_lt HZ4.out)).trans HZ4.out); clear hu5 hb5))
              have HB45 := Lib.hid (HB4.out.trans (HB5.out.mono HB4.out.size))
              have hcc : (convert 22 9 u5).run Try.prog w5.drew = .ok (.string (strB B)) w5.drew ∧ (convert 22 9 (.slice (some ⟨g, off, none⟩) (13 + kk + vv) cap)).run Try.prog w5.drew = .ok (.string (strB (bs.take (13 + kk + vv)))) w5.drew := ⟨conv_str (HU5.out.drewN 1), (HC2.out _ HB45.out.drew).2.2⟩
              have HCC := Lib.hid hcc
              clear hcc
              by_cases hbs : B = bs.take (13 + kk + vv)
              · have hgood := HG2.out.2 ⟨trivial, hbs⟩
                obtain ⟨g1, g2⟩ := HP2.out hgood
                have HEND := Lib.hid (fun W (hW : Below w.heap.size w W) => (show RefUnp (unpRec bs) (unpN bs) (unpErr bs) w (.returned (.tuple #[.agg x.doc, .int .i64 (13 + (kk : Int) + vv), .int .i64 0])) W from ⟨by unfold unpRec unpN unpErr; rw [if_pos hgood, if_pos hgood, if_pos hgood, g1, g2], hW⟩))
                have hd : decide (B = bs.take (13 + kk + vv)) = true := by simpa using hbs
                rw [hd] at hs
                clear hd hbs hgood g1 g2 HG2 HP2
                go_cut [73] (fun s73 wx => s73 = .bool false ∧ wx = w5.drew)
                case first =>
                  go_region_held3 (fun W => (convert 22 9 u5).run Try.prog W = .ok (.string (strB B)) W ∧ (convert 22 9 (.slice (some ⟨g, off, none⟩) (13 + kk + vv) cap)).run Try.prog W = .ok (.string (strB (bs.take (13 + kk + vv)))) W)
                    (exact HCC.out)
                    ((fail))
                  all_goals (go_wp2_with fail)
                  all_goals go_meet
                  all_goals exact ⟨rfl, rfl⟩
                case rest =>
                  obtain ⟨rfl, rfl⟩ := hcut
                  go_wp2_with (first
                    | (refine wpList_load_row (o := ⟨some 75, _, _, _, _, _⟩) rfl 29 (.tmp 8) rfl P rfl 29 x.doc (0, 0) _ HP5.out Try.underlying29 rfl (rdoc_sz _) ?_)
                    | (refine wpList_store_row (o := ⟨none, _, _, _, _, _⟩) rfl 29 (.tmp 2) (.tmp 75) rfl w.heap.size x.doc rfl rfl 29 RecP.zero.doc HZ5.out (rdoc_sz _) rfl ?_ ?_; exact rdoc_one _))
                  exact bodyPost_ret (refUnp_res _ w.heap.size x (13 + (kk : Int) + vv) 0 _ (setRow_heap w5.drew _ _ _ _ _ HZ5.out) rfl rfl rfl) rfl (HEND.out _ (below_setRow HB45.out.drew (Nat.le_refl _) _))
              · have HN := Lib.hid (fun W => HBAD.out W (fun h => hbs (HG2.out.1 h).2))
                have hd : decide (B = bs.take (13 + kk + vv)) = false := by simpa using hbs
                rw [hd] at hs
                clear hd hbs HG2 HP2
                go_cut [73] (fun s73 wx => s73 = .bool true ∧ wx = w5.drew)
                case first =>
                  go_region_held3 (fun W => (convert 22 9 u5).run Try.prog W = .ok (.string (strB B)) W ∧ (convert 22 9 (.slice (some ⟨g, off, none⟩) (13 + kk + vv) cap)).run Try.prog W = .ok (.string (strB (bs.take (13 + kk + vv)))) W)
                    (exact HCC.out)
                    ((fail))
                  all_goals (go_wp2_with fail)
                  all_goals go_meet
                  all_goals exact ⟨rfl, rfl⟩
                case rest =>
                  obtain ⟨rfl, rfl⟩ := hcut
                  go_wp2_with (refine wpList_store_row (o := ⟨none, _, _, _, _, _⟩) rfl 29 (.tmp 2) (.tmp 74) rfl w.heap.size RecP.zero.doc rfl rfl 29 RecP.zero.doc HZ5.out (rdoc_sz _) rfl ?_ ?_; exact rdoc_one _)
                  exact bodyPost_ret (refUnp_res _ w.heap.size RecP.zero 0 5 _ (setRow_heap w5.drew _ _ _ _ _ HZ5.out) rfl rfl rfl) rfl (HN.out _ (below_setRow HB45.out.drew (Nat.le_refl _) _))
            · have HN := Lib.hid (fun W => HBAD.out W (fun h => he (HG2.out.1 h).1))
              obtain ⟨er, her⟩ : ∃ er, packErr kk vv ee = er := ⟨_, rfl⟩
              simp only [her] at HPK2 he
              have hne : (er != 0) = true := by simpa using he
              clear he her HG2 HP2
              go_upto_region 9 with (first
                | (refine wpList_load_row (o := ⟨some 56, _, _, _, _, _⟩) rfl 29 (.tmp 8) rfl P rfl 29 x.doc (0, 0) _ HP4.out Try.underlying29 rfl (rdoc_sz _) ?_)
                | (go_at_call 19; (with_reducible refine (HPK2.out _).mono ?_); rintro e w5 ⟨u5, rfl, _, hb5⟩; have HB5 := Lib.hid hb5; have HZ5 := Lib.hid ((hb5.block _ (blk_lt HZ4.out)).trans HZ4.out); clear hb5))
              have HB45 := Lib.hid (HB4.out.trans (HB5.out.mono HB4.out.size))
              go_cut [73] (fun s73 wx => s73 = .bool true ∧ ∃ k, wx = w5.drewN k)
              case first =>
                go_quiet (fail)
                all_goals (go_wp2_with fail)
                all_goals go_meet
                all_goals exact ⟨rfl, _, rfl⟩
              case rest =>
                obtain ⟨rfl, k, rfl⟩ := hcut
                have HZ6 : Hid ((w5.drewN k).heap[w.heap.size]? = some (.cells RecP.zero.doc 29 (0, 0))) := HZ5.out
                have HB6 : Hid (Below w.heap.size w (w5.drewN k)) := ⟨HB45.out.os, HB45.out.tape, HB45.out.output, HB45.out.size, HB45.out.block⟩
                generalize w5.drewN k = w6 at HZ6 HB6 ⊢
                go_wp2_with (refine wpList_store_row (o := ⟨none, _, _, _, _, _⟩) rfl 29 (.tmp 2) (.tmp 74) rfl w.heap.size RecP.zero.doc rfl rfl 29 RecP.zero.doc HZ6.out (rdoc_sz _) rfl ?_ ?_; exact rdoc_one _)
                exact bodyPost_ret (refUnp_res _ w.heap.size RecP.zero 0 5 _ (setRow_heap _ _ _ _ _ _ HZ6.out) rfl rfl rfl) rfl (HN.out _ (below_setRow HB6.out (Nat.le_refl _) _))
        · have HN := Lib.hid (fun W => HBAD.out W (HBO.out HL.out.1 (.inr (by omega))))
          have t2 : (281474976710656 : Int) < ee := by omega
          have n2 : 13 + (kk : Int) + vv ≤ L := by omega
          clear t1 n1 HBAD HBO HGOOD HPART HCV HPK
          go_wp2_with (first
            | (go_at_call 18; (with_reducible refine (OF2.out _ HB1.out).mono ?_); rintro e w' ⟨rfl, rfl⟩)
            | (refine wpList_store_row (o := ⟨none, _, _, _, _, _⟩) rfl 29 (.tmp 2) (.tmp 37) rfl w.heap.size RecP.zero.doc rfl rfl 29 RecP.zero.doc HZ1.out (rdoc_sz _) rfl ?_ ?_; exact rdoc_one _))
          exact bodyPost_ret (refUnp_res _ w.heap.size RecP.zero 0 5 _ (setRow_heap _ _ _ _ _ _ HZ1.out) rfl rfl rfl) rfl (HN.out _ (below_setRow HB1.out (Nat.le_refl _) _))
      · have HN := Lib.hid (fun W => HBAD.out W (HBO.out HL.out.1 (.inl (by omega))))
        have n2 : (L : Int) < 13 + (kk : Int) + vv := by omega
        clear n1 HBAD HBO HGOOD HPART HCV HPK
        go_wp2_with (first
          | (go_at_call 18; (with_reducible refine (OF2.out _ HB1.out).mono ?_); rintro e w' ⟨rfl, rfl⟩)
          | (refine wpList_store_row (o := ⟨none, _, _, _, _, _⟩) rfl 29 (.tmp 2) (.tmp 37) rfl w.heap.size RecP.zero.doc rfl rfl 29 RecP.zero.doc HZ1.out (rdoc_sz _) rfl ?_ ?_; exact rdoc_one _))
        exact bodyPost_ret (refUnp_res _ w.heap.size RecP.zero 0 5 _ (setRow_heap _ _ _ _ _ _ HZ1.out) rfl rfl rfl) rfl (HN.out _ (below_setRow HB1.out (Nat.le_refl _) _))
  · have HN := Lib.hid (fun W => HBAD.out W (short_bad bs (by omega)))
    clear HBAD
    go_enter Try.func6, Try.ntmps6
    go_upto_region 1 with (fail)
    change (Code.region _ _ _).wp _ _ _ (w.alloc (.cells RecP.zero.doc 29))
    generalize w.alloc (.cells RecP.zero.doc 29) = w0 at HZ HB0 ⊢
    go_wp2_with (refine wpList_store_row (o := ⟨none, _, _, _, _, _⟩) rfl 29 (.tmp 2) (.tmp 14) rfl w.heap.size RecP.zero.doc rfl rfl 29 RecP.zero.doc HZ.out (rdoc_sz _) rfl ?_ ?_; exact rdoc_one _)
    exact bodyPost_ret (refUnp_res _ w.heap.size RecP.zero 0 5 _ (setRow_heap _ _ _ _ _ _ HZ.out) rfl rfl rfl) rfl (HN.out _ (below_setRow HB0.out (Nat.le_refl _) _))
end Go.Proofs.Ytakipdfmlolgfaa

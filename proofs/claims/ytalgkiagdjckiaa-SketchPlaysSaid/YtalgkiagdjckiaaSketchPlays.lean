/-
  Proved: a sketch, whatever is marked, halved, guessed, packed and read again, guesses what the document's does. Whatever comes in (300 acts, a width of 64), the law SketchPlays answers true and the arguments read as they did.
  Conditions: none.
-/
import Derived.Test.YtalgkiagdjckiaaPl1
import Derived.Test.YtalgkiagdjckiaaRk2
import Derived.Test.YtalgkiagdjckiaaSk8
import Derived.Deep.RegionHeldLaw
import Derived.Deep.DeepCutAuto
import Derived.Deep.RegionHeld3
import Derived.Deep.CutBlock
import Derived.StillTailTactics
namespace Go.Proofs.Ytalgkiagdjckiaa
open Go.ChangeShapes Go.WideShapes Go.ChangeAt Go.RowKit

theorem strB_self2 (xs : List (BitVec 8)) : ((strB xs).toList == (strB xs).toList) = true := by simp
theorem step_store_row2 {P : Program} {w : World} {ops : Array Oper} {o : Oper} {a : Act} {K : Act → World → Prop} {Q : Exit → Act → World → Prop} {E : Prop} (hgd : o.guard = none) (ty : TypeId) (x y : Operand) (ho : o.op = .store ty x y)
    (g : Nat) (cells : Array Value) (hx : a.eval x = .pointer (some ⟨g, 0, none⟩)) (hy : a.eval y = .agg cells)
    (t : TypeId) (old : Array Value) (hg : w.heap[g]? = some (.cells old t (0, 0))) (hi : (P.info? ty).map (·.size) = some cells.size)
    (hold : old.size = cells.size) (h1 : cells.all (·.oneCell') = true) (h : K (a.put o.dst undef) (w.setRow g cells)) :
    if Region.wanted o (yielded ops a.tmps) = true then Oper.wp P o a w K Q else E := by
  have hw : Region.wanted o (yielded ops a.tmps) = true := by simp [Region.wanted, hgd]
  rw [if_pos hw]
  exact wp_store_row ty x y ho g cells hx hy t old hg hi hold h1 h
set_option maxRecDepth 100000 in
set_option maxHeartbeats 8000000 in
theorem sketchPlays_walk (X : Int) (v : Value) (l : List (BitVec 64)) (w : World) (hl : WordsAt w.heap.size w v l) : Calls Try.prog 3 #[.int .i64 X, v] w (Good w) := by
  obtain ⟨a, c, rfl⟩ := hl.slice
  by_cases hbig : 300 < l.length
  · obtain ⟨n, hn⟩ : ∃ n, l.length = n := ⟨_, rfl⟩
    rw [hn] at hbig ⊢
    have l1 : (300 : Int) < n := by omega
    clear hl hn
    go_enter Try.func3, Try.ntmps3
    go_wp2
    go_ret
    exact ⟨rfl, Below.refl _ _⟩
  · have HL := Lib.hid hl
    have HW := Lib.hid (fun (k : Nat) (hk : k < l.length) => pl_word hl hk)
    obtain ⟨n, hn⟩ : ∃ n, l.length = n := ⟨_, rfl⟩
    have HLN := Lib.hid hn
    rw [hn] at hbig HL ⊢
    have l1 : (n : Int) ≤ 300 := by omega
    clear hl hn hbig
    by_cases hx : 64 < X ∧ X ≤ 4096
    · obtain ⟨x1, x2⟩ := hx
      go_enter Try.func3, Try.ntmps3
      go_wp2
      go_ret
      exact ⟨rfl, Below.refl _ _⟩
    · have hx' : X ≤ 64 ∨ (64 < X ∧ 4096 < X) := by omega
      clear hx
      by_cases hw : ∃ N, WideOk N ∧ (N : Int) = X
      · obtain ⟨N, hN, rfl⟩ := hw
        have hN2 := hN.le
        have x1 : (N : Int) ≤ 64 := by omega
        have x3 : ¬ 64 < (N : Int) := by omega
        have HNEW := Lib.hid (new_any hN w)
        have HRIGHT := Lib.hid (fun V => wide_right hN V)
        have HRN := Lib.hid (fun V => rnew_any (N := N) hN2.2 V)
        have HWO := Lib.hid hN
        obtain ⟨T, hT⟩ : ∃ T, 4 * N = T := ⟨_, rfl⟩
        rw [hT] at HRN
        have HT := Lib.hid hT
        clear hx' hN2 hN hT
        go_enter Try.func3, Try.ntmps3
        go_upto_region 7 with (first
          | (go_at_call 8; (with_reducible refine HNEW.out.mono ?_); rintro e w1 ⟨rfl, hs1, hb1⟩; have HS1 := Lib.hid hs1; have HB1 := Lib.hid hb1; clear hs1 hb1 HNEW)
          | (go_at_call 9; (with_reducible refine (HRIGHT.out _).mono ?_); rintro e w' ⟨rfl, rfl⟩)
          | (go_at_call 12; (with_reducible refine (HRN.out _).mono ?_); rintro e w2 ⟨g2, rfl, hg2, _, hb2⟩; have HPF := Lib.hid (Pl.first HWO.out HT.out HS1.out HB1.out hg2 hb2); clear hg2 hb2 HRN)
          | (refine wpList_store_row (o := ⟨none, _, _, _, _, _⟩) rfl 30 (.tmp 6) (.tmp 38) rfl w2.heap.size (rkC N 0 (.slice (some ⟨g2, 0, none⟩) T T)) rfl rfl 30 (rkC 0 0 (.slice none 0 0)) (heap_alloc_new w2 _) (rkC_sz _ _ _) rfl ?_ ?_; exact rkC_one _ _ _ _ _))
        clear HS1 HB1
        change Code.wp _ _ _ _ ((w2.alloc (.cells (rkC 0 0 (.slice none 0 0)) 30)).setRow w2.heap.size (rkC N 0 (.slice (some ⟨g2, 0, none⟩) T T)))
        generalize (w2.alloc (.cells (rkC 0 0 (.slice none 0 0)) 30)).setRow w2.heap.size (rkC N 0 (.slice (some ⟨g2, 0, none⟩) T T)) = w3 at HPF ⊢
        generalize w2.heap.size = D at HPF ⊢
        go_wp2
        go_loopw [5, 7] (fun s i W => ∃ k : Nat, k ≤ n ∧ i = .int .i64 (k : Int) ∧ ∃ G b age C a c l2, s = .pointer (some ⟨G, 0, none⟩) ∧ age < 10 * N ∧ Pl w D T N G b age C age C a c l2 W) (fun _ i _ => n - (intOf i).toNat)
        case atStart => exact ⟨0, Nat.zero_le _, rfl, _, _, _, _, _, _, _, rfl, by have := HWO.out.le; omega, HPF.out⟩
        case round =>
          obtain ⟨k, hk, rfl, G, b, age, C, a2, c2, l2, rfl, hage, hpl⟩ := hrel
          by_cases hlt : k < n
          · obtain ⟨g, off, rfl, hcw⟩ := HW.out k (by rw [HLN.out]; exact hlt)
            have HPL := Lib.hid hpl
            have HCW := Lib.hid hcw
            obtain ⟨q0, qk⟩ := hcw wr hpl.below
            obtain ⟨d0, d1, d2⟩ := hpl.cells
            obtain ⟨x, hx⟩ : ∃ x, l[k]?.getD 0 = x := ⟨_, rfl⟩
            obtain ⟨y, hy⟩ : ∃ y, l[0]?.getD 0 = y := ⟨_, rfl⟩
            rw [hx] at qk HCW
            rw [hy] at q0 HCW
            obtain ⟨m, hm, hm15⟩ := pl_mod x
            have i1 : (k : Int) < n := by omega
            have i2 : (0 : Int) < n := by omega
            have HLT := Lib.hid hlt
            have HAGE := Lib.hid hage
            have HW10 := Lib.hid (show 0 < 10 * N from by omega)
            clear hpl hcw hx hy hlt hage hk
            go_upto_block 2 with (fail)
            go_cut [5, 8, 9, 10] (fun s5 _s8 _s9 _s10 wx => ∃ G b age C a c l2, s5 = .pointer (some ⟨G, 0, none⟩) ∧ age < 10 * N ∧ Pl w D T N G b age C age C a c l2 wx)
            case first =>
              by_cases m0 : m = 0
              · have b0 : ((m : Int) == 0) = true := by rw [m0]; rfl
                have HS := Lib.hid (halve_any HPL.out.sk)
                clear m0 hm15
                go_wp2_with (first
                  | (go_at_call 13; (with_reducible refine HS.out.mono ?_); rintro e w1 ⟨rfl, hs1, hm1⟩; have HP1 := Lib.hid (HPL.out.sketch hm1 hs1); obtain ⟨d0, d1, d2⟩ := HP1.out.cells; have HR1 := Lib.hid HP1.out.rhalve; clear hs1 hm1 HS)
                  | (go_at_call 14; (with_reducible refine HR1.out.mono ?_); rintro e w2 ⟨a6, c6, l6, rfl, hr2, hb2⟩; have HP2 := Lib.hid (HP1.out.same hb2); have HP3 := Lib.hid (HP2.out.put (aR' := 0) hr2); clear hr2 hb2 HR1)
                  | (refine wpList_store_row (o := ⟨none, _, _, _, _, _⟩) rfl 30 (.tmp 6) (.tmp 74) rfl D (rkC N 0 (.slice a6 T c6)) rfl rfl 30 (rkC N (age : Int) (.slice a2 T c2)) HP2.out.box (rkC_sz _ _ _) rfl ?_ ?_; exact rkC_one _ _ _ _ _))
                all_goals go_meet
                all_goals exact ⟨G, b, 0, hlv C, a6, c6, l6, rfl, HW10.out, HP3.out⟩
              · have b0 : ((m : Int) == 0) = false := beq_eq_false_iff_ne.2 (by omega)
                by_cases m1 : m = 1
                · have b1 : ((m : Int) == 1) = true := by rw [m1]; rfl
                  have HS := Lib.hid (pack_any HPL.out.sk)
                  clear m0 m1 hm15
                  go_upto_region 20 with (first
                    | (go_at_call 15; (with_reducible refine HS.out.mono ?_); rintro e w1 ⟨u1, rfl, ho1, hb1⟩; have HP1 := Lib.hid (HPL.out.same hb1); have HBY := Lib.hid (BytesAt.of_owns ho1); have HU1 := Lib.hid (unpack_pack HWO.out HAGE.out HPL.out.sk.small HBY.out); clear ho1 hb1 HS)
                    | (go_at_call 16; (with_reducible refine HU1.out.mono ?_); rintro e w2 ⟨rfl, hs2, hb2⟩; have HP2 := Lib.hid ((HP1.out.same hb2).other hs2 (pl_out HP1.out.below)); have HB2 := Lib.hid hb2; obtain ⟨d0, d1, d2⟩ := HP2.out.cells; clear hs2 hb2 HU1))
                  go_cut [93] (fun s93 wx => s93 = .bool false ∧ ∃ wy, wy = wx ∧ Below w2.heap.size w2 wy)
                  case first =>
                    have HPQ := Lib.hid (fun W (hb : Below w2.heap.size w2 W) => (HP2.out.same hb).cells)
                    have HRP := Lib.hid (fun W (hb : Below w2.heap.size w2 W) => (HP2.out.same hb).rpack HAGE.out)
                    have HCV := Lib.hid (fun W (hb : Below w2.heap.size w2 W) => conv_str (HBY.out.below (HB2.out.trans (hb.mono HB2.out.size))))
                    obtain ⟨pk, hpk⟩ : ∃ pk, packS N age C = pk := ⟨_, rfl⟩
                    rw [hpk] at HRP HCV
                    have hee := strB_self2 pk
                    have hBc := Lib.hid ((Below.refl w2.heap.size w2).drew)
                    have hcb := HCV.out _ hBc.out
                    clear hpk HBY
                    go_region_held_law (fun W => W.cell? ⟨D, 0, none⟩ = some (.int .i64 (N : Int)) ∧ W.cell? ⟨D, 1, none⟩ = some (.int .i64 (age : Int)) ∧ W.cell? ⟨D, 2, none⟩ = some (.slice a2 T c2))
                      (exact HPQ.out _ hBc.out)
                      (first
                      | (go_at_call 17; (with_reducible refine (HRP.out _ hBc.out).mono ?_); rintro e w8 ⟨u8, rfl, ho8, hb8⟩; have hc8 := conv_str (BytesAt.of_owns ho8); have hBn := hBc.out.trans (hb8.mono hBc.out.size); clear hBc hb8 ho8; have hBc := Lib.hid hBn; clear hBn hcb; have hcb := HCV.out _ hBc.out))
                    all_goals (go_wp2_with fail)
                    all_goals go_meet
                    all_goals exact ⟨rfl, _, rfl, hBc.out⟩
                  case rest =>
                    obtain ⟨rfl, wy, rfl, hB9⟩ := hcut
                    have HP9 := Lib.hid (HP2.out.same hB9)
                    clear hB9 d0 d1 d2
                    go_wp2
                    go_meet
                    exact ⟨_, _, age, C, a2, c2, l2, rfl, HAGE.out, HP9.out⟩
                · have b1 : ((m : Int) == 1) = false := beq_eq_false_iff_ne.2 (by omega)
                  clear m0 m1 hm15
                  have HM := Lib.hid (fun W (h : Pl w D T N G b age C age C a2 c2 l2 W) => h.rmark HAGE.out x)
                  obtain ⟨C9, hC9⟩ : ∃ C9, mrkC C N x age = C9 := ⟨_, rfl⟩
                  obtain ⟨A9, hA9⟩ : ∃ A9, mrkA N age = A9 := ⟨_, rfl⟩
                  have HA9 := Lib.hid hA9
                  have HAL : Hid (A9 < 10 * N) := by
                    unfold Hid
                    rw [← hA9]
                    exact mrkA_lt (by have := HWO.out.le; omega) HAGE.out
                  have HSM := Lib.hid (fun W a c l (h : Pl w D T N G b age C A9 C9 a c l W) => mark_any h.sk HAGE.out x)
                  rw [hC9, hA9] at HM HSM
                  clear hC9 hA9 HA9
                  go_upto_region 11 with fail
                  go_cut [50] (fun _s wx => ∃ a9 c9 l9, Pl w D T N G b age C A9 C9 a9 c9 l9 wx)
                  case first =>
                    have HPQ := Lib.hid (fun W (h : Pl w D T N G b age C age C a2 c2 l2 W) => And.intro h.cells (HCW.out W h.below))
                    have HP0 := Lib.hid (HPL.out.same (Below.refl _ _).drew)
                    have HR1 := Lib.hid (HM.out _ HP0.out)
                    clear HSM
                    obtain ⟨⟨d0, d1, d2⟩, q0, qk⟩ := HPQ.out _ HPL.out
                    go_still_tail 5, (by kernel_rfl)
                    change wpList _ _ _ _ _ wr.drew
                    go_wp2_with (first
                      | (go_at_call 18; (with_reducible refine HR1.out.mono ?_); rintro e w2 ⟨a6, c6, l6, rfl, hr2, hb2⟩; have HP2 := Lib.hid (HP0.out.same hb2); have HP3 := Lib.hid (HP2.out.put (aR' := A9) hr2); clear hr2 hb2 HR1)
                      | (refine wpList_store_row (o := ⟨none, _, _, _, _, _⟩) rfl 30 (.tmp 6) (.tmp 55) rfl D (rkC N (A9 : Int) (.slice a6 T c6)) rfl rfl 30 (rkC N (age : Int) (.slice a2 T c2)) HP2.out.box (rkC_sz _ _ _) rfl ?_ ?_; exact rkC_one _ _ _ _ _))
                    all_goals go_meet
                    all_goals exact ⟨a6, c6, l6, HP3.out⟩
                  case rest =>
                    obtain ⟨a9, c9, l9, hp9⟩ := hcut
                    have HP9 := Lib.hid hp9
                    have HSM9 := Lib.hid (fun W (h : Pl w D T N G b age C A9 C9 a9 c9 l9 W) => HSM.out W a9 c9 l9 h)
                    clear hp9 d0 d1 d2 q0 qk HM HSM HPL
                    go_upto_region 12 with fail
                    go_cut [68] (fun s68 wx => s68 = .bool false ∧ Pl w D T N G b A9 C9 A9 C9 a9 c9 l9 wx)
                    case first =>
                      have HPQ := Lib.hid (fun W A C (h : Pl w D T N G b A C A9 C9 a9 c9 l9 W) => And.intro h.cells (HCW.out W h.below))
                      have HP0 := Lib.hid (HP9.out.same (Below.refl _ _).drew)
                      have HR1 := Lib.hid (HSM9.out _ HP0.out)
                      have HRG := Lib.hid (fun W (h : Pl w D T N G b A9 C9 A9 C9 a9 c9 l9 W) => h.rguess x)
                      obtain ⟨q9, hq9⟩ : ∃ q, gss C9 N x = q := ⟨_, rfl⟩
                      rw [hq9] at HR1 HRG
                      have hqq : ((q9 : Int) != (q9 : Int)) = false := by simp
                      clear hq9 HSM9
                      go_region_held3 (fun W : World => (W.cell? ⟨D, 0, none⟩ = some (.int .i64 (N : Int)) ∧ W.cell? ⟨D, 1, none⟩ = some (.int .i64 (A9 : Int)) ∧ W.cell? ⟨D, 2, none⟩ = some (.slice a9 T c9)) ∧ W.cell? ⟨g, off, none⟩ = some (.int .u64 (U y)) ∧ W.cell? ⟨g, off + k, none⟩ = some (.int .u64 (U x)))
                        (first | exact HPQ.out _ _ _ HP0.out | exact HPQ.out _ _ _ HP2.out | exact HPQ.out _ _ _ HP3.out)
                        (first
                        | (go_at_call 19; (with_reducible refine HR1.out.mono ?_); rintro e w2 ⟨rfl, hs2, hm2⟩; have HP2 := Lib.hid (HP0.out.sketch hm2 hs2); have HR2 := Lib.hid (HRG.out _ HP2.out); clear hs2 hm2 HR1)
                        | (go_at_call 20; (with_reducible refine HR2.out.mono ?_); rintro e w3 ⟨rfl, hb3⟩; have HP3 := Lib.hid (HP2.out.same hb3); clear hb3 HR2))
                      all_goals (go_wp2_with fail)
                      all_goals go_meet
                      all_goals exact ⟨rfl, HP3.out⟩
                    case rest =>
                      obtain ⟨rfl, hp8⟩ := hcut
                      have HP8 := Lib.hid hp8
                      clear hp8
                      go_wp2
                      go_meet
                      exact ⟨G, b, A9, C9, a9, c9, l9, rfl, HAL.out, HP8.out⟩
            case rest =>
              obtain ⟨G, b, age, C, a2, c2, l2, rfl, hage, hp⟩ := hcut
              have HPL := Lib.hid hp
              have HAGE := Lib.hid hage
              clear hp hage d0 d1 d2 q0 qk
              have HPQ := Lib.hid (fun W (hb : Below wc.heap.size wc W) => And.intro (HPL.out.same hb).cells (HCW.out W (HPL.out.same hb).below))
              have HAG := Lib.hid (fun W hb => age_any (HPL.out.sk.same (w' := W) hb))
              have HWD := Lib.hid (fun W hb => width_any (HPL.out.sk.same (w' := W) hb))
              have HGY := Lib.hid (fun W hb => guess_any (HPL.out.sk.same (w' := W) hb) y)
              have HAD := Lib.hid (fun W hb => admit_any (HPL.out.sk.same (w' := W) hb) y x)
              have HRY := Lib.hid (fun W (hb : Below wc.heap.size wc W) => (HPL.out.same hb).rguess y)
              have HRX := Lib.hid (fun W (hb : Below wc.heap.size wc W) => (HPL.out.same hb).rguess x)
              obtain ⟨gy, hgy⟩ : ∃ gy, gss C N y = gy := ⟨_, rfl⟩
              obtain ⟨gx, hgx⟩ : ∃ gx, gss C N x = gx := ⟨_, rfl⟩
              rw [hgy] at HGY HAD HRY
              rw [hgx] at HAD HRX
              have e1 : ((age : Int) != (age : Int)) = false := by simp
              have e2 : ((N : Int) != (N : Int)) = false := by simp
              have e3 : ((gy : Int) != (gy : Int)) = false := by simp
              have e4 : (decide (gx < gy) != decide ((gx : Int) < (gy : Int))) = false := by simp
              have hBc := Lib.hid ((Below.refl wc.heap.size wc).drew)
              clear hgy hgx
              go_upto_region 23 with fail
              go_cut [142] (fun s142 wx => s142 = .bool false ∧ ∃ wy, wy = wx ∧ Below wc.heap.size wc wy)
              case first =>
                go_region_held_law (fun W : World => (W.cell? ⟨D, 0, none⟩ = some (.int .i64 (N : Int)) ∧ W.cell? ⟨D, 1, none⟩ = some (.int .i64 (age : Int)) ∧ W.cell? ⟨D, 2, none⟩ = some (.slice a2 T c2)) ∧ W.cell? ⟨g, off, none⟩ = some (.int .u64 (U y)) ∧ W.cell? ⟨g, off + k, none⟩ = some (.int .u64 (U x)))
                  (exact HPQ.out _ hBc.out)
                  (first
                  | (go_at_call 21; (with_reducible refine (HAG.out _ hBc.out).mono ?_); rintro e w' ⟨rfl, rfl⟩)
                  | (go_at_call 10; (with_reducible refine (HWD.out _ hBc.out).mono ?_); rintro e w' ⟨rfl, rfl⟩)
                  | (go_at_call 22; (with_reducible refine (HGY.out _ hBc.out).mono ?_); rintro e w8 ⟨rfl, hb8⟩; have hBn := hBc.out.trans (hb8.mono hBc.out.size); clear hBc hb8; have hBc := Lib.hid hBn; clear hBn)
                  | (go_at_call 23; (with_reducible refine (HAD.out _ hBc.out).mono ?_); rintro e w8 ⟨rfl, hb8⟩; have hBn := hBc.out.trans (hb8.mono hBc.out.size); clear hBc hb8; have hBc := Lib.hid hBn; clear hBn)
                  | (go_at_call 20; (fail_if_success (with_reducible refine (HRX.out _ hBc.out).mono ?_)); (with_reducible refine (HRY.out _ hBc.out).mono ?_); rintro e w8 ⟨rfl, hb8⟩; have hBn := hBc.out.trans (hb8.mono hBc.out.size); clear hBc hb8; have hBc := Lib.hid hBn; clear hBn)
                  | (go_at_call 20; (with_reducible refine (HRX.out _ hBc.out).mono ?_); rintro e w8 ⟨rfl, hb8⟩; have hBn := hBc.out.trans (hb8.mono hBc.out.size); clear hBc hb8; have hBc := Lib.hid hBn; clear hBn))
                trace_state
                all_goals (go_wp2_with fail)
                all_goals go_meet
                all_goals exact ⟨rfl, _, rfl, hBc.out⟩
              case rest =>
                obtain ⟨rfl, wy, rfl, hB9⟩ := hcut
                have H9 := Lib.hid (HPL.out.same hB9)
                clear hB9
                go_wp2
                go_roundw
                case rel => exact ⟨k + 1, by have := HLT.out; omega, by go_num, G, b, age, C, a2, c2, l2, rfl, HAGE.out, H9.out⟩
                case measure => have := HLT.out; simp [intOf]; omega
          · obtain rfl : k = n := by omega
            have HPL := Lib.hid hpl
            have HAGE := Lib.hid hage
            have HPQ := Lib.hid (fun W (hb : Below wr.heap.size wr W) => (HPL.out.same hb).cells)
            have HRP := Lib.hid (fun W (hb : Below wr.heap.size wr W) => (HPL.out.same hb).rpack HAGE.out)
            have HPK := Lib.hid (fun W hb => pack_any (HPL.out.sk.same (w' := W) hb))
            obtain ⟨pk, hpk⟩ : ∃ pk, packS N age C = pk := ⟨_, rfl⟩
            rw [hpk] at HRP HPK
            have hee := strB_self2 pk
            have hBc := Lib.hid ((Below.refl wr.heap.size wr).drew)
            obtain ⟨wo, hwo⟩ : ∃ wo, wo = wr := ⟨_, rfl⟩
            clear hpk hpl hage hk hlt hwo
            go_upto_region 25 with fail
            go_cut [4] (fun s4 wx => s4 = .bool true ∧ ∃ wy, wy = wx ∧ Below wr.heap.size wr wy)
            case first =>
              go_region_held_law (fun W => W.cell? ⟨D, 0, none⟩ = some (.int .i64 (N : Int)) ∧ W.cell? ⟨D, 1, none⟩ = some (.int .i64 (age : Int)) ∧ W.cell? ⟨D, 2, none⟩ = some (.slice a2 T c2))
                (exact HPQ.out _ hBc.out)
                (first
                | (go_at_call 15; (with_reducible refine (HPK.out _ hBc.out).mono ?_); rintro e w7 ⟨u7, rfl, ho7, hb7⟩; have HBY := Lib.hid (BytesAt.of_owns ho7); have hc7 := conv_str HBY.out; have hBn := hBc.out.trans (hb7.mono hBc.out.size); clear hBc hb7 ho7; have hBc := Lib.hid hBn; clear hBn)
                | (go_at_call 17; (with_reducible refine (HRP.out _ hBc.out).mono ?_); rintro e w8 ⟨u8, rfl, ho8, hb8⟩; (try (have HBZ := Lib.hid (HBY.out.below hb8); clear hc7; have hc7 := conv_str HBZ.out)); have hc8 := conv_str (BytesAt.of_owns ho8); have hBn := hBc.out.trans (hb8.mono hBc.out.size); clear hBc hb8 ho8; have hBc := Lib.hid hBn; clear hBn)
                | (go_at_call 11; (with_reducible refine (awake23 _).mono ?_); rintro e w10 ⟨rfl, hb10⟩; have hBn := hBc.out.trans (hb10.mono hBc.out.size); clear hBc hb10; have hBc := Lib.hid hBn; clear hBn))
              trace_state
              all_goals (go_wp2_with fail)
              all_goals go_meet
              all_goals exact ⟨rfl, _, rfl, hBc.out⟩
            case rest =>
              obtain ⟨rfl, wy, rfl, hB9⟩ := hcut
              have H9 := Lib.hid (HPL.out.same hB9)
              clear hB9
              go_wp2
              go_ret
              exact ⟨rfl, H9.out.below⟩
      · have hno := wide_int hw
        have HNEW := Lib.hid (new_not hno w)
        have HRIGHT := Lib.hid (fun V => right_not hw V)
        clear hno hw
        rcases hx' with x1 | ⟨x1, x2⟩
        · have x3 : ¬ 64 < X := by omega
          go_enter Try.func3, Try.ntmps3
          go_wp2_with (first
            | (go_at_call 8; (with_reducible refine HNEW.out.mono ?_); rintro e w1 ⟨rfl, rfl⟩)
            | (go_at_call 9; (with_reducible refine (HRIGHT.out _).mono ?_); rintro e w' ⟨rfl, rfl⟩)
            | (go_at_call 10; (with_reducible refine (width_nil _).mono ?_); rintro e w' ⟨rfl, rfl⟩)
            | (go_at_call 11; (with_reducible refine (awake23 _).mono ?_); rintro e w5 ⟨rfl, hb5⟩; have HB5 := Lib.hid hb5; clear hb5))
          go_ret
          exact ⟨rfl, HB5.out⟩
        · have x3 : ¬ X ≤ 4096 := by omega
          go_enter Try.func3, Try.ntmps3
          go_wp2_with (first
            | (go_at_call 8; (with_reducible refine HNEW.out.mono ?_); rintro e w1 ⟨rfl, rfl⟩)
            | (go_at_call 9; (with_reducible refine (HRIGHT.out _).mono ?_); rintro e w' ⟨rfl, rfl⟩)
            | (go_at_call 10; (with_reducible refine (width_nil _).mono ?_); rintro e w' ⟨rfl, rfl⟩)
            | (go_at_call 11; (with_reducible refine (awake23 _).mono ?_); rintro e w5 ⟨rfl, hb5⟩; have HB5 := Lib.hid hb5; clear hb5))
          go_ret
          exact ⟨rfl, HB5.out⟩
end Go.Proofs.Ytalgkiagdjckiaa

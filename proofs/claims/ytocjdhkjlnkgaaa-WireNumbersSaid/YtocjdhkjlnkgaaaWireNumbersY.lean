/-
  WireNumbers: the numbers that are left are those that are read one by one (where numbers of so many bytes may be).
  Conditions: none.
-/
import Derived.Test.YtocjdhkjlnkgaaaWireNumbersN
import Derived.Deep.RegionHeldLaw
namespace Go.Proofs.Ytocjdhkjlnkgaaa
open Go.ChangeShapes Go.WideShapes Go.ChangeAt Go.RowKit

theorem nums_at (m : Nat) (bs : List (BitVec 8)) (k j : Nat) (h : j < k) : (cells64 (nums m bs k))[j]? = some (.int .u64 (U (leOf ((bs.drop (j * m)).take m)))) := by
  simp [cells64, nums, h]
theorem div_le_len {m n k mo : Nat} (hk : k = min (n / m) mo) : k * m ≤ n := by
  have h1 : k ≤ n / m := by omega
  exact Nat.le_trans (Nat.mul_le_mul_right m h1) (Nat.div_mul_le_self n m)

set_option maxRecDepth 100000 in
set_option maxHeartbeats 8000000 in
theorem wireNumbers_good (v : Value) (bs : List (BitVec 8)) (m mo : Nat) (w : World) (hv : BytesAt w.heap.size w v bs) (hl : bs.length ≤ 1000) (hmo : mo ≤ 255) (hm4 : m = 1 ∨ m = 2 ∨ m = 4 ∨ m = 8) :
    Calls Try.prog 3 #[v, .int .i64 m, .int .u8 mo] w (Good w) := by
  have hm : mayB m = true := by rcases hm4 with rfl | rfl | rfl | rfl <;> rfl
  have hm1 : 1 ≤ m := by omega
  have hm8 : m ≤ 8 := by omega
  have HV := Lib.hid hv
  have HAW := Lib.hid (fun W => awake03 W)
  have HNEW := Lib.hid (fun u W (h : BytesAt W.heap.size W u bs) => newR_rd h (by omega))
  have HNUM := Lib.hid (fun R W (h : Rd W.heap.size W R bs) => numbers_res R m mo bs W h (by omega) hm hm1 hm8 (by omega))
  have HONE := Lib.hid (fun n R left W (h : Rd n W R left) (hs : n ≤ W.heap.size) (hn : m ≤ left.length) (hl : left.length ≤ 1099511627776) => numberR_any n R m left W h hs hm hm1 hm8 hn hl)
  obtain ⟨a, cap, rfl, hcap, _⟩ := id hv
  have hl1 : (bs.length : Int) ≤ 1000 := by omega
  have m0 : (mo : Int) ≤ 255 := by omega
  have m1 : (1 : Int) ≤ m := by omega
  have m8 : (m : Int) ≤ 8 := by omega
  clear hv hm
  go_enter Try.func3, Try.ntmps3
  go_upto_region 5 with (first
    | (go_at_call 4; first
      | ((with_reducible refine (HNEW.out _ w HV.out).mono ?_); rintro e w1 ⟨R1, rfl, hR1, hr1, hb1⟩; have HRD1 := Lib.hid hr1; have HB1 := Lib.hid hb1; have HR1 := Lib.hid hR1; clear hR1 hr1 hb1)
      | ((with_reducible refine (HNEW.out _ w1 ((HV.out.below HB1.out).mono HB1.out.size)).mono ?_); rintro e w2 ⟨R2, rfl, hR2, hr2, hb2⟩; have HRA2 := Lib.hid (HRD1.out.below hb2 (Nat.le_refl _)); have HRB2 := Lib.hid hr2; have HB2 := Lib.hid (HB1.out.trans (hb2.mono HB1.out.size)); have HNE := Lib.hid (show R2 ≠ R1 from by have := HRD1.out.lt; omega); have HR2 := Lib.hid (Nat.le_trans HB1.out.size hR2); have HS2 := Lib.hid hb2.size; have HRA3 := Lib.hid (show Rd w2.heap.size w2 R1 bs from by obtain ⟨vv, q1, q2⟩ := HRA2.out; exact ⟨vv, q1, q2.mono hb2.size⟩); clear hR2 hr2 hb2))
    | (go_at_call 5; (with_reducible refine (HNUM.out _ _ HRA3.out).mono ?_); rintro e w3 ⟨k, u, hk, rfl, hown, hrd, hmv⟩; have HK := Lib.hid hk; have HOWN0 := Lib.hid hown; have HRA := Lib.hid hrd; have HMV := Lib.hid hmv; clear hk hown hrd hmv))
  obtain ⟨au, cu, rfl⟩ := owns_slice HOWN0.out
  have HOWN := Lib.hid HOWN0.out
  have HKL := Lib.hid (div_le_len HK.out)
  have HRB := Lib.hid (HRB2.out.moves HRA3.out HNE.out HRB2.out.lt HMV.out)
  have HB3 := Lib.hid (HB2.out.trans (HMV.out.below (B := w.heap.size) (fun i hi => hi.elim (fun e => by rw [e]; exact HR1.out) (fun h => Nat.le_trans HB2.out.size h)) HB2.out.size))
  have HS3 := Lib.hid HMV.out.size
  clear HOWN0 HMV
  have hkb : k ≤ 255 := by have := HK.out; omega
  have k255 : (k : Int) ≤ 255 := by omega
  have HKB := Lib.hid hkb
  have HL0 := Lib.hid hl
  obtain ⟨N, hN⟩ : ∃ N, w2.heap.size = N := ⟨_, rfl⟩
  rw [hN] at HOWN HRA HRB HS3
  have HNR : Hid (R1 < N ∧ R2 < N) := by
    show _ ∧ _
    rw [← hN]
    exact ⟨HRA3.out.lt, HRB2.out.lt⟩
  clear hN HRA3 HRB2 HRA2 HRD1 HNEW HNUM hkb hmo hl
  go_upto_region 7 with (fail)
  go_loopw [11] (fun i wr => ∃ j : Nat, j ≤ k ∧ i = .int .i64 j ∧ Rd N wr R2 (bs.drop (j * m)) ∧ Rd N wr R1 (bs.drop (k * m)) ∧ wr.ownsRow N 27 1 (.slice au k cu) k (cells64 (nums m bs k)) ∧ Below w.heap.size w wr ∧ N ≤ wr.heap.size) (fun i _ => k - (intOf i).toNat)
  case atStart => exact ⟨0, Nat.zero_le _, rfl, by rw [Nat.zero_mul, List.drop_zero]; exact HRB.out, HRA.out, HOWN.out, HB3.out, HS3.out⟩
  case round =>
    obtain ⟨j, hj, rfl, hrb, hra, hown, hB, hs⟩ := hrel
    clear HRA HRB HOWN HB3 HS3
    have HRA := Lib.hid hra
    have HRB := Lib.hid hrb
    have HOWN := Lib.hid hown
    have HB := Lib.hid hB
    have HS := Lib.hid hs
    clear hrb hra hB hs
    have j0 : (0 : Int) ≤ j := by omega
    by_cases hlt : j < k
    · have jk : (j : Int) < k := by omega
      obtain ⟨g, rfl, hgN⟩ : ∃ g, au = some ⟨g, 0, none⟩ ∧ N ≤ g := by
        rcases hown.2 with ⟨h, h0⟩ | ⟨g, cap', cur, h, hg, _⟩
        · omega
        · simp only [Value.slice.injEq] at h
          exact ⟨g, h.1, hg⟩
      have c1 := hown.cellAt j (by omega)
      rw [nums_at m bs k j hlt] at c1
      have c1d : wr.drew.cell? ⟨g, j, none⟩ = some (.int .u64 (U (leOf ((bs.drop (j * m)).take m)))) := c1
      have hmul : (j + 1) * m ≤ bs.length := Nat.le_trans (Nat.mul_le_mul_right m hlt) HKL.out
      have e : (j + 1) * m = j * m + m := by rw [Nat.add_mul, Nat.one_mul]
      have HON := Lib.hid (HONE.out N R2 _ wr.drew HRB.out HS.out (by rw [List.length_drop]; omega) (by rw [List.length_drop]; have := HL0.out; omega))
      have HDD : Hid ((bs.drop (j * m)).drop m = bs.drop ((j + 1) * m)) := by
        show _ = _
        rw [List.drop_drop, e]
      rw [HDD.out] at HON
      have HGN := Lib.hid hgN
      have HJK := Lib.hid hlt
      generalize leOf ((bs.drop (j * m)).take m) = X at c1 c1d HON
      clear hown hmul e HDD
      go_wp2
      go_region_with (first
        | (go_at_call 6; (with_reducible refine HON.out.mono ?_); rintro e w7 ⟨rfl, hr7, hm7⟩; have HM7 := Lib.hid (show Moves (rS R2) wr w7 from ⟨hm7.os, hm7.tape, hm7.output, hm7.size, hm7.block⟩); have HR7 := Lib.hid hr7; have c7 : w7.cell? ⟨g, j, none⟩ = some (.int .u64 (U X)) := (hm7.cell (p := ⟨g, j, none⟩) (by have := (HOWN.out.lt g rfl).2; exact this) (fun e2 => by have e3 : g = R2 := e2; have := HNR.out.2; have := HGN.out; omega)).trans c1; clear hr7 hm7))
      all_goals (go_wp2_with fail)
      all_goals go_roundw
      all_goals first
        | exact ⟨j + 1, HJK.out, by go_num, HR7.out, HRA.out.moves HRB.out (fun e => HNE.out e.symm) HNR.out.1 (HM7.out.mono (fun i _ h => .inl h)), HM7.out.row HOWN.out (fun q e1 e2 => by have e3 : q = R2 := e2; have := HNR.out.2; have := (HOWN.out.lt q e1).1; omega), HB.out.trans (HM7.out.below (B := w.heap.size) (fun i hi => by have e3 : i = R2 := hi; rw [e3]; exact HR2.out) HB.out.size), Nat.le_trans HS.out HM7.out.size⟩
        | (simp [intOf]; omega)
    · obtain rfl : j = k := by omega
      clear hown
      go_upto_region 11 with (fail)
      go_cut [12] (fun s wx => s = .bool true ∧ wr = wx)
      case first =>
        clear HV HAW HONE HR1 HR2 HNE HS2 HB2 HK HKL HNR HRA HRB HOWN HB HS HL0 HKB
        rcases hm4 with rfl | rfl | rfl | rfl
        all_goals (go_wp2_with fail)
        all_goals go_meet
        all_goals exact ⟨rfl, rfl⟩
      case rest =>
        obtain ⟨rfl, rfl⟩ := hcut
        go_upto_region 14 with (fail)
        go_cut [13] (fun s wx => s = .int .i64 j ∧ wr = wx)
        case first =>
          have eD : wrap64 ((bs.length : Int) / (m : Int)) = ((bs.length / m : Nat) : Int) := by
            have h1 := Nat.div_le_self bs.length m
            rw [← Int.natCast_ediv]
            generalize bs.length / m = q at h1 ⊢
            exact IntWalk.wrap64_in _ ⟨by omega, by omega⟩
          have hk := HK.out
          have hDl := Nat.div_le_self bs.length m
          generalize bs.length / m = D at eD hk hDl
          have hD1 : (D : Int) ≤ 1000 := by omega
          clear HV HAW HONE HR1 HR2 HNE HS2 HB2 HK HKL HNR HRA HRB HOWN HB HS HL0 HKB hm4
          by_cases hlt2 : mo < D
          · have hd : decide ((mo : Int) < D) = true := by simp; omega
            have ej : (j : Int) = mo := by omega
            clear hk
            go_wp2_with fail
            go_meet
            exact ⟨by rw [ej], rfl⟩
          · have hd : decide ((mo : Int) < D) = false := by simp; omega
            have ej : (j : Int) = D := by omega
            clear hk
            go_wp2_with fail
            go_meet
            exact ⟨by rw [ej], rfl⟩
        case rest =>
          obtain ⟨rfl, rfl⟩ := hcut
          go_upto_region 15 with (fail)
          obtain ⟨vr, hra⟩ := HRA.out.at HS.out
          have HBad := Lib.hid (bad_any R1 vr _ false wr.drew ⟨hra.blk, hra.bytes⟩)
          have HRest := Lib.hid (rest_any R1 vr _ false wr.drew ⟨hra.blk, hra.bytes⟩ (by rw [List.length_drop]; have := HL0.out; omega))
          have hkm := HKL.out
          have hl0 := HL0.out
          obtain ⟨J, hJ⟩ : ∃ J, j * m = J := ⟨_, rfl⟩
          rw [hJ] at hkm HRest
          have eM : IntKind.i64.wrap ((j : Int) * (m : Int)) = (J : Int) := by
            have e1 : (j : Int) * (m : Int) = (J : Int) := by rw [← hJ]; simp
            rw [e1]
            simp only [IntKind.wrap, IntKind.bits, IntKind.signed]
            simp
            omega
          have eM2 : wrap64 ((j : Int) * (m : Int)) = (J : Int) := by
            have e1 : (j : Int) * (m : Int) = (J : Int) := by rw [← hJ]; simp
            rw [e1]
            exact IntWalk.wrap64_in _ ⟨by omega, by omega⟩
          have J0 : (0 : Int) ≤ J := by omega
          have J1 : (J : Int) ≤ bs.length := by omega
          have c2 : (bs.length : Int) ≤ cap := by omega
          clear hra HNE HR1 HR2 HS2 HB2 HK HKL HNR HRA HRB HOWN HL0 HKB HONE hm4 hJ
          cases a with
          | none =>
            obtain ⟨hz1, hz2, hz3⟩ := HV.out.none_nil
            obtain rfl : cap = 0 := hz2
            obtain rfl : J = 0 := by omega
            have eM0 : IntKind.i64.wrap ((j : Int) * (m : Int)) = 0 := eM
            have eN0 : wrap64 ((j : Int) * (m : Int)) = 0 := eM2
            have HSUF : Hid (BytesAt w.heap.size w (.slice none 0 0) (bs.drop 0)) := by
              show BytesAt _ _ _ _
              rw [hz3]
              exact BytesAt.nil _ _
            have hcv0 : True := trivial
            generalize bs.drop 0 = tl at HRest HSUF
            rw [hz1]
            clear hkm hl0 hcap HV eM eM2 hz1 hz3 hl1 J0 J1 c2
            have HCV : Hid (∀ W, Below wr.heap.size wr W → (convert 22 9 (.slice none 0 0)).run Try.prog W = .ok (.string (strB tl)) W) := fun W hW => conv_str ((HSUF.out.below HB.out).below (hW.mono HB.out.size))
            clear hcv0
            go_region_held_law (fun W => Below wr.heap.size wr W ∧ (convert 22 9 (.slice none 0 0)).run Try.prog W = .ok (.string (strB tl)) W) (first | assumption | exact ⟨(Below.refl _ _).drew, HCV.out _ (Below.refl _ _).drew⟩) (first
              | (go_at_call 7; (with_reducible refine HBad.out.mono ?_); rintro e w7 ⟨rfl, rfl⟩)
              | (go_at_call 8; (with_reducible refine HRest.out.mono ?_); rintro e w7 ⟨u7, rfl, hu7, hb7d⟩; have hb7 : Below wr.heap.size wr w7 := ⟨hb7d.os, hb7d.tape, hb7d.output, hb7d.size, hb7d.block⟩; have hcv1 := conv_str hu7; have hS7 : Below wr.heap.size wr w7 ∧ (convert 22 9 (.slice none 0 0)).run Try.prog w7 = .ok (.string (strB tl)) w7 := ⟨hb7, HCV.out _ hb7⟩; have HB7 := Lib.hid hb7; clear hu7 hb7d hb7)
              | (go_at_call 9; (with_reducible refine (HAW.out _).mono ?_); rintro e w8 ⟨rfl, hb8⟩; have hb9 := HB7.out.trans (hb8.mono HB7.out.size); have hS8 : Below wr.heap.size wr w8 ∧ (convert 22 9 (.slice none 0 0)).run Try.prog w8 = .ok (.string (strB tl)) w8 := ⟨hb9, HCV.out _ hb9⟩; have HB8 := Lib.hid (HB.out.trans (hb9.mono HB.out.size)); clear hb8 hb9))
            all_goals go_wp2
            all_goals go_ret
            all_goals exact ⟨rfl, HB8.out⟩
          | some ad =>
            by_cases hc : J < cap
            · have HSUF := Lib.hid (HV.out.suf J hkm)
              have hcv0 := conv_str (show BytesAt w.heap.size wr.drew _ _ from HSUF.out.below HB.out)
              have J2 : (J : Int) < cap := by omega
              have J3 : ¬ (cap = J) := by omega
              generalize bs.drop J = tl at HRest HSUF hcv0
              clear hkm hl0 hcap HV
              have HCV : Hid (∀ W, Below wr.heap.size wr W → (convert 22 9 (.slice (some (ad.add J)) (bs.length - J) (cap - J))).run Try.prog W = .ok (.string (strB tl)) W) := fun W hW => conv_str ((HSUF.out.below HB.out).below (hW.mono HB.out.size))
              clear hcv0
              go_region_held_law (fun W => Below wr.heap.size wr W ∧ (convert 22 9 (.slice (some (ad.add J)) (bs.length - J) (cap - J))).run Try.prog W = .ok (.string (strB tl)) W) (first | assumption | exact ⟨(Below.refl _ _).drew, HCV.out _ (Below.refl _ _).drew⟩) (first
                | (go_at_call 7; (with_reducible refine HBad.out.mono ?_); rintro e w7 ⟨rfl, rfl⟩)
                | (go_at_call 8; (with_reducible refine HRest.out.mono ?_); rintro e w7 ⟨u7, rfl, hu7, hb7d⟩; have hb7 : Below wr.heap.size wr w7 := ⟨hb7d.os, hb7d.tape, hb7d.output, hb7d.size, hb7d.block⟩; have hcv1 := conv_str hu7; have hS7 : Below wr.heap.size wr w7 ∧ (convert 22 9 (.slice (some (ad.add J)) (bs.length - J) (cap - J))).run Try.prog w7 = .ok (.string (strB tl)) w7 := ⟨hb7, HCV.out _ hb7⟩; have HB7 := Lib.hid hb7; clear hu7 hb7d hb7)
                | (go_at_call 9; (with_reducible refine (HAW.out _).mono ?_); rintro e w8 ⟨rfl, hb8⟩; have hb9 := HB7.out.trans (hb8.mono HB7.out.size); have hS8 : Below wr.heap.size wr w8 ∧ (convert 22 9 (.slice (some (ad.add J)) (bs.length - J) (cap - J))).run Try.prog w8 = .ok (.string (strB tl)) w8 := ⟨hb9, HCV.out _ hb9⟩; have HB8 := Lib.hid (HB.out.trans (hb9.mono HB.out.size)); clear hb8 hb9))
              all_goals go_wp2
              all_goals go_ret
              all_goals exact ⟨rfl, HB8.out⟩
            · obtain rfl : J = bs.length := by omega
              obtain rfl : cap = bs.length := by omega
              have HSUF : Hid (BytesAt w.heap.size w (.slice (some ad) 0 0) (bs.drop bs.length)) := by
                show BytesAt _ _ _ _
                rw [List.drop_length]
                exact ⟨_, _, rfl, Nat.le_refl _, fun h => (by cases h), .inl rfl⟩
              have hcv0 : True := trivial
              generalize bs.drop bs.length = tl at HRest HSUF
              clear hkm hl0 hcap HV
              have HCV : Hid (∀ W, Below wr.heap.size wr W → (convert 22 9 (.slice (some ad) 0 0)).run Try.prog W = .ok (.string (strB tl)) W) := fun W hW => conv_str ((HSUF.out.below HB.out).below (hW.mono HB.out.size))
              clear hcv0
              go_region_held_law (fun W => Below wr.heap.size wr W ∧ (convert 22 9 (.slice (some ad) 0 0)).run Try.prog W = .ok (.string (strB tl)) W) (first | assumption | exact ⟨(Below.refl _ _).drew, HCV.out _ (Below.refl _ _).drew⟩) (first
                | (go_at_call 7; (with_reducible refine HBad.out.mono ?_); rintro e w7 ⟨rfl, rfl⟩)
                | (go_at_call 8; (with_reducible refine HRest.out.mono ?_); rintro e w7 ⟨u7, rfl, hu7, hb7d⟩; have hb7 : Below wr.heap.size wr w7 := ⟨hb7d.os, hb7d.tape, hb7d.output, hb7d.size, hb7d.block⟩; have hcv1 := conv_str hu7; have hS7 : Below wr.heap.size wr w7 ∧ (convert 22 9 (.slice (some ad) 0 0)).run Try.prog w7 = .ok (.string (strB tl)) w7 := ⟨hb7, HCV.out _ hb7⟩; have HB7 := Lib.hid hb7; clear hu7 hb7d hb7)
                | (go_at_call 9; (with_reducible refine (HAW.out _).mono ?_); rintro e w8 ⟨rfl, hb8⟩; have hb9 := HB7.out.trans (hb8.mono HB7.out.size); have hS8 : Below wr.heap.size wr w8 ∧ (convert 22 9 (.slice (some ad) 0 0)).run Try.prog w8 = .ok (.string (strB tl)) w8 := ⟨hb9, HCV.out _ hb9⟩; have HB8 := Lib.hid (HB.out.trans (hb9.mono HB.out.size)); clear hb8 hb9))
              all_goals go_wp2
              all_goals go_ret
              all_goals exact ⟨rfl, HB8.out⟩
end Go.Proofs.Ytocjdhkjlnkgaaa

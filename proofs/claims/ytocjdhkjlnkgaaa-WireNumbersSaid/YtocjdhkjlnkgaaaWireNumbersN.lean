/-
  WireNumbers: the numbers that are left are those that are read one by one.
  Conditions: none.
-/
import Derived.Test.YtocjdhkjlnkgaaaNums4
import Derived.Test.YtocjdhkjlnkgaaaWireAwake
import Derived.Test.YtocjdhkjlnkgaaaOpenB
import Derived.Deep.DeepCutAuto
import Derived.Deep.RegionHeld3
import Derived.Deep.RegionWith
import Derived.Outline
namespace Go.Proofs.Ytocjdhkjlnkgaaa
open Go.ChangeShapes Go.WideShapes Go.ChangeAt Go.RowKit

theorem newR_rd {bs : List (BitVec 8)} {w : World} {u : Value} (hu : BytesAt w.heap.size w u bs) (hl : bs.length ≤ 1099511627776) :
    Calls Try.prog 4 #[u] w fun e w' => ∃ R, e = .returned (.pointer (some ⟨R, 0, none⟩)) ∧ w.heap.size ≤ R ∧ Rd w'.heap.size w' R bs ∧ Below w.heap.size w w' := by
  refine (newReader_any u bs w hu hl).mono ?_
  rintro e w' ⟨R, v, rfl, h1, h2, h3, _⟩
  exact ⟨R, rfl, h1, ⟨v, h2.blk, h2.bytes⟩, h3⟩

set_option maxRecDepth 100000 in
set_option maxHeartbeats 4000000 in
theorem wireNumbers_bad (v : Value) (bs : List (BitVec 8)) (b : Int) (mo : Nat) (w : World) (hv : BytesAt w.heap.size w v bs) (hl : bs.length ≤ 1000) (hmo : mo ≤ 255) (hb : mayB b = false) :
    Calls Try.prog 3 #[v, .int .i64 b, .int .u8 mo] w (Good w) := by
  have HV := Lib.hid hv
  have HAW := Lib.hid (fun W => awake03 W)
  have HNEW := Lib.hid (fun u W (h : BytesAt W.heap.size W u bs) => newR_rd h (by omega))
  have HNO := Lib.hid (fun R W => Go.callsIn_wide.1 (numbers_no R b mo W (.inl hb)))
  obtain ⟨a, cap, rfl, hcap, _⟩ := id hv
  have hl1 : (bs.length : Int) ≤ 1000 := by omega
  have m0 : (mo : Int) ≤ 255 := by omega
  have n1 : (b == 1) = false := by
    rw [beq_eq_false_iff_ne]; rintro rfl; cases hb
  have n2 : (b == 2) = false := by
    rw [beq_eq_false_iff_ne]; rintro rfl; cases hb
  have n4 : (b == 4) = false := by
    rw [beq_eq_false_iff_ne]; rintro rfl; cases hb
  have n8 : (b == 8) = false := by
    rw [beq_eq_false_iff_ne]; rintro rfl; cases hb
  clear hv hb
  go_enter Try.func3, Try.ntmps3
  go_upto_region 13 with (first
    | (go_at_call 4; first
      | ((with_reducible refine (HNEW.out _ w HV.out).mono ?_); rintro e w1 ⟨R1, rfl, hR1, hr1, hb1⟩; have HRD1 := Lib.hid hr1; have HB1 := Lib.hid hb1; clear hR1 hr1 hb1)
      | ((with_reducible refine (HNEW.out _ w1 ((HV.out.below HB1.out).mono HB1.out.size)).mono ?_); rintro e w2 ⟨R2, rfl, hR2, hr2, hb2⟩; have HRD2 := Lib.hid (HRD1.out.below hb2 (Nat.le_refl _)); have HB2 := Lib.hid (HB1.out.trans (hb2.mono HB1.out.size)); have HS2 := Lib.hid hb2.size; clear hR2 hr2 hb2))
    | (go_at_call 5; (with_reducible refine (HNO.out _ _).mono ?_); rintro e w3 ⟨rfl, hb3⟩; have HRD3 := Lib.hid (HRD2.out.below (hb3) HS2.out); have HB3 := Lib.hid (HB2.out.trans (hb3.mono HB2.out.size)); have HS3 := Lib.hid (Nat.le_trans HS2.out hb3.size); clear hb3))
  go_loopw [11] (fun i wr => i = .int .i64 0 ∧ w3 = wr) (fun _ _ => 0)
  case atStart => exact ⟨rfl, rfl⟩
  case round =>
    obtain ⟨rfl, rfl⟩ := hrel
    go_upto_region 13 with (fail)
    have hcv0 := conv_str (show BytesAt w.heap.size w3.drew _ _ from HV.out.below HB3.out)
    obtain ⟨vr, hra⟩ := HRD3.out.at HS3.out
    have HBad := Lib.hid (bad_any R1 vr bs false w3.drew ⟨hra.blk, hra.bytes⟩)
    have HRest := Lib.hid (rest_any R1 vr bs false w3.drew ⟨hra.blk, hra.bytes⟩ (by omega))
    clear hra
    go_region_with (first
      | (go_at_call 7; (with_reducible refine HBad.out.mono ?_); rintro e w7 ⟨rfl, rfl⟩)
      | (go_at_call 8; (with_reducible refine HRest.out.mono ?_); rintro e w7 ⟨u7, rfl, hu7, hb7d⟩; have hb7 : Below w3.heap.size w3 w7 := ⟨hb7d.os, hb7d.tape, hb7d.output, hb7d.size, hb7d.block⟩; have hcv1 := conv_str hu7; have hcv2 := conv_str ((HV.out.below HB3.out).below (hb7.mono HB3.out.size)); have HB7 := Lib.hid (HB3.out.trans (hb7.mono HB3.out.size)); clear hu7 hb7d hb7)
      | (go_at_call 9; (with_reducible refine (HAW.out _).mono ?_); rintro e w8 ⟨rfl, hb8⟩; have HB8 := Lib.hid (HB7.out.trans (hb8.mono HB7.out.size)); clear hb8))
    all_goals go_wp2
    all_goals go_ret
    all_goals exact ⟨rfl, HB8.out⟩
end Go.Proofs.Ytocjdhkjlnkgaaa

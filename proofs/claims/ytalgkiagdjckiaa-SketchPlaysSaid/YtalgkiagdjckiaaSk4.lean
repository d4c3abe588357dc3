/-
  sketch: Halve.
  Conditions: none.
-/
import Derived.Test.YtalgkiagdjckiaaSk2
namespace Go.Proofs.Ytalgkiagdjckiaa
open Go.RowKit Go.Shelf

/-- The counts when the rows below r are halved, and of the row r the places below j. -/
def hlvTo (C : Nat → Nat → Nat) (r j : Nat) (s i : Nat) : Nat := if s < r ∨ (s = r ∧ i < j) then C s i / 2 else C s i
theorem hlvTo_le {C : Nat → Nat → Nat} (h : ∀ r j, C r j ≤ 15) (r j s i : Nat) : hlvTo C r j s i ≤ 15 := by
  unfold hlvTo
  have := h s i
  split <;> omega
/-- All counts halved. -/
def hlv (C : Nat → Nat → Nat) (s i : Nat) : Nat := C s i / 2
theorem hlv_le {C : Nat → Nat → Nat} (h : ∀ r j, C r j ≤ 15) (s i : Nat) : hlv C s i ≤ 15 := by
  unfold hlv
  have := h s i
  omega
theorem half_mod {x : Nat} (h : x ≤ 15) : (x : Int) / 2 % 256 = ((x / 2 : Nat) : Int) := by omega
theorem index4_0 (x0 x1 x2 x3 : Addr) (N : Nat) (W : World) : (Instr.index 51 (.agg #[.slice (some x0) N N, .slice (some x1) N N, .slice (some x2) N N, .slice (some x3) N N]) (.int .i64 0)).run Try.prog W = .ok (.slice (some x0) N N) W := by
  show _ = _; kernel_rfl
theorem index4_1 (x0 x1 x2 x3 : Addr) (N : Nat) (W : World) : (Instr.index 51 (.agg #[.slice (some x0) N N, .slice (some x1) N N, .slice (some x2) N N, .slice (some x3) N N]) (.int .i64 1)).run Try.prog W = .ok (.slice (some x1) N N) W := by
  show _ = _; kernel_rfl
theorem index4_2 (x0 x1 x2 x3 : Addr) (N : Nat) (W : World) : (Instr.index 51 (.agg #[.slice (some x0) N N, .slice (some x1) N N, .slice (some x2) N N, .slice (some x3) N N]) (.int .i64 2)).run Try.prog W = .ok (.slice (some x2) N N) W := by
  show _ = _; kernel_rfl
theorem index4_3 (x0 x1 x2 x3 : Addr) (N : Nat) (W : World) : (Instr.index 51 (.agg #[.slice (some x0) N N, .slice (some x1) N N, .slice (some x2) N N, .slice (some x3) N N]) (.int .i64 3)).run Try.prog W = .ok (.slice (some x3) N N) W := by
  show _ = _; kernel_rfl
theorem hlv_step (C : Nat → Nat → Nat) (r j : Nat) (h : ∀ r j, C r j ≤ 15) : hlvTo C r j r j ≤ 15 ∧ ∀ s i, hlvTo C r (j + 1) s i = (if s = r ∧ i = j then hlvTo C r j r j / 2 else hlvTo C r j s i) := by
  refine ⟨hlvTo_le h _ _ _ _, fun s i => ?_⟩
  unfold hlvTo
  by_cases h1 : s = r ∧ i = j
  · obtain ⟨rfl, rfl⟩ := h1
    simp
  · rw [if_neg h1]
    by_cases h2 : s < r ∨ s = r ∧ i < j
    · rw [if_pos h2, if_pos (by omega)]
    · rw [if_neg h2, if_neg (by omega)]
theorem hlv_row {N : Nat} (C : Nat → Nat → Nat) (r s i : Nat) (hi : i < N) : hlvTo C (r + 1) 0 s i = hlvTo C r N s i := by
  unfold hlvTo
  by_cases h2 : s < r ∨ s = r ∧ i < N
  · rw [if_pos h2, if_pos (by omega)]
  · rw [if_neg h2, if_neg (by omega)]
section
attribute [local go_sem] index4_0 index4_1 index4_2 index4_3
set_option maxRecDepth 100000 in
set_option maxHeartbeats 2000000 in
theorem halve_any {w : World} {G : Nat} {b : Nat → Nat} {N age : Nat} {C : Nat → Nat → Nat} (hS : SkAt w G b N age C) :
    Calls Try.prog 13 #[.pointer (some ⟨G, 0, none⟩)] w fun e w' => e = .returned (.tuple #[]) ∧ SkAt w' G b N 0 (hlv C) ∧ Moves (SkS G b) w w' := by
  have hN := hS.wide.le
  have HSK := Lib.hid hS
  have HW := Lib.hid (width_any hS)
  have n1 : ((N : Int) == 0) = false := beq_eq_false_iff_ne.2 (by omega)
  have d0 : w.cell? ⟨G, 0, none⟩ = some (.slice (some ⟨b 0, 0, none⟩) N N) := hS.slot (r := 0) (by decide)
  have d1 : w.cell? ⟨G, 1, none⟩ = some (.slice (some ⟨b 1, 0, none⟩) N N) := hS.slot (r := 1) (by decide)
  have d2 : w.cell? ⟨G, 2, none⟩ = some (.slice (some ⟨b 2, 0, none⟩) N N) := hS.slot (r := 2) (by decide)
  have d3 : w.cell? ⟨G, 3, none⟩ = some (.slice (some ⟨b 3, 0, none⟩) N N) := hS.slot (r := 3) (by decide)
  have HN := Lib.hid hN
  clear hS hN
  go_enter Try.func13, Try.ntmps13
  go_wp2_with (go_at_call 10; (with_reducible refine HW.out.mono ?_); rintro e w' ⟨rfl, rfl⟩)
  go_loopw [3, 4, 12] (fun v3 v4 i wr => ∃ r : Nat, r ≤ 4 ∧ i = .int .i64 r ∧ SkAt wr G b N age (hlvTo C r 0) ∧ Moves (SkS G b) w wr) (fun _ _ i _ => 4 - (intOf i).toNat)
  case atStart => exact ⟨0, by omega, rfl, HSK.out.congr (fun r j _ _ => by simp [hlvTo]) (hlvTo_le HSK.out.small 0 0), Moves.refl _ _⟩
  case round =>
    obtain ⟨r, hr, rfl, hSr, hM⟩ := hrel
    obtain ⟨wo, rfl⟩ : ∃ wo, wo = wr := ⟨_, rfl⟩
    have HS0 := Lib.hid HSK.out.small
    by_cases h4 : r < 4
    · have HSR := Lib.hid hSr
      have HM := Lib.hid hM
      have HR4 := Lib.hid h4
      have hcs : r = 0 ∨ r = 1 ∨ r = 2 ∨ r = 3 := by omega
      clear hSr hM hr d0 d1 d2 d3
      rcases hcs with rfl | rfl | rfl | rfl
      · go_wp2
        go_loopw [4, 17] (fun _ i W => ∃ j : Nat, j ≤ N ∧ i = .int .i64 j ∧ SkAt W G b N age (hlvTo C 0 j) ∧ Moves (SkS G b) w W) (fun _ i _ => N - (intOf i).toNat)
        case atStart => exact ⟨0, Nat.zero_le _, rfl, HSR.out, HM.out⟩
        case round =>
          obtain ⟨j, hj, rfl, hSj, hMj⟩ := hrel
          by_cases hjN : j < N
          · have q3 : wr.cell? ⟨b 0, j, none⟩ = some (.int .u8 ((hlvTo C 0 j 0 j : Nat) : Int)) := hSj.count (by decide) hjN
            have q4 : wr.frozen? ⟨b 0, j, none⟩ = false := blk_frozen (hSj.row 0 (by decide)) j
            have pN : (j : Int) < N := by omega
            have pB : (N : Int) ≤ 4096 := by have := HN.out; omega
            have HE := Lib.hid (half_mod (hlvTo_le HS0.out 0 j 0 j))
            have HX := Lib.hid (hlv_step C 0 j HS0.out)
            have HSJ := Lib.hid hSj
            have HMJ := Lib.hid hMj
            have HJN := Lib.hid hjN
            generalize hlvTo C 0 j 0 j = c at *
            clear hSj hMj hj hjN
            go_wp2
            go_roundw
            case rel => 
              have hjn := HJN.out
              have hp := HSJ.out.put (r := 0) (j := j) (v := c / 2) (by decide) (by have := HX.out.1; omega)
              rw [HE.out]
              refine ⟨j + 1, by omega, by go_num, hp.congr (fun s i _ _ => HX.out.2 s i) (hlvTo_le HS0.out 0 (j + 1)), HMJ.out.setCell (p := ⟨b 0, j, none⟩) (fun _ => .inr ⟨0, by decide, rfl⟩) _⟩
            case measure => have := HJN.out; simp [intOf]; omega
          · obtain rfl : j = N := by omega
            go_wp2
            go_roundw
            case rel => exact ⟨1, by decide, by go_num, hSj.congr (fun s i hs hi => hlv_row C 0 s i hi) (hlvTo_le HS0.out 1 0), hMj⟩
            case measure => simp [intOf]
      · go_wp2
        go_loopw [4, 17] (fun _ i W => ∃ j : Nat, j ≤ N ∧ i = .int .i64 j ∧ SkAt W G b N age (hlvTo C 1 j) ∧ Moves (SkS G b) w W) (fun _ i _ => N - (intOf i).toNat)
        case atStart => exact ⟨0, Nat.zero_le _, rfl, HSR.out, HM.out⟩
        case round =>
          obtain ⟨j, hj, rfl, hSj, hMj⟩ := hrel
          by_cases hjN : j < N
          · have q3 : wr.cell? ⟨b 1, j, none⟩ = some (.int .u8 ((hlvTo C 1 j 1 j : Nat) : Int)) := hSj.count (by decide) hjN
            have q4 : wr.frozen? ⟨b 1, j, none⟩ = false := blk_frozen (hSj.row 1 (by decide)) j
            have pN : (j : Int) < N := by omega
            have pB : (N : Int) ≤ 4096 := by have := HN.out; omega
            have HE := Lib.hid (half_mod (hlvTo_le HS0.out 1 j 1 j))
            have HX := Lib.hid (hlv_step C 1 j HS0.out)
            have HSJ := Lib.hid hSj
            have HMJ := Lib.hid hMj
            have HJN := Lib.hid hjN
            generalize hlvTo C 1 j 1 j = c at *
            clear hSj hMj hj hjN
            go_wp2
            go_roundw
            case rel => 
              have hjn := HJN.out
              have hp := HSJ.out.put (r := 1) (j := j) (v := c / 2) (by decide) (by have := HX.out.1; omega)
              rw [HE.out]
              refine ⟨j + 1, by omega, by go_num, hp.congr (fun s i _ _ => HX.out.2 s i) (hlvTo_le HS0.out 1 (j + 1)), HMJ.out.setCell (p := ⟨b 1, j, none⟩) (fun _ => .inr ⟨1, by decide, rfl⟩) _⟩
            case measure => have := HJN.out; simp [intOf]; omega
          · obtain rfl : j = N := by omega
            go_wp2
            go_roundw
            case rel => exact ⟨2, by decide, by go_num, hSj.congr (fun s i hs hi => hlv_row C 1 s i hi) (hlvTo_le HS0.out 2 0), hMj⟩
            case measure => simp [intOf]
      · go_wp2
        go_loopw [4, 17] (fun _ i W => ∃ j : Nat, j ≤ N ∧ i = .int .i64 j ∧ SkAt W G b N age (hlvTo C 2 j) ∧ Moves (SkS G b) w W) (fun _ i _ => N - (intOf i).toNat)
        case atStart => exact ⟨0, Nat.zero_le _, rfl, HSR.out, HM.out⟩
        case round =>
          obtain ⟨j, hj, rfl, hSj, hMj⟩ := hrel
          by_cases hjN : j < N
          · have q3 : wr.cell? ⟨b 2, j, none⟩ = some (.int .u8 ((hlvTo C 2 j 2 j : Nat) : Int)) := hSj.count (by decide) hjN
            have q4 : wr.frozen? ⟨b 2, j, none⟩ = false := blk_frozen (hSj.row 2 (by decide)) j
            have pN : (j : Int) < N := by omega
            have pB : (N : Int) ≤ 4096 := by have := HN.out; omega
            have HE := Lib.hid (half_mod (hlvTo_le HS0.out 2 j 2 j))
            have HX := Lib.hid (hlv_step C 2 j HS0.out)
            have HSJ := Lib.hid hSj
            have HMJ := Lib.hid hMj
            have HJN := Lib.hid hjN
            generalize hlvTo C 2 j 2 j = c at *
            clear hSj hMj hj hjN
            go_wp2
            go_roundw
            case rel => 
              have hjn := HJN.out
              have hp := HSJ.out.put (r := 2) (j := j) (v := c / 2) (by decide) (by have := HX.out.1; omega)
              rw [HE.out]
              refine ⟨j + 1, by omega, by go_num, hp.congr (fun s i _ _ => HX.out.2 s i) (hlvTo_le HS0.out 2 (j + 1)), HMJ.out.setCell (p := ⟨b 2, j, none⟩) (fun _ => .inr ⟨2, by decide, rfl⟩) _⟩
            case measure => have := HJN.out; simp [intOf]; omega
          · obtain rfl : j = N := by omega
            go_wp2
            go_roundw
            case rel => exact ⟨3, by decide, by go_num, hSj.congr (fun s i hs hi => hlv_row C 2 s i hi) (hlvTo_le HS0.out 3 0), hMj⟩
            case measure => simp [intOf]
      · go_wp2
        go_loopw [4, 17] (fun _ i W => ∃ j : Nat, j ≤ N ∧ i = .int .i64 j ∧ SkAt W G b N age (hlvTo C 3 j) ∧ Moves (SkS G b) w W) (fun _ i _ => N - (intOf i).toNat)
        case atStart => exact ⟨0, Nat.zero_le _, rfl, HSR.out, HM.out⟩
        case round =>
          obtain ⟨j, hj, rfl, hSj, hMj⟩ := hrel
          by_cases hjN : j < N
          · have q3 : wr.cell? ⟨b 3, j, none⟩ = some (.int .u8 ((hlvTo C 3 j 3 j : Nat) : Int)) := hSj.count (by decide) hjN
            have q4 : wr.frozen? ⟨b 3, j, none⟩ = false := blk_frozen (hSj.row 3 (by decide)) j
            have pN : (j : Int) < N := by omega
            have pB : (N : Int) ≤ 4096 := by have := HN.out; omega
            have HE := Lib.hid (half_mod (hlvTo_le HS0.out 3 j 3 j))
            have HX := Lib.hid (hlv_step C 3 j HS0.out)
            have HSJ := Lib.hid hSj
            have HMJ := Lib.hid hMj
            have HJN := Lib.hid hjN
            generalize hlvTo C 3 j 3 j = c at *
            clear hSj hMj hj hjN
            go_wp2
            go_roundw
            case rel => 
              have hjn := HJN.out
              have hp := HSJ.out.put (r := 3) (j := j) (v := c / 2) (by decide) (by have := HX.out.1; omega)
              rw [HE.out]
              refine ⟨j + 1, by omega, by go_num, hp.congr (fun s i _ _ => HX.out.2 s i) (hlvTo_le HS0.out 3 (j + 1)), HMJ.out.setCell (p := ⟨b 3, j, none⟩) (fun _ => .inr ⟨3, by decide, rfl⟩) _⟩
            case measure => have := HJN.out; simp [intOf]; omega
          · obtain rfl : j = N := by omega
            go_wp2
            go_roundw
            case rel => exact ⟨4, by decide, by go_num, hSj.congr (fun s i hs hi => hlv_row C 3 s i hi) (hlvTo_le HS0.out 4 0), hMj⟩
            case measure => simp [intOf]
    · obtain rfl : r = 4 := by omega
      have q4 : wo.cell? ⟨G, 4, none⟩ = some (.int .i64 (age : Int)) := hSr.old
      have q5 : wo.frozen? ⟨G, 4, none⟩ = false := blk_frozen hSr.blk 4
      have HSR := Lib.hid hSr
      have HM := Lib.hid hM
      clear hSr hM
      go_wp2
      go_end0
      refine ⟨rfl, (HSR.out.setAge (a := 0) (Nat.zero_le _)).congr (fun s i hs _ => by simp [hlv, hlvTo, hs]) (hlv_le HS0.out), HM.out.setCell (p := ⟨G, 4, none⟩) (fun _ => .inl rfl) _⟩
end
end Go.Proofs.Ytalgkiagdjckiaa

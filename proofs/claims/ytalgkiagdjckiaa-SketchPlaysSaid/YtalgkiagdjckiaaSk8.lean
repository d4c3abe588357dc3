/-
  sketch: what the chapter's example says.
  Conditions: none.
-/
import Derived.Test.YtalgkiagdjckiaaSk7
import Derived.Test.YtalgkiagdjckiaaSkMath
namespace Go.Proofs.Ytalgkiagdjckiaa
open Go.RowKit

theorem wide16 : WideOk 16 := ⟨4, by decide, by decide, rfl⟩
theorem aw_new (w : World) : Calls Try.prog 8 #[.int .i64 16] w fun e w' => e = .returned (.pointer (some ⟨w.heap.size, 0, none⟩)) ∧ SkAt w' w.heap.size (fun r => w.heap.size + 1 + r) 16 0 (fun _ _ => 0) ∧ Below w.heap.size w w' := new_any wide16 w
/-- Counts that are n at all places of the number 5. -/
def All5 (n : Nat) (C : Nat → Nat → Nat) : Prop := ∀ r, r < 4 → C r (plc 16 5#64 r) = n
theorem aw_mark {w : World} {G : Nat} {b : Nat → Nat} {age : Nat} {C : Nat → Nat → Nat} (hS : SkAt w G b 16 age C) (ha : age < 100) {n : Nat} (hn : n < 15) (hC : All5 n C) :
    Calls Try.prog 19 #[.pointer (some ⟨G, 0, none⟩), .int .u64 5] w fun e w' => e = .returned (.int .i64 ((n + 1 : Nat) : Int)) ∧ (∃ C', SkAt w' G b 16 (age + 1) C' ∧ All5 (n + 1) C') ∧ Moves (SkS G b) w w' := by
  have h := mark_any hS (by omega) 5#64
  have e1 : age + 1 ≠ 10 * 16 := by omega
  rw [mrkC_young e1, gss_eq (by omega) hC] at h
  have hA := grw_all hn hC
  rw [gss_eq (by omega) hA] at h
  refine h.mono fun e w' ⟨h1, h2, h3⟩ => ⟨h1, ⟨_, ?_, hA⟩, h3⟩
  have e2 : mrkA 16 age = age + 1 := by unfold mrkA; rw [if_neg e1]
  rw [e2] at h2
  exact h2
theorem aw_guess {w : World} {G : Nat} {b : Nat → Nat} {age : Nat} {C : Nat → Nat → Nat} (hS : SkAt w G b 16 age C) {n : Nat} (hn : n ≤ 15) (hC : All5 n C) :
    Calls Try.prog 22 #[.pointer (some ⟨G, 0, none⟩), .int .u64 5] w fun e w' => e = .returned (.int .i64 (n : Int)) ∧ Below w.heap.size w w' := by
  have h := guess_any hS 5#64
  rw [gss_eq hn hC] at h
  exact h
theorem all5_half {C : Nat → Nat → Nat} {n : Nat} (hC : All5 n C) : All5 (n / 2) (hlv C) := hlv_row4 hC
set_option maxRecDepth 100000 in
set_option maxHeartbeats 2000000 in
theorem awake23 (w : World) : Calls Try.prog 11 #[] w fun e w' => e = .returned (.bool true) ∧ Below w.heap.size w w' := by
  go_enter Try.func11, Try.ntmps11
  go_wp2_with (first
    | (go_at_call 8; (with_reducible refine (aw_new _).mono ?_); rintro e w1 ⟨rfl, h1, hb1⟩; have H1 := Lib.hid (aw_mark h1 (by decide) (n := 0) (by decide) (fun _ _ => rfl)); have HB1 := Lib.hid hb1; clear h1 hb1)
    | (go_at_call 19; (with_reducible refine H1.out.mono ?_); rintro e w2 ⟨rfl, ⟨C2, h2, hc2⟩, m2⟩; have H2 := Lib.hid (aw_mark h2 (by decide) (n := 1) (by decide) hc2); have M2 := Lib.hid m2; clear H1 h2 m2 hc2)
    | (go_at_call 19; (with_reducible refine H2.out.mono ?_); rintro e w3 ⟨rfl, ⟨C3, h3, hc3⟩, m3⟩; have H3 := Lib.hid (aw_guess h3 (n := 2) (by decide) hc3); have HS3 := Lib.hid h3; have HC3 := Lib.hid hc3; have M3 := Lib.hid m3; clear H2 h3 m3 hc3)
    | (go_at_call 22; (with_reducible refine H3.out.mono ?_); rintro e w4 ⟨rfl, hb4⟩; have H4 := Lib.hid (halve_any (HS3.out.same hb4)); have HB4 := Lib.hid hb4; clear H3 hb4)
    | (go_at_call 13; (with_reducible refine H4.out.mono ?_); rintro e w5 ⟨rfl, h5, m5⟩; have H5 := Lib.hid (aw_guess h5 (n := 1) (by decide) (all5_half HC3.out)); have HW5 := Lib.hid (fun V (hb : Below w5.heap.size w5 V) => width_any (h5.same hb)); have M5 := Lib.hid m5; clear H4 h5 m5)
    | (go_at_call 22; (with_reducible refine H5.out.mono ?_); rintro e w6 ⟨rfl, hb6⟩; have H6 := Lib.hid (HW5.out _ hb6); have HB6 := Lib.hid hb6; clear H5 hb6)
    | (go_at_call 10; (with_reducible refine H6.out.mono ?_); rintro e w7 ⟨rfl, rfl⟩))
  go_ret
  have hS : ∀ i, SkS w.heap.size (fun r => w.heap.size + 1 + r) i → w.heap.size ≤ i := by
    rintro i (rfl | ⟨r, _, rfl⟩)
    · exact Nat.le_refl _
    · show w.heap.size ≤ w.heap.size + 1 + r; omega
  have m := moves_t M2.out (moves_t M3.out (moves_t (Moves.of_below HB4.out) (moves_t M5.out (Moves.of_below HB6.out))))
  exact ⟨rfl, HB1.out.trans (m.below (B := w.heap.size) hS HB1.out.size)⟩
end Go.Proofs.Ytalgkiagdjckiaa

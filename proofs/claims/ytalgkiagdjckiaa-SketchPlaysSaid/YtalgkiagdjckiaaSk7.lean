/-
  sketch: New, Admit, what the chapter's example says.
  Conditions: none.
-/
import Derived.Test.YtalgkiagdjckiaaSk6
namespace Go.Proofs.Ytalgkiagdjckiaa
open Go.RowKit

theorem makeRow0 (n : Nat) (hn : n ≤ 4096) (W : World) : (Instr.makeSlice 34 (.int .i64 n) (.int .i64 n)).run Try.prog W = .ok (.slice (some ⟨W.heap.size, 0, none⟩) n n) (W.alloc (.cells (rowC n (fun _ => 0)).toArray 5)) := by
  obtain ⟨i0, hi, hz0, hz1, hz2⟩ := info_parts Try.infoU8
  have h := run_make (P := Try.prog) W 34 5 i0 (.int .u8 0) Try.underlying34 hi hz0 .i64 .i64 n n (by omega) (by omega) (by rw [hz2]; omega) (by omega)
  simp only [Int.toNat_natCast] at h
  rw [hz1, Nat.mul_one] at h
  have e : madeCells (Value.int .u8 0).cells n = (rowC n (fun _ => 0)).toArray := by
    apply Array.ext_getElem?
    intro i
    by_cases hi : i < n
    · simp [madeCells, Value.cells, rowC, hi, Nat.mod_one]
    · simp [madeCells, Value.cells, rowC, hi]
  rw [e] at h
  exact h
/-- A sketch's cells while its rows are made. -/
def newC (B N : Nat) : Nat → Array Value
  | 0 => #[.slice none 0 0, .slice none 0 0, .slice none 0 0, .slice none 0 0, .int .i64 0]
  | 1 => #[.slice (some ⟨B + 1, 0, none⟩) N N, .slice none 0 0, .slice none 0 0, .slice none 0 0, .int .i64 0]
  | 2 => #[.slice (some ⟨B + 1, 0, none⟩) N N, .slice (some ⟨B + 2, 0, none⟩) N N, .slice none 0 0, .slice none 0 0, .int .i64 0]
  | 3 => #[.slice (some ⟨B + 1, 0, none⟩) N N, .slice (some ⟨B + 2, 0, none⟩) N N, .slice (some ⟨B + 3, 0, none⟩) N N, .slice none 0 0, .int .i64 0]
  | _ => #[.slice (some ⟨B + 1, 0, none⟩) N N, .slice (some ⟨B + 2, 0, none⟩) N N, .slice (some ⟨B + 3, 0, none⟩) N N, .slice (some ⟨B + 4, 0, none⟩) N N, .int .i64 0]
theorem newC_set (B N r : Nat) (h : r < 4) : (newC B N r).setIfInBounds r (.slice (some ⟨B + 1 + r, 0, none⟩) N N) = newC B N (r + 1) := by
  match r, h with
  | 0, _ => rfl
  | 1, _ => rfl
  | 2, _ => rfl
  | 3, _ => rfl
theorem newC_get (B N r : Nat) (h : r < 4) : (newC B N r)[r]? = some (.slice none 0 0) := by
  match r, h with
  | 0, _ => rfl
  | 1, _ => rfl
  | 2, _ => rfl
  | 3, _ => rfl
/-- A sketch while its rows are made. -/
structure NewAt (w : World) (N r : Nat) (W : World) : Prop where
  size : W.heap.size = w.heap.size + 1 + r
  blk : W.heap[w.heap.size]? = some (.cells (newC w.heap.size N r) 53 (0, 0))
  row : ∀ s, s < r → W.heap[w.heap.size + 1 + s]? = some (.cells (rowC N (fun _ => 0)).toArray 5 (0, 0))
  below : Below w.heap.size w W
theorem NewAt.next {w W : World} {N r : Nat} (h : NewAt w N r W) (hr : r < 4) : NewAt w N (r + 1) (((W.alloc (.cells (rowC N (fun _ => 0)).toArray 5)).drew).setCell ⟨w.heap.size, r, none⟩ (.slice (some ⟨W.heap.size, 0, none⟩) N N)) := by
  have hs := h.size
  have b1 : (W.alloc (.cells (rowC N (fun _ => 0)).toArray 5)).drew.heap[w.heap.size]? = some (.cells (newC w.heap.size N r) 53 (0, 0)) := blk_alloc h.blk _
  refine ⟨?_, ?_, fun s hlt => ?_, (((h.below.alloc (by omega) _).drew).setCell (p := ⟨w.heap.size, r, none⟩) (Nat.le_refl _) _)⟩
  · have e : (((W.alloc (.cells (rowC N (fun _ => 0)).toArray 5)).drew).setCell ⟨w.heap.size, r, none⟩ (.slice (some ⟨W.heap.size, 0, none⟩) N N)).heap.size = (W.alloc (.cells (rowC N (fun _ => 0)).toArray 5)).drew.heap.size := by simp [World.setCell]
    rw [e]
    show (W.alloc _).heap.size = _
    rw [World.size_alloc, hs]; omega
  · rw [blk_set b1, hs, newC_set _ _ _ hr]
  · rw [Below.heap_setCell _ _ _ _ (by show w.heap.size + 1 + s ≠ w.heap.size; omega)]
    by_cases e : s = r
    · subst e
      rw [← hs]
      exact heap_alloc_new W _
    · exact blk_alloc (h.row s (by omega)) _
theorem NewAt.done {w W : World} {N : Nat} (h : NewAt w N 4 W) (hN : WideOk N) : SkAt W w.heap.size (fun r => w.heap.size + 1 + r) N 0 (fun _ _ => 0) :=
  ⟨hN, Nat.zero_le _, fun _ _ => Nat.zero_le _, fun _ _ _ _ e => Nat.add_left_cancel e, h.blk, fun r hr => h.row r hr⟩
theorem wide_and {N : Nat} (h : WideOk N) : bits .and .i64 (N : Int) ((N : Int) - 1) = 0 := by
  obtain ⟨k, h1, h2, rfl⟩ := h
  have : k = 1 ∨ k = 2 ∨ k = 3 ∨ k = 4 ∨ k = 5 ∨ k = 6 ∨ k = 7 ∨ k = 8 ∨ k = 9 ∨ k = 10 ∨ k = 11 ∨ k = 12 := by omega
  rcases this with rfl | rfl | rfl | rfl | rfl | rfl | rfl | rfl | rfl | rfl | rfl | rfl <;> decide +kernel
set_option maxRecDepth 100000 in
set_option maxHeartbeats 2000000 in
theorem new_any {N : Nat} (hN : WideOk N) (w : World) :
    Calls Try.prog 8 #[.int .i64 (N : Int)] w fun e w' => e = .returned (.pointer (some ⟨w.heap.size, 0, none⟩)) ∧ SkAt w' w.heap.size (fun r => w.heap.size + 1 + r) N 0 (fun _ _ => 0) ∧ Below w.heap.size w w' := by
  have hle := hN.le
  have n1 : ¬ ((N : Int) < 2) := by omega
  have n2 : ¬ ((4096 : Int) < N) := by omega
  have n3 := wide_and hN
  have n4 : wrap64 ((N : Int) - 1) = (N : Int) - 1 := IntWalk.wrap64_in _ ⟨by omega, by omega⟩
  have HMK := Lib.hid (fun W => makeRow0 N hle.2 W)
  have HN := Lib.hid hN
  clear hN hle
  go_enter Try.func8, Try.ntmps8
  go_wp2
  go_loopw [4, 20] (fun _ i W => ∃ r : Nat, r ≤ 4 ∧ i = .int .i64 r ∧ NewAt w N r W) (fun _ i _ => 4 - (intOf i).toNat)
  case atStart => exact ⟨0, by omega, rfl, by simp, heap_alloc_new _ _, fun s h => absurd h (by omega), (Below.refl _ w).alloc (Nat.le_refl _) _⟩
  case round =>
    obtain ⟨r, hr, rfl, hA⟩ := hrel
    by_cases h4 : r < 4
    · have x4 : (r : Int) < 4 := by omega
      have HA := Lib.hid hA
      have H4 := Lib.hid h4
      have q1 : (wr.alloc (.cells (rowC N (fun _ => 0)).toArray 5)).drew.cell? ⟨w.heap.size, r, none⟩ = some (.slice none 0 0) := (blk_cell (blk_alloc hA.blk _) r).trans (newC_get _ _ _ h4)
      have q2 : (wr.alloc (.cells (rowC N (fun _ => 0)).toArray 5)).drew.frozen? ⟨w.heap.size, r, none⟩ = false := blk_frozen (blk_alloc hA.blk _) r
      have mk := HMK.out wr.drew
      clear hA hr h4
      go_wp2
      go_region
      have hnx := HA.out.next H4.out
      go_wp2
      go_roundw
      case rel => exact ⟨r + 1, by have := H4.out; omega, by go_num, hnx⟩
      case measure => have := H4.out; simp [intOf]; omega
    · obtain rfl : r = 4 := by omega
      have HA := Lib.hid hA
      clear hA
      go_wp2
      go_ret
      exact ⟨rfl, HA.out.done HN.out, HA.out.below⟩
/-- No width. -/
theorem new_not {n : Int} (h : n < 2 ∨ 4096 < n ∨ (2 ≤ n ∧ n ≤ 4096 ∧ bits .and .i64 n (n - 1) ≠ 0)) (w : World) :
    Calls Try.prog 8 #[.int .i64 n] w fun e w' => e = .returned (.pointer none) ∧ w = w' := by
  rcases h with h | h | ⟨h1, h2, h3⟩
  · go_enter Try.func8, Try.ntmps8
    go_wp2
    go_ret
    exact ⟨rfl, rfl⟩
  · have h1 : ¬ n < 2 := by omega
    go_enter Try.func8, Try.ntmps8
    go_wp2
    go_ret
    exact ⟨rfl, rfl⟩
  · have n1 : ¬ n < 2 := by omega
    have n2 : ¬ 4096 < n := by omega
    have n4 : wrap64 (n - 1) = n - 1 := IntWalk.wrap64_in _ ⟨by omega, by omega⟩
    have n5 : (bits .and .i64 n (n - 1) == 0) = false := beq_eq_false_iff_ne.2 h3
    clear h1 h2
    go_enter Try.func8, Try.ntmps8
    go_wp2
    go_ret
    exact ⟨rfl, rfl⟩
theorem admit_any {w : World} {G : Nat} {b : Nat → Nat} {N age : Nat} {C : Nat → Nat → Nat} (hS : SkAt w G b N age C) (h k : BitVec 64) :
    Calls Try.prog 23 #[.pointer (some ⟨G, 0, none⟩), .int .u64 (U h), .int .u64 (U k)] w fun e w' => e = .returned (.bool (decide (gss C N k < gss C N h))) ∧ Below w.heap.size w w' := by
  have HA := Lib.hid (guess_any hS h)
  have HB := Lib.hid (fun V (hb : Below w.heap.size w V) => guess_any (hS.same hb) k)
  clear hS
  generalize gss C N h = x at *
  generalize gss C N k = y at *
  go_enter Try.func23, Try.ntmps23
  go_wp2_with (first
    | (go_at_call 22; (with_reducible refine HA.out.mono ?_); rintro e w1 ⟨rfl, hb1⟩; have H2 := Lib.hid (HB.out _ hb1); have HB1 := Lib.hid hb1; clear hb1 HB HA)
    | (go_at_call 22; (with_reducible refine H2.out.mono ?_); rintro e w2 ⟨rfl, hb2⟩; have HB2 := Lib.hid hb2; clear hb2 H2))
  all_goals
    go_ret
    refine ⟨?_, HB1.out.trans (HB2.out.mono HB1.out.size)⟩
    first | rfl | (simp; omega) | trace_state
theorem admit_nil (h k : Int) (w : World) :
    Calls Try.prog 23 #[.pointer none, .int .u64 h, .int .u64 k] w fun e w' => e = .returned (.bool false) ∧ Below w.heap.size w w' := by
  go_enter Try.func23, Try.ntmps23
  go_wp2_with (first
    | (go_at_call 22; (with_reducible refine (guess_nil h _).mono ?_); rintro e w1 ⟨rfl, hb1⟩; first | (have HB2 := Lib.hid (HB1.out.trans (hb1.mono HB1.out.size)); clear hb1) | (have HB1 := Lib.hid hb1; clear hb1))
    | (go_at_call 22; (with_reducible refine (guess_nil k _).mono ?_); rintro e w1 ⟨rfl, hb1⟩; have HB2 := Lib.hid (HB1.out.trans (hb1.mono HB1.out.size)); clear hb1))
  go_ret
  exact ⟨rfl, HB2.out⟩
end Go.Proofs.Ytalgkiagdjckiaa

/-
  sketch: a sketch in memory; New, Width, Age, oldest.
  Conditions: none.
-/
import Derived.Test.YtalgkiagdjckiaaMem
import Derived.Test.YtalgkiagdjckiaaRange
import Derived.Test.YtalgkiagdjckiaaQuietB
import Derived.Test.YtalgkiagdjckiaaMix
import Derived.IntWalk
import Derived.StillTailTactics
import Derived.Deep.QuietTactic
import Derived.BigQuiet
namespace Go.Proofs.Ytalgkiagdjckiaa
open Go.RowKit

/-- The cells of a row of counts. -/
def rowC (N : Nat) (f : Nat → Nat) : List Value := (List.range N).map fun j => .int .u8 ((f j : Nat) : Int)
theorem rowC_get {N : Nat} {f : Nat → Nat} {j : Nat} (hj : j < N) : (rowC N f)[j]? = some (.int .u8 ((f j : Nat) : Int)) := by simp [rowC, hj]
theorem rowC_len (N : Nat) (f : Nat → Nat) : (rowC N f).length = N := by simp [rowC]
theorem rowC_set (N : Nat) (f : Nat → Nat) (j : Nat) (v : Nat) : (rowC N f).set j (.int .u8 ((v : Nat) : Int)) = rowC N (fun i => if i = j then v else f i) := by
  refine List.ext_getElem (by simp [rowC]) fun i h1 h2 => ?_
  simp only [rowC, List.getElem_set, List.getElem_map, List.getElem_range]
  by_cases h : j = i
  · subst h; simp
  · rw [if_neg h, if_neg (fun e => h e.symm)]
theorem rowC_congr {N : Nat} {f g : Nat → Nat} (h : ∀ j, j < N → f j = g j) : rowC N f = rowC N g := by
  unfold rowC
  exact List.map_congr_left fun j hj => by rw [h j (List.mem_range.1 hj)]
/-- A width that may be. -/
def WideOk (N : Nat) : Prop := ∃ k, 1 ≤ k ∧ k ≤ 12 ∧ N = 2 ^ k
theorem WideOk.le {N : Nat} (h : WideOk N) : 2 ≤ N ∧ N ≤ 4096 := by
  obtain ⟨k, h1, h2, rfl⟩ := h
  have a := Nat.pow_le_pow_right (n := 2) (by decide) h1
  have b := Nat.pow_le_pow_right (n := 2) (by decide) h2
  exact ⟨by simpa using a, by simpa using b⟩
/-- A sketch in memory: its block G, its rows' blocks b 0 to b 3; so wide, so old, its counts C. -/
structure SkAt (w : World) (G : Nat) (b : Nat → Nat) (N age : Nat) (C : Nat → Nat → Nat) : Prop where
  wide : WideOk N
  age_le : age ≤ 10 * N
  small : ∀ r j, C r j ≤ 15
  inj : ∀ r s, r < 4 → s < 4 → b r = b s → r = s
  blk : w.heap[G]? = some (.cells #[.slice (some ⟨b 0, 0, none⟩) N N, .slice (some ⟨b 1, 0, none⟩) N N, .slice (some ⟨b 2, 0, none⟩) N N, .slice (some ⟨b 3, 0, none⟩) N N, .int .i64 (age : Int)] 53 (0, 0))
  row : ∀ r, r < 4 → w.heap[b r]? = some (.cells (rowC N (C r)).toArray 5 (0, 0))
section
variable {w w' : World} {G : Nat} {b : Nat → Nat} {N age : Nat} {C : Nat → Nat → Nat}
theorem SkAt.ne (h : SkAt w G b N age C) {r : Nat} (hr : r < 4) : G ≠ b r := blk_ne h.blk (h.row r hr) (by decide)
theorem SkAt.moved (h : SkAt w G b N age C) (hG : w'.heap[G]? = w.heap[G]?) (hb : ∀ r, r < 4 → w'.heap[b r]? = w.heap[b r]?) : SkAt w' G b N age C :=
  ⟨h.wide, h.age_le, h.small, h.inj, hG.trans h.blk, fun r hr => (hb r hr).trans (h.row r hr)⟩
theorem SkAt.same (h : SkAt w G b N age C) (hb : Below w.heap.size w w') : SkAt w' G b N age C :=
  h.moved (hb.block G (blk_lt h.blk)) fun r hr => hb.block _ (blk_lt (h.row r hr))
theorem SkAt.slot (h : SkAt w G b N age C) {r : Nat} (hr : r < 4) : w.cell? ⟨G, r, none⟩ = some (.slice (some ⟨b r, 0, none⟩) N N) := by
  rw [blk_cell h.blk]
  match r, hr with
  | 0, _ => rfl
  | 1, _ => rfl
  | 2, _ => rfl
  | 3, _ => rfl
theorem SkAt.slot0 (h : SkAt w G b N age C) : w.cell? ⟨G, 0, none⟩ = some (.slice (some ⟨b 0, 0, none⟩) N N) := h.slot (by decide)
theorem SkAt.old (h : SkAt w G b N age C) : w.cell? ⟨G, 4, none⟩ = some (.int .i64 (age : Int)) := by rw [blk_cell h.blk]; rfl
theorem SkAt.count (h : SkAt w G b N age C) {r j : Nat} (hr : r < 4) (hj : j < N) : w.cell? ⟨b r, j, none⟩ = some (.int .u8 ((C r j : Nat) : Int)) := by
  rw [blk_cell (h.row r hr), List.getElem?_toArray]; exact rowC_get hj
/-- A count is written. -/
theorem SkAt.put (h : SkAt w G b N age C) {r j v : Nat} (hr : r < 4) (hv : v ≤ 15) : SkAt (w.setCell ⟨b r, j, none⟩ (.int .u8 ((v : Nat) : Int))) G b N age (fun s i => if s = r ∧ i = j then v else C s i) := by
  refine ⟨h.wide, h.age_le, fun s i => ?_, h.inj, (Below.heap_setCell _ _ _ _ (h.ne hr)).trans h.blk, fun s hs => ?_⟩
  · show (if _ then v else _) ≤ 15
    split
    · exact hv
    · exact h.small s i
  · by_cases e : s = r
    · subst e
      rw [blk_set (h.row s hs)]
      simp only [List.setIfInBounds_toArray, rowC_set]
      refine congrArg (fun l => some (Obj.cells (List.toArray l) _ _)) (rowC_congr fun i hi => ?_)
      simp
    · refine (Below.heap_setCell _ _ _ _ (fun e' => e (h.inj s r hs hr e'))).trans ?_
      rw [h.row s hs]
      refine congrArg (fun l => some (Obj.cells (List.toArray l) _ _)) (rowC_congr fun i hi => ?_)
      simp [e]
/-- Its age is written. -/
theorem SkAt.setAge (h : SkAt w G b N age C) {a : Nat} (ha : a ≤ 10 * N) : SkAt (w.setCell ⟨G, 4, none⟩ (.int .i64 (a : Int))) G b N a C :=
  ⟨h.wide, ha, h.small, h.inj, by rw [blk_set h.blk]; rfl, fun r hr => (Below.heap_setCell _ _ _ _ (fun e => h.ne hr e.symm)).trans (h.row r hr)⟩
theorem SkAt.congr (h : SkAt w G b N age C) {C' : Nat → Nat → Nat} (hC : ∀ r j, r < 4 → j < N → C' r j = C r j) (hs : ∀ r j, C' r j ≤ 15) : SkAt w G b N age C' :=
  ⟨h.wide, h.age_le, hs, h.inj, h.blk, fun r hr => by rw [h.row r hr, rowC_congr (f := C' r) fun j hj => hC r j hr hj]⟩
end
/-- The blocks of a sketch. -/
def SkS (G : Nat) (b : Nat → Nat) (k : Nat) : Prop := k = G ∨ ∃ r, r < 4 ∧ k = b r

theorem width_any {w : World} {G : Nat} {b : Nat → Nat} {N age : Nat} {C : Nat → Nat → Nat} (h : SkAt w G b N age C) :
    Calls Try.prog 10 #[.pointer (some ⟨G, 0, none⟩)] w fun e w' => e = .returned (.int .i64 (N : Int)) ∧ w = w' := by
  have c0 := h.slot0
  clear h
  go_enter Try.func10, Try.ntmps10
  go_wp2
  go_ret
  exact ⟨rfl, rfl⟩
theorem width_nil (w : World) :
    Calls Try.prog 10 #[.pointer none] w fun e w' => e = .returned (.int .i64 0) ∧ w = w' := by
  go_enter Try.func10, Try.ntmps10
  go_wp2
  go_ret
  exact ⟨rfl, rfl⟩
theorem age_any {w : World} {G : Nat} {b : Nat → Nat} {N age : Nat} {C : Nat → Nat → Nat} (h : SkAt w G b N age C) :
    Calls Try.prog 21 #[.pointer (some ⟨G, 0, none⟩)] w fun e w' => e = .returned (.int .i64 (age : Int)) ∧ w = w' := by
  have c0 := h.old
  clear h
  go_enter Try.func21, Try.ntmps21
  go_wp2
  go_ret
  exact ⟨rfl, rfl⟩
theorem age_nil (w : World) :
    Calls Try.prog 21 #[.pointer none] w fun e w' => e = .returned (.int .i64 0) ∧ w = w' := by
  go_enter Try.func21, Try.ntmps21
  go_wp2
  go_ret
  exact ⟨rfl, rfl⟩
theorem oldest_any {w : World} {G : Nat} {b : Nat → Nat} {N age : Nat} {C : Nat → Nat → Nat} (h : SkAt w G b N age C) :
    Calls Try.prog 27 #[.pointer (some ⟨G, 0, none⟩)] w fun e w' => e = .returned (.int .i64 ((10 * N : Nat) : Int)) ∧ w = w' := by
  have H := Lib.hid (width_any h)
  have hN := h.wide.le
  have e1 : wrap64 (10 * (N : Int)) = ((10 * N : Nat) : Int) := by rw [IntWalk.wrap64_in _ ⟨by omega, by omega⟩]; omega
  clear h hN
  go_enter Try.func27, Try.ntmps27
  go_wp2_with (go_at_call 10; (with_reducible refine H.out.mono ?_); rintro e w' ⟨rfl, rfl⟩)
  go_ret
  exact ⟨congrArg (fun i => Ending.returned (.int .i64 i)) e1, rfl⟩
theorem guess_nil (h : Int) (w : World) :
    Calls Try.prog 22 #[.pointer none, .int .u64 h] w fun e w' => e = .returned (.int .i64 0) ∧ Below w.heap.size w w' := by
  go_enter Try.func22, Try.ntmps22
  go_wp2_with (go_at_call 10; (with_reducible refine (width_nil _).mono ?_); rintro e w' ⟨rfl, rfl⟩)
  go_ret
  exact ⟨rfl, (Below.refl _ w).alloc (Nat.le_refl _) _⟩
theorem mark_nil (h : Int) (w : World) :
    Calls Try.prog 19 #[.pointer none, .int .u64 h] w fun e w' => e = .returned (.int .i64 0) ∧ w = w' := by
  go_enter Try.func19, Try.ntmps19
  go_wp2_with (go_at_call 10; (with_reducible refine (width_nil _).mono ?_); rintro e w' ⟨rfl, rfl⟩)
  go_ret
  exact ⟨rfl, rfl⟩
theorem halve_nil (w : World) :
    Calls Try.prog 13 #[.pointer none] w fun e w' => e = .returned (.tuple #[]) ∧ w = w' := by
  go_enter Try.func13, Try.ntmps13
  go_wp2_with (go_at_call 10; (with_reducible refine (width_nil _).mono ?_); rintro e w' ⟨rfl, rfl⟩)
  exact bodyPost_ret (results_none rfl _ _ _) rfl ⟨rfl, rfl⟩
theorem pack_nil (w : World) :
    Calls Try.prog 15 #[.pointer none] w fun e w' => e = .returned (.slice none 0 0) ∧ Below w.heap.size w w' := by
  go_enter Try.func15, Try.ntmps15
  go_wp2_with (go_at_call 10; (with_reducible refine (width_nil _).mono ?_); rintro e w' ⟨rfl, rfl⟩)
  go_ret
  exact ⟨rfl, Below.refl _ _⟩
end Go.Proofs.Ytalgkiagdjckiaa

/-
  bucket: which entry is elder.
  Conditions: none.
-/
import Derived.Test.YtnjpppeljpcndaaBkt7
import Derived.Test.YtnjpppeljpcndaaQuietB
import Derived.StillTailTactics
namespace Go.Proofs.Ytnjpppeljpcndaa
open Go.RowKit

/-- What cmp.Compare tells. -/
def cmpI (a b : Int) : Int := if a < b then -1 else if b < a then 1 else 0
set_option maxHeartbeats 1000000 in
theorem nan_any (a : Int) (w : World) : Calls Try.prog 66 #[.int .i64 a] w fun e w' => e = .returned (.bool false) ∧ w = w' := by
  have h : (a != a) = false := bne_self_eq_false a
  go_enter Try.func66, Try.ntmps66
  go_wp2
  go_ret
  exact ⟨rfl, rfl⟩
set_option maxHeartbeats 1000000 in
theorem compare_any (a b : Int) (w : World) : Calls Try.prog 64 #[.int .i64 a, .int .i64 b] w fun e w' => e = .returned (.int .i64 (cmpI a b)) ∧ w = w' := by
  by_cases h1 : a < b
  · have e : cmpI a b = -1 := by unfold cmpI; rw [if_pos h1]
    rw [e]
    go_enter Try.func64, Try.ntmps64
    go_wp2_with (go_at_call 66; refine (nan_any _ _).mono ?_; rintro e w' ⟨rfl, rfl⟩)
    go_ret
    exact ⟨rfl, rfl⟩
  by_cases h2 : b < a
  · have e : cmpI a b = 1 := by unfold cmpI; rw [if_neg h1, if_pos h2]
    rw [e]
    go_enter Try.func64, Try.ntmps64
    go_wp2_with (go_at_call 66; refine (nan_any _ _).mono ?_; rintro e w' ⟨rfl, rfl⟩)
    go_ret
    exact ⟨rfl, rfl⟩
  · have e : cmpI a b = 0 := by unfold cmpI; rw [if_neg h1, if_neg h2]
    rw [e]
    go_enter Try.func64, Try.ntmps64
    go_wp2_with (go_at_call 66; refine (nan_any _ _).mono ?_; rintro e w' ⟨rfl, rfl⟩)
    go_ret
    exact ⟨rfl, rfl⟩
set_option maxHeartbeats 1000000 in
theorem or2_any (a b : Int) (g : Nat) (w : World) (h0 : w.cell? ⟨g, 0, none⟩ = some (.int .i64 a)) (h1 : w.cell? ⟨g, 1, none⟩ = some (.int .i64 b)) :
    Calls Try.prog 63 #[.slice (some ⟨g, 0, none⟩) 2 2] w fun e w' => e = .returned (.int .i64 (if a = 0 then b else a)) ∧ w = w' := by
  have HE1 : Hid (a = 0 → (if a = 0 then b else a) = b) := fun h => if_pos h
  have HE2 : Hid (a ≠ 0 → (if a = 0 then b else a) = a) := fun h => if_neg h
  generalize (if a = 0 then b else a) = r at HE1 HE2 ⊢
  go_enter Try.func63, Try.ntmps63
  go_wp2
  go_loopw [8] (fun i wr => ∃ k : Nat, k ≤ 2 ∧ i = .int .i64 k ∧ wr = w ∧ (1 ≤ k → a = 0) ∧ (2 ≤ k → b = 0)) (fun i _ => 2 - (intOf i).toNat)
  case atStart => exact ⟨0, by omega, rfl, rfl, fun h => absurd h (by omega), fun h => absurd h (by omega)⟩
  case round =>
    obtain ⟨k, hk, rfl, hw, ha, hb⟩ := hrel
    have hw2 := hw.symm
    subst hw2
    clear hw
    by_cases k0 : k = 0
    · subst k0
      by_cases hz : a = 0
      · have e : (a != 0) = false := by rw [hz]; rfl
        go_wp2
        go_roundw
        case rel => exact ⟨1, by omega, rfl, trivial, fun _ => hz, fun h => absurd h (by omega)⟩
        case measure => simp [intOf]
      · have e : (a != 0) = true := bne_iff_ne.2 hz
        have HR := Lib.hid (HE2.out hz)
        go_wp2
        go_ret
        exact ⟨by rw [HR.out]; rfl, rfl⟩
    by_cases k1 : k = 1
    · subst k1
      by_cases hz : b = 0
      · have e : (b != 0) = false := by rw [hz]; rfl
        have h0 := ha (by omega)
        go_wp2
        go_roundw
        case rel => exact ⟨2, by omega, rfl, trivial, fun _ => h0, fun _ => hz⟩
        case measure => simp [intOf]
      · have e : (b != 0) = true := bne_iff_ne.2 hz
        have HR := Lib.hid (HE1.out (ha (by omega)))
        go_wp2
        go_ret
        exact ⟨by rw [HR.out]; rfl, rfl⟩
    · obtain rfl : k = 2 := by omega
      have h0 := ha (by omega)
      have h1 := hb (by omega)
      have HR := Lib.hid (HE1.out h0)
      have HB := Lib.hid h1
      go_wp2
      go_ret
      exact ⟨by rw [HR.out, HB.out]; rfl, rfl⟩
/-- Below 0: x is elder than y. -/
def ageI (x y : Ent) : Int := if cmpI x.reg y.reg = 0 then cmpI x.at_ y.at_ else cmpI x.reg y.reg
set_option maxRecDepth 100000 in
set_option maxHeartbeats 4000000 in
theorem byAge_any (x y : Ent) (w : World) : Calls Try.prog 53 #[.agg x.cells, .agg y.cells] w fun e w' => e = .returned (.int .i64 (ageI x y)) ∧ Below w.heap.size w w' := by
  have HCMP := Lib.hid (fun a b W => compare_any a b W)
  have HC1 : Hid (x.cells = #[.int .u64 (U x.hash), .int .i64 x.reg, .int .i64 x.at_, .int .i64 x.size]) := rfl
  have HC2 : Hid (y.cells = #[.int .u64 (U y.hash), .int .i64 y.reg, .int .i64 y.at_, .int .i64 y.size]) := rfl
  have hk0 : ((w.alloc (.cells x.cells 53)).alloc (.cells y.cells 53)).heap[w.heap.size]? = some (.cells x.cells 53 (0, 0)) := blk_alloc (heap_alloc_new _ _) _
  have hk1 : ((w.alloc (.cells x.cells 53)).alloc (.cells y.cells 53)).heap[w.heap.size + 1]? = some (.cells y.cells 53 (0, 0)) := by
    have := heap_alloc_new (w.alloc (.cells x.cells 53)) (.cells y.cells 53)
    rw [World.size_alloc] at this
    exact this
  have hb : Below w.heap.size w ((w.alloc (.cells x.cells 53)).alloc (.cells y.cells 53)) := ((Below.refl _ w).alloc (Nat.le_refl _) _).alloc (by simp) _
  obtain ⟨w0, hw0⟩ : ∃ w0, (w.alloc (.cells x.cells 53)).alloc (.cells y.cells 53) = w0 := ⟨_, rfl⟩
  rw [hw0] at hk0 hk1 hb
  rw [HC1.out, HC2.out] at hw0
  rw [HC1.out, HC2.out]
  have HW0 := Lib.hid hw0
  have a1 : w0.cell? ⟨w.heap.size, 1, none⟩ = some (.int .i64 x.reg) := blk_cell hk0 1
  have a2 : w0.cell? ⟨w.heap.size, 2, none⟩ = some (.int .i64 x.at_) := blk_cell hk0 2
  have b1 : w0.cell? ⟨w.heap.size + 1, 1, none⟩ = some (.int .i64 y.reg) := blk_cell hk1 1
  have b2 : w0.cell? ⟨w.heap.size + 1, 2, none⟩ = some (.int .i64 y.at_) := blk_cell hk1 2
  have HB := Lib.hid hb
  clear hb hk0 hk1 hw0
  go_enter Try.func53, Try.ntmps53
  go_upto_region 1 with (fail)
  rw [HW0.out]
  refine wp_region_still_tail 14 (by kernel_rfl) (by kernel_rfl) ?_
  simp only [List.take_succ_cons, List.take_zero, List.drop_succ_cons, List.drop_zero]
  repeat still_step
  still_call ((HCMP.out _ _ _).mono fun _ _ h => ⟨h.1, h.2.symm⟩)
  repeat still_step
  still_call ((HCMP.out _ _ _).mono fun _ _ h => ⟨h.1, h.2.symm⟩)
  repeat still_step
  refine wpStill_nil ?_
  change wpList _ _ _ _ _ w0.drew
  have HAGE : Hid (ageI x y = if cmpI x.reg y.reg = 0 then cmpI x.at_ y.at_ else cmpI x.reg y.reg) := rfl
  have HO : Hid (Calls Try.prog 63 #[.slice (some ⟨w0.heap.size, 0, none⟩) 2 2] (w0.alloc (.cells #[.int .i64 (cmpI x.reg y.reg), .int .i64 (cmpI x.at_ y.at_)] 3)).drew fun e w' => e = .returned (.int .i64 (if cmpI x.reg y.reg = 0 then cmpI x.at_ y.at_ else cmpI x.reg y.reg)) ∧ (w0.alloc (.cells #[.int .i64 (cmpI x.reg y.reg), .int .i64 (cmpI x.at_ y.at_)] 3)).drew = w') :=
    or2_any _ _ w0.heap.size _ (blk_cell (heap_alloc_new w0 _) 0) (blk_cell (heap_alloc_new w0 _) 1)
  have HB2 := Lib.hid (HB.out.alloc HB.out.size (.cells #[.int .i64 (cmpI x.reg y.reg), .int .i64 (cmpI x.at_ y.at_)] 3)).drew
  generalize (if cmpI x.reg y.reg = 0 then cmpI x.at_ y.at_ else cmpI x.reg y.reg) = r at HO HAGE ⊢
  generalize cmpI x.reg y.reg = p at HO HB2 ⊢
  generalize cmpI x.at_ y.at_ = q at HO HB2 ⊢
  go_wp2_with (go_at_call 63; (with_reducible refine HO.out.mono ?_); rintro e w' ⟨rfl, rfl⟩)
  go_ret
  exact ⟨by rw [HAGE.out]; rfl, HB2.out⟩
end Go.Proofs.Ytnjpppeljpcndaa

/-
  Joined: Elder1, Elder2, Elder3, EldMath.
  Conditions: none.
-/
import Derived.Test.YtpihncafmjbccaaBkt7
import Derived.Test.YtpihncafmjbccaaQuietB
import Derived.StillTailTactics
import Derived.Test.YtpihncafmjbccaaBkt9a
namespace Go.Proofs.Ytpihncafmjbccaa
open Go.RowKit

/-- What cmp.Compare tells. -/
def cmpI (a b : Int) : Int := if a < b then -1 else if b < a then 1 else 0
set_option maxHeartbeats 1000000 in
theorem nan_any (a : Int) (w : World) : Calls Try.prog 38 #[.int .i64 a] w fun e w' => e = .returned (.bool false) ∧ w = w' := by
  have h : (a != a) = false := bne_self_eq_false a
  go_enter Try.func38, Try.ntmps38
  go_wp2
  go_ret
  exact ⟨rfl, rfl⟩
set_option maxHeartbeats 1000000 in
theorem compare_any (a b : Int) (w : World) : Calls Try.prog 37 #[.int .i64 a, .int .i64 b] w fun e w' => e = .returned (.int .i64 (cmpI a b)) ∧ w = w' := by
  by_cases h1 : a < b
  · have e : cmpI a b = -1 := by unfold cmpI; rw [if_pos h1]
    rw [e]
    go_enter Try.func37, Try.ntmps37
    go_wp2_with (go_at_call 38; refine (nan_any _ _).mono ?_; rintro e w' ⟨rfl, rfl⟩)
    go_ret
    exact ⟨rfl, rfl⟩
  by_cases h2 : b < a
  · have e : cmpI a b = 1 := by unfold cmpI; rw [if_neg h1, if_pos h2]
    rw [e]
    go_enter Try.func37, Try.ntmps37
    go_wp2_with (go_at_call 38; refine (nan_any _ _).mono ?_; rintro e w' ⟨rfl, rfl⟩)
    go_ret
    exact ⟨rfl, rfl⟩
  · have e : cmpI a b = 0 := by unfold cmpI; rw [if_neg h1, if_neg h2]
    rw [e]
    go_enter Try.func37, Try.ntmps37
    go_wp2_with (go_at_call 38; refine (nan_any _ _).mono ?_; rintro e w' ⟨rfl, rfl⟩)
    go_ret
    exact ⟨rfl, rfl⟩
set_option maxHeartbeats 1000000 in
theorem or2_any (a b : Int) (g : Nat) (w : World) (h0 : w.cell? ⟨g, 0, none⟩ = some (.int .i64 a)) (h1 : w.cell? ⟨g, 1, none⟩ = some (.int .i64 b)) :
    Calls Try.prog 36 #[.slice (some ⟨g, 0, none⟩) 2 2] w fun e w' => e = .returned (.int .i64 (if a = 0 then b else a)) ∧ w = w' := by
  have HE1 : Hid (a = 0 → (if a = 0 then b else a) = b) := fun h => if_pos h
  have HE2 : Hid (a ≠ 0 → (if a = 0 then b else a) = a) := fun h => if_neg h
  generalize (if a = 0 then b else a) = r at HE1 HE2 ⊢
  go_enter Try.func36, Try.ntmps36
  go_wp2
  go_loopw [8] (fun i wr => ∃ k : Nat, k ≤ 2 ∧ i = .int .i64 k ∧ wr = w ∧ (1 ≤ k → a = 0) ∧ (2 ≤ k → b = 0)) (fun i _ => 2 - (intOf i).toNat)
  case atStart => exact ⟨0, by omega, rfl, rfl, fun h => absurd h (by omega), fun h => absurd h (by omega)⟩
  case round =>
    obtain ⟨k, hk, rfl, hw, ha, hb⟩ := hrel
    have hw2 := hw.symm
    subst hw2
    clear hw
    by_cases k0 : k = 0
    · subst k0
      by_cases hz : a = 0
      · have e : (a != 0) = false := by rw [hz]; rfl
        go_wp2
        go_roundw
        case rel => exact ⟨1, by omega, rfl, trivial, fun _ => hz, fun h => absurd h (by omega)⟩
        case measure => simp [intOf]
      · have e : (a != 0) = true := bne_iff_ne.2 hz
        have HR := Lib.hid (HE2.out hz)
        go_wp2
        go_ret
        exact ⟨by rw [HR.out]; rfl, rfl⟩
    by_cases k1 : k = 1
    · subst k1
      by_cases hz : b = 0
      · have e : (b != 0) = false := by rw [hz]; rfl
        have h0 := ha (by omega)
        go_wp2
        go_roundw
        case rel => exact ⟨2, by omega, rfl, trivial, fun _ => h0, fun _ => hz⟩
        case measure => simp [intOf]
      · have e : (b != 0) = true := bne_iff_ne.2 hz
        have HR := Lib.hid (HE1.out (ha (by omega)))
        go_wp2
        go_ret
        exact ⟨by rw [HR.out]; rfl, rfl⟩
    · obtain rfl : k = 2 := by omega
      have h0 := ha (by omega)
      have h1 := hb (by omega)
      have HR := Lib.hid (HE1.out h0)
      have HB := Lib.hid h1
      go_wp2
      go_ret
      exact ⟨by rw [HR.out, HB.out]; rfl, rfl⟩
/-- Below 0: x is elder than y. -/
def ageI (x y : Ent) : Int := if cmpI x.reg y.reg = 0 then cmpI x.at_ y.at_ else cmpI x.reg y.reg
set_option maxRecDepth 100000 in
set_option maxHeartbeats 4000000 in
theorem byAge_any (x y : Ent) (w : World) : Calls Try.prog 31 #[.agg x.cells, .agg y.cells] w fun e w' => e = .returned (.int .i64 (ageI x y)) ∧ Below w.heap.size w w' := by
  have HCMP := Lib.hid (fun a b W => compare_any a b W)
  have HC1 : Hid (x.cells = #[.int .u64 (U x.hash), .int .i64 x.reg, .int .i64 x.at_, .int .i64 x.size]) := rfl
  have HC2 : Hid (y.cells = #[.int .u64 (U y.hash), .int .i64 y.reg, .int .i64 y.at_, .int .i64 y.size]) := rfl
  have hk0 : ((w.alloc (.cells x.cells 40)).alloc (.cells y.cells 40)).heap[w.heap.size]? = some (.cells x.cells 40 (0, 0)) := blk_alloc (heap_alloc_new _ _) _
  have hk1 : ((w.alloc (.cells x.cells 40)).alloc (.cells y.cells 40)).heap[w.heap.size + 1]? = some (.cells y.cells 40 (0, 0)) := by
    have := heap_alloc_new (w.alloc (.cells x.cells 40)) (.cells y.cells 40)
    rw [World.size_alloc] at this
    exact this
  have hb : Below w.heap.size w ((w.alloc (.cells x.cells 40)).alloc (.cells y.cells 40)) := ((Below.refl _ w).alloc (Nat.le_refl _) _).alloc (by simp) _
  obtain ⟨w0, hw0⟩ : ∃ w0, (w.alloc (.cells x.cells 40)).alloc (.cells y.cells 40) = w0 := ⟨_, rfl⟩
  rw [hw0] at hk0 hk1 hb
  rw [HC1.out, HC2.out] at hw0
  rw [HC1.out, HC2.out]
  have HW0 := Lib.hid hw0
  have a1 : w0.cell? ⟨w.heap.size, 1, none⟩ = some (.int .i64 x.reg) := blk_cell hk0 1
  have a2 : w0.cell? ⟨w.heap.size, 2, none⟩ = some (.int .i64 x.at_) := blk_cell hk0 2
  have b1 : w0.cell? ⟨w.heap.size + 1, 1, none⟩ = some (.int .i64 y.reg) := blk_cell hk1 1
  have b2 : w0.cell? ⟨w.heap.size + 1, 2, none⟩ = some (.int .i64 y.at_) := blk_cell hk1 2
  have HB := Lib.hid hb
  clear hb hk0 hk1 hw0
  go_enter Try.func31, Try.ntmps31
  go_upto_region 1 with (fail)
  rw [HW0.out]
  refine wp_region_still_tail 14 (by kernel_rfl) (by kernel_rfl) ?_
  simp only [List.take_succ_cons, List.take_zero, List.drop_succ_cons, List.drop_zero]
  repeat still_step
  still_call ((HCMP.out _ _ _).mono fun _ _ h => ⟨h.1, h.2.symm⟩)
  repeat still_step
  still_call ((HCMP.out _ _ _).mono fun _ _ h => ⟨h.1, h.2.symm⟩)
  repeat still_step
  refine wpStill_nil ?_
  change wpList _ _ _ _ _ w0.drew
  have HAGE : Hid (ageI x y = if cmpI x.reg y.reg = 0 then cmpI x.at_ y.at_ else cmpI x.reg y.reg) := rfl
  have HO : Hid (Calls Try.prog 36 #[.slice (some ⟨w0.heap.size, 0, none⟩) 2 2] (w0.alloc (.cells #[.int .i64 (cmpI x.reg y.reg), .int .i64 (cmpI x.at_ y.at_)] 3)).drew fun e w' => e = .returned (.int .i64 (if cmpI x.reg y.reg = 0 then cmpI x.at_ y.at_ else cmpI x.reg y.reg)) ∧ (w0.alloc (.cells #[.int .i64 (cmpI x.reg y.reg), .int .i64 (cmpI x.at_ y.at_)] 3)).drew = w') :=
    or2_any _ _ w0.heap.size _ (blk_cell (heap_alloc_new w0 _) 0) (blk_cell (heap_alloc_new w0 _) 1)
  have HB2 := Lib.hid (HB.out.alloc HB.out.size (.cells #[.int .i64 (cmpI x.reg y.reg), .int .i64 (cmpI x.at_ y.at_)] 3)).drew
  generalize (if cmpI x.reg y.reg = 0 then cmpI x.at_ y.at_ else cmpI x.reg y.reg) = r at HO HAGE ⊢
  generalize cmpI x.reg y.reg = p at HO HB2 ⊢
  generalize cmpI x.at_ y.at_ = q at HO HB2 ⊢
  go_wp2_with (go_at_call 36; (with_reducible refine HO.out.mono ?_); rintro e w' ⟨rfl, rfl⟩)
  go_ret
  exact ⟨by rw [HAGE.out]; rfl, HB2.out⟩
end Go.Proofs.Ytpihncafmjbccaa
namespace Go.Proofs.Ytpihncafmjbccaa
open Go.RowKit

/-- The eldest of some, the first of those. -/
def minStep (m x : Ent) : Ent := if ageI x m < 0 then x else m
def minUp (es : List Ent) (k : Nat) : Ent := ((es.take k).drop 1).foldl minStep (es[0]?.getD default)
theorem minUp_one (es : List Ent) : minUp es 1 = es[0]?.getD default := by
  unfold minUp
  have : (es.take 1).drop 1 = [] := List.drop_eq_nil_of_le (by rw [List.length_take]; omega)
  rw [this]; rfl
theorem minUp_succ (es : List Ent) (k : Nat) (h1 : 1 ≤ k) (hk : k < es.length) : minUp es (k + 1) = minStep (minUp es k) (es[k]?.getD default) := by
  unfold minUp
  rw [List.take_add_one, List.getElem?_eq_getElem hk, Option.toList_some, Option.getD_some, List.drop_append_of_le_length (by rw [List.length_take]; omega), List.foldl_append]
  rfl
/-- The eldest of all. -/
def minE (es : List Ent) : Ent := minUp es es.length
set_option maxRecDepth 100000 in
set_option maxHeartbeats 4000000 in
theorem minFunc_any (a : Option Addr) (c : Nat) (es : List Ent) (w : World) (hE : EntsAt w.heap.size w (.slice a es.length c) es) (hlen : es.length ≤ 1073741824) (hpos : 1 ≤ es.length) :
    Calls Try.prog 30 #[.slice a es.length c, .func (.func 31) #[] #[]] w fun e w' => e = .returned (.agg (minE es).cells) ∧ Below w.heap.size w w' := by
  have HE := Lib.hid hE
  have hl1 : (es.length : Int) ≤ 1073741824 := by omega
  have hl2 : (1 : Int) ≤ es.length := by omega
  obtain ⟨g, off, rfl, hg, e4⟩ := HE.out.get (i := 0) (by omega)
  rw [Nat.zero_mul, Nat.add_zero] at e4
  obtain ⟨q0, q1, q2, q3⟩ := e4
  have h0 : 0 < es.length := by omega
  have M1 := Lib.hid (minUp_one es)
  generalize es[0]?.getD default = x0 at q0 q1 q2 q3 M1
  have hz : (w.alloc (.cells #[.int .u64 0, .int .i64 0, .int .i64 0, .int .i64 0] 40)).heap[w.heap.size]? = some (.cells (Ent.cells ⟨0#64, 0, 0, 0⟩) 40 (0, 0)) := heap_alloc_new _ _
  have b1 : Below w.heap.size w (w.alloc (.cells #[.int .u64 0, .int .i64 0, .int .i64 0, .int .i64 0] 40)) := (Below.refl _ w).alloc (Nat.le_refl _) _
  have hx : ((w.alloc (.cells #[.int .u64 0, .int .i64 0, .int .i64 0, .int .i64 0] 40)).alloc (.cells #[.int .u64 (U x0.hash), .int .i64 x0.reg, .int .i64 x0.at_, .int .i64 x0.size] 40)).heap[w.heap.size + 1]? = some (.cells x0.cells 40 (0, 0)) := by
    have := heap_alloc_new (w.alloc (.cells #[.int .u64 0, .int .i64 0, .int .i64 0, .int .i64 0] 40)) (.cells #[.int .u64 (U x0.hash), .int .i64 x0.reg, .int .i64 x0.at_, .int .i64 x0.size] 40)
    rw [World.size_alloc] at this
    exact this
  have HZ := Lib.hid (blk_alloc hz (.cells #[.int .u64 (U x0.hash), .int .i64 x0.reg, .int .i64 x0.at_, .int .i64 x0.size] 40))
  have HX := Lib.hid hx
  have HB := Lib.hid (b1.alloc (by simp) (.cells #[.int .u64 (U x0.hash), .int .i64 x0.reg, .int .i64 x0.at_, .int .i64 x0.size] 40))
  have r0 := (b1.cell (p := ⟨g, off, none⟩) hg).trans q0
  have r1 := (b1.cell (p := ⟨g, off + 1, none⟩) hg).trans q1
  have r2 := (b1.cell (p := ⟨g, off + 2, none⟩) hg).trans q2
  have r3 := (b1.cell (p := ⟨g, off + 3, none⟩) hg).trans q3
  clear hx hz b1 q0 q1 q2 q3 hE hpos
  go_enter Try.func30, Try.ntmps30
  go_wp2
  go_loopw [6] (fun i wr => ∃ k : Nat, 1 ≤ k ∧ k ≤ es.length ∧ i = .int .i64 k ∧ Below w.heap.size w wr ∧ wr.heap[w.heap.size]? = some (.cells (Ent.cells ⟨0#64, 0, 0, 0⟩) 40 (0, 0)) ∧ wr.heap[w.heap.size + 1]? = some (.cells (minUp es k).cells 40 (0, 0))) (fun i _ => es.length - (intOf i).toNat)
  case atStart => exact ⟨1, Nat.le_refl _, h0, rfl, HB.out, HZ.out, by rw [M1.out]; exact HX.out⟩
  case round =>
    obtain ⟨k, hk1, hk, rfl, hB, hzz, hmm⟩ := hrel
    clear r0 r1 r2 r3 HZ HX HB M1
    by_cases hlt : k < es.length
    · obtain ⟨g', off', e', _, e4⟩ := HE.out.get hlt
      cases e'
      have k1 : (k : Int) < es.length := by omega
      have MS := Lib.hid (minUp_succ es k hk1 hlt)
      have d0 : ∀ p : After wr, p.v.cell? ⟨g, off + k * 4, none⟩ = some (.int .u64 (U (es[k]?.getD default).hash)) := after_cell ((hB.cell (p := ⟨g, _, none⟩) hg).trans e4.1)
      have d1 : ∀ p : After wr, p.v.cell? ⟨g, off + k * 4 + 1, none⟩ = some (.int .i64 (es[k]?.getD default).reg) := after_cell ((hB.cell (p := ⟨g, _, none⟩) hg).trans e4.2.1)
      have d2 : ∀ p : After wr, p.v.cell? ⟨g, off + k * 4 + 2, none⟩ = some (.int .i64 (es[k]?.getD default).at_) := after_cell ((hB.cell (p := ⟨g, _, none⟩) hg).trans e4.2.2.1)
      have d3 : ∀ p : After wr, p.v.cell? ⟨g, off + k * 4 + 3, none⟩ = some (.int .i64 (es[k]?.getD default).size) := after_cell ((hB.cell (p := ⟨g, _, none⟩) hg).trans e4.2.2.2)
      generalize es[k]?.getD default = x at d0 d1 d2 d3 MS
      generalize minUp es k = m at hmm MS
      have m0 : ∀ p : After wr, p.v.cell? ⟨w.heap.size + 1, 0, none⟩ = some (.int .u64 (U m.hash)) := after_cell (blk_cell hmm 0)
      have m1 : ∀ p : After wr, p.v.cell? ⟨w.heap.size + 1, 1, none⟩ = some (.int .i64 m.reg) := after_cell (blk_cell hmm 1)
      have m2 : ∀ p : After wr, p.v.cell? ⟨w.heap.size + 1, 2, none⟩ = some (.int .i64 m.at_) := after_cell (blk_cell hmm 2)
      have m3 : ∀ p : After wr, p.v.cell? ⟨w.heap.size + 1, 3, none⟩ = some (.int .i64 m.size) := after_cell (blk_cell hmm 3)
      have HAGE : Hid (∀ p : After wr, Calls Try.prog 31 #[.agg #[.int .u64 (U x.hash), .int .i64 x.reg, .int .i64 x.at_, .int .i64 x.size], .agg #[.int .u64 (U m.hash), .int .i64 m.reg, .int .i64 m.at_, .int .i64 m.size]] p.v fun e w' => e = .returned (.int .i64 (ageI x m)) ∧ Below p.v.heap.size p.v w') := fun p => byAge_any x m p.v
      have HBW := Lib.hid hB
      have HZZ := Lib.hid hzz
      have HMM := Lib.hid hmm
      clear hB hzz hmm e4
      by_cases hage : ageI x m < 0
      · have hst : minUp es (k + 1) = x := by rw [MS.out]; unfold minStep; rw [if_pos hage]
        have HST := Lib.hid hst
        clear hst MS
        generalize ageI x m = ag at hage HAGE
        go_upto_region 7 with (fail)
        refine wp_region_after (by kernel_rfl) (by kernel_rfl) ?_
        repeat (go_big_quiet_step ((go_at_call 31; exact after_call (HAGE.out _))))
        refine wpQuiet_nil ?_
        rintro W9 ⟨⟨_, hW9⟩, rfl⟩
        have HW9 := Lib.hid hW9
        have HM9 := Lib.hid ((hW9.block _ (blk_lt HMM.out)).trans HMM.out)
        have HZ9 := Lib.hid ((hW9.block _ (blk_lt HZZ.out)).trans HZZ.out)
        have e0 : W9.cell? ⟨g, off + k * 4, none⟩ = some (.int .u64 (U x.hash)) := d0 ⟨W9, hW9⟩
        have e1 : W9.cell? ⟨g, off + k * 4 + 1, none⟩ = some (.int .i64 x.reg) := d1 ⟨W9, hW9⟩
        have e2 : W9.cell? ⟨g, off + k * 4 + 2, none⟩ = some (.int .i64 x.at_) := d2 ⟨W9, hW9⟩
        have e3 : W9.cell? ⟨g, off + k * 4 + 3, none⟩ = some (.int .i64 x.size) := d3 ⟨W9, hW9⟩
        clear hW9 d0 d1 d2 d3 m0 m1 m2 m3 HAGE
        go_wp2_with (refine wpList_store_row (o := ⟨none, _, _, _, _, _⟩) rfl 40 (.tmp 5) (.tmp 31) rfl (w.heap.size + 1) x.cells rfl rfl 40 m.cells HM9.out (ent_sz x) rfl ?_ ?_; exact ent_oneB x)
        have hend := setRow_heap W9 (w.heap.size + 1) _ x.cells _ _ HM9.out
        have HEND := Lib.hid hend
        have HZE := Lib.hid ((setRow_other W9 (w.heap.size + 1) w.heap.size x.cells (by omega)).trans HZ9.out)
        have HBE := Lib.hid (below_setRow (HBW.out.trans (HW9.out.mono HBW.out.size)) (Nat.le_succ _) x.cells (g := w.heap.size + 1))
        clear hend
        go_wp2
        go_roundw
        case rel => exact ⟨k + 1, by omega, by omega, by go_num, HBE.out, HZE.out, by rw [HST.out]; exact HEND.out⟩
        case measure => simp [intOf]; omega
      · have hst : minUp es (k + 1) = m := by rw [MS.out]; unfold minStep; rw [if_neg hage]
        have HST := Lib.hid hst
        clear hst MS
        generalize ageI x m = ag at hage HAGE
        go_upto_region 7 with (fail)
        refine wp_region_after (by kernel_rfl) (by kernel_rfl) ?_
        repeat (go_big_quiet_step ((go_at_call 31; exact after_call (HAGE.out _))))
        refine wpQuiet_nil ?_
        rintro W9 ⟨⟨_, hW9⟩, rfl⟩
        have HW9 := Lib.hid hW9
        have HM9 := Lib.hid ((hW9.block _ (blk_lt HMM.out)).trans HMM.out)
        have HZ9 := Lib.hid ((hW9.block _ (blk_lt HZZ.out)).trans HZZ.out)
        clear hW9 d0 d1 d2 d3 m0 m1 m2 m3 HAGE
        have HBE := Lib.hid (HBW.out.trans (HW9.out.mono HBW.out.size))
        go_wp2
        go_roundw
        case rel => exact ⟨k + 1, by omega, by omega, by go_num, HBE.out, HZ9.out, by rw [HST.out]; exact HM9.out⟩
        case measure => simp [intOf]; omega
    · obtain rfl : k = es.length := by omega
      have HRES : Hid (minUp es es.length = minE es) := rfl
      generalize minUp es es.length = m at hmm HRES
      have m0 : wr.cell? ⟨w.heap.size + 1, 0, none⟩ = some (.int .u64 (U m.hash)) := blk_cell hmm 0
      have m1 : wr.cell? ⟨w.heap.size + 1, 1, none⟩ = some (.int .i64 m.reg) := blk_cell hmm 1
      have m2 : wr.cell? ⟨w.heap.size + 1, 2, none⟩ = some (.int .i64 m.at_) := blk_cell hmm 2
      have m3 : wr.cell? ⟨w.heap.size + 1, 3, none⟩ = some (.int .i64 m.size) := blk_cell hmm 3
      have HZZ := Lib.hid hzz
      have HBW := Lib.hid hB
      clear hzz hmm hB
      go_wp2_with (refine wpList_store_row (o := ⟨none, _, _, _, _, _⟩) rfl 40 (.tmp 4) (.tmp 32) rfl w.heap.size m.cells rfl rfl 40 (Ent.cells ⟨0#64, 0, 0, 0⟩) HZZ.out (ent_sz m) rfl ?_ ?_; exact ent_oneB m)
      have hend := setRow_heap wr w.heap.size _ m.cells _ _ HZZ.out
      refine bodyPost_ret (results_cell_row rfl _ _ w.heap.size 40 m.cells (0, 0) _ rfl hend Try.underlying40 rfl (ent_sz m)) rfl ⟨by rw [HRES.out], below_setRow HBW.out (Nat.le_refl _) _⟩
end Go.Proofs.Ytpihncafmjbccaa
namespace Go.Proofs.Ytpihncafmjbccaa
open Go.RowKit

def entEqI (h r a s h' r' a' s' : Int) : Bool := (h == h') && ((r == r') && ((a == a') && (s == s')))
theorem entEq_iff (x y : Ent) : entEqI (U x.hash) x.reg x.at_ x.size (U y.hash) y.reg y.at_ y.size = true ↔ x = y := by
  obtain ⟨a, b, c, d⟩ := x
  obtain ⟨a', b', c', d'⟩ := y
  unfold entEqI
  simp [U_inj]
set_option maxRecDepth 100000 in
theorem ent_eql (h r a s h' r' a' s' : Int) (V : World) : (binOp .eql 40 (.agg #[.int .u64 h, .int .i64 r, .int .i64 a, .int .i64 s]) (.agg #[.int .u64 h', .int .i64 r', .int .i64 a', .int .i64 s'])).run Try.prog V = .ok (.bool (entEqI h r a s h' r' a' s')) V := by
  have h3 : ∀ (n : Nat) (a b : Int) (W : World), (Op.equalIn (n + 1) 3 (.int .i64 a) (.int .i64 b)).run Try.prog W = .ok (a == b) W := fun n a b W => by
    rw [run_equalIn_int W n 3 .i64 _ a b Try.underlying3]
  have h2 : ∀ (n : Nat) (a b : Int) (W : World), (Op.equalIn (n + 1) 25 (.int .u64 a) (.int .u64 b)).run Try.prog W = .ok (a == b) W := fun n a b W => by
    rw [run_equalIn_int W n 25 .u64 _ a b Try.underlying25]
  have h4 : ∀ (n : Nat) (r a s r' a' s' : Int) (W : World), (Op.equalIn (n + 2) 35 (.agg #[.int .i64 r, .int .i64 a, .int .i64 s]) (.agg #[.int .i64 r', .int .i64 a', .int .i64 s'])).run Try.prog W = .ok ((r == r') && ((a == a') && (s == s'))) W := fun n r a s r' a' s' W => by
    rw [run_equalIn_struct _ _ _ _ _ (by kernel_rfl) (by kernel_rfl)]
    simp [Program.fieldsOf, Try.underlying35, Op.eqFields, part, h3]
    by_cases c1 : r = r' <;> by_cases c2 : a = a' <;> by_cases c3 : s = s' <;> simp [c1, c2, c3]
  have h5 : (Op.equalIn 10000 40 (.agg #[.int .u64 h, .int .i64 r, .int .i64 a, .int .i64 s]) (.agg #[.int .u64 h', .int .i64 r', .int .i64 a', .int .i64 s'])).run Try.prog V = .ok (entEqI h r a s h' r' a' s') V := by
    rw [show (10000 : Nat) = 9999 + 1 from rfl, run_equalIn_struct _ _ _ _ _ (by kernel_rfl) (by kernel_rfl)]
    have e2 := fun a b W => h2 9998 a b W
    have e4 := fun r a s r' a' s' W => h4 9997 r a s r' a' s' W
    simp [Program.fieldsOf, Try.underlying40, Op.eqFields, part, e2, e4]
    unfold entEqI
    by_cases c0 : h = h' <;> by_cases c1 : r = r' <;> by_cases c2 : a = a' <;> by_cases c3 : s = s' <;> simp [c0, c1, c2, c3]
  simp only [binOp]
  simp [Op.equal, Op.maxDepth, h5]
set_option maxRecDepth 100000 in
theorem ent_eguard (h r a s h' r' a' s' : Int) (x y : Operand) (V : World) : (eqGuard .eql 40 x y (.agg #[.int .u64 h, .int .i64 r, .int .i64 a, .int .i64 s]) (.agg #[.int .u64 h', .int .i64 r', .int .i64 a', .int .i64 s'])).run Try.prog V = .ok () V := run_eqGuard_agg _ _ _ _ _ _ _ (by kernel_rfl)
section
attribute [-go_sem] run_eql_struct run_eqGuard_agg
attribute [local go_sem] ent_eql ent_eguard
set_option maxRecDepth 100000 in
set_option maxHeartbeats 4000000 in
theorem index_any (a : Option Addr) (c : Nat) (es : List Ent) (v : Ent) (w : World) (hE : EntsAt w.heap.size w (.slice a es.length c) es) (hlen : es.length ≤ 1073741824) (n : Nat) (hn : n < es.length) (hv : es[n]?.getD default = v) (hno : ∀ j, j < n → es[j]?.getD default ≠ v) :
    Calls Try.prog 32 #[.slice a es.length c, .agg v.cells] w fun e w' => e = .returned (.int .i64 n) ∧ Below w.heap.size w w' := by
  have HE := Lib.hid hE
  have hl1 : (es.length : Int) ≤ 1073741824 := by omega
  have hn1 : (n : Int) < es.length := by omega
  have HC : Hid (v.cells = #[.int .u64 (U v.hash), .int .i64 v.reg, .int .i64 v.at_, .int .i64 v.size]) := rfl
  have hk : (w.alloc (.cells v.cells 40)).heap[w.heap.size]? = some (.cells v.cells 40 (0, 0)) := heap_alloc_new _ _
  have hb : Below w.heap.size w (w.alloc (.cells v.cells 40)) := (Below.refl _ w).alloc (Nat.le_refl _) _
  obtain ⟨w1, hw1⟩ : ∃ w1, w.alloc (.cells v.cells 40) = w1 := ⟨_, rfl⟩
  rw [hw1] at hk hb
  rw [HC.out] at hw1
  rw [HC.out]
  have HW1 := Lib.hid hw1
  have HB := Lib.hid hb
  have HV := Lib.hid hv
  have HNO := Lib.hid hno
  have b0 : w1.cell? ⟨w.heap.size, 0, none⟩ = some (.int .u64 (U v.hash)) := blk_cell hk 0
  have b1 : w1.cell? ⟨w.heap.size, 1, none⟩ = some (.int .i64 v.reg) := blk_cell hk 1
  have b2 : w1.cell? ⟨w.heap.size, 2, none⟩ = some (.int .i64 v.at_) := blk_cell hk 2
  have b3 : w1.cell? ⟨w.heap.size, 3, none⟩ = some (.int .i64 v.size) := blk_cell hk 3
  clear hw1 hb hk hE hv hno
  go_enter Try.func32, Try.ntmps32
  go_wp2
  rw [HW1.out]
  go_loopw [8] (fun i wr => ∃ k : Nat, k ≤ n ∧ i = .int .i64 k ∧ ∃ q, wr = w1.drewN q) (fun i _ => es.length - (intOf i).toNat)
  case atStart => exact ⟨0, Nat.zero_le _, rfl, 0, rfl⟩
  case round =>
    obtain ⟨k, hk, rfl, q, rfl⟩ := hrel
    obtain ⟨g, off, rfl, hg, e4⟩ := HE.out.get (show k < es.length by omega)
    have k1 : (k : Int) < es.length := by omega
    have d0 : w1.cell? ⟨g, off + k * 4, none⟩ = some (.int .u64 (U (es[k]?.getD default).hash)) := (HB.out.cell (p := ⟨g, _, none⟩) hg).trans e4.1
    have d1 : w1.cell? ⟨g, off + k * 4 + 1, none⟩ = some (.int .i64 (es[k]?.getD default).reg) := (HB.out.cell (p := ⟨g, _, none⟩) hg).trans e4.2.1
    have d2 : w1.cell? ⟨g, off + k * 4 + 2, none⟩ = some (.int .i64 (es[k]?.getD default).at_) := (HB.out.cell (p := ⟨g, _, none⟩) hg).trans e4.2.2.1
    have d3 : w1.cell? ⟨g, off + k * 4 + 3, none⟩ = some (.int .i64 (es[k]?.getD default).size) := (HB.out.cell (p := ⟨g, _, none⟩) hg).trans e4.2.2.2
    by_cases hlt : k < n
    · have hq : entEqI (U v.hash) v.reg v.at_ v.size (U (es[k]?.getD default).hash) (es[k]?.getD default).reg (es[k]?.getD default).at_ (es[k]?.getD default).size = false := by
        cases h : entEqI (U v.hash) v.reg v.at_ v.size (U (es[k]?.getD default).hash) (es[k]?.getD default).reg (es[k]?.getD default).at_ (es[k]?.getD default).size with
        | false => rfl
        | true => exact absurd ((entEq_iff _ _).1 h).symm (HNO.out k hlt)
      generalize es[k]?.getD default = x at d0 d1 d2 d3 hq
      clear e4
      go_wp2
      go_quiet (fail)
      go_wp2
      go_roundw
      case rel => exact ⟨k + 1, by omega, by go_num, _, rfl⟩
      case measure => simp [intOf]; omega
    · obtain rfl : k = n := by omega
      have hq : entEqI (U v.hash) v.reg v.at_ v.size (U (es[k]?.getD default).hash) (es[k]?.getD default).reg (es[k]?.getD default).at_ (es[k]?.getD default).size = true := (entEq_iff _ _).2 HV.out.symm
      generalize es[k]?.getD default = x at d0 d1 d2 d3 hq
      clear e4
      go_wp2
      go_quiet (fail)
      go_wp2
      go_ret
      exact ⟨rfl, below_drewN (below_drewN HB.out _) _⟩
end

theorem exists_least {P : Nat → Prop} (n : Nat) (h : P n) : ∃ m, m ≤ n ∧ P m ∧ ∀ j, j < m → ¬ P j := by
  induction n using Nat.strongRecOn with
  | ind n ih =>
    by_cases hx : ∃ j, j < n ∧ P j
    · obtain ⟨j, hj, pj⟩ := hx
      obtain ⟨m, hm, h1, h2⟩ := ih j hj pj
      exact ⟨m, by omega, h1, h2⟩
    · exact ⟨n, Nat.le_refl _, h, fun j hj pj => hx ⟨j, hj, pj⟩⟩
theorem minUp_mem (es : List Ent) : ∀ k, 1 ≤ k → k ≤ es.length → ∃ n, n < k ∧ es[n]?.getD default = minUp es k
  | 0, h, _ => absurd h (by omega)
  | 1, _, _ => ⟨0, by omega, (minUp_one es).symm⟩
  | k + 2, _, hk => by
    obtain ⟨n, hn, he⟩ := minUp_mem es (k + 1) (by omega) (by omega)
    rw [minUp_succ es (k + 1) (by omega) (by omega)]
    unfold minStep
    by_cases h : ageI (es[k + 1]?.getD default) (minUp es (k + 1)) < 0
    · rw [if_pos h]; exact ⟨k + 1, by omega, rfl⟩
    · rw [if_neg h]; exact ⟨n, by omega, he⟩
/-- Where the eldest entry stands. -/
def ElderIs (es : List Ent) (v : Int) : Prop := (es = [] ∧ v = -1) ∨ ∃ n : Nat, n < es.length ∧ es[n]?.getD default = minE es ∧ v = n ∧ ∀ j, j < n → es[j]?.getD default ≠ minE es
def ElderRet (es : List Ent) (w : World) (e : Ending) (w' : World) : Prop := ∃ v : Int, ElderIs es v ∧ e = .returned (.int .i64 v) ∧ Below w.heap.size w w'
set_option maxRecDepth 100000 in
set_option maxHeartbeats 4000000 in
theorem elder_any (d p : Int) (a : Option Addr) (m c : Nat) (es : List Ent) (w : World) (hE : EntsAt w.heap.size w (.slice a m c) es) (hlen : es.length ≤ 1073741824) :
    Calls Try.prog 19 #[.agg #[.int .i64 d, .int .i64 p, .slice a m c]] w (ElderRet es w) := by
  obtain ⟨_, _, e0, hc0⟩ := hE.slice
  cases e0
  have hk : (w.alloc (.cells #[.int .i64 d, .int .i64 p, .slice a es.length c] 32)).heap[w.heap.size]? = some (.cells #[.int .i64 d, .int .i64 p, .slice a es.length c] 32 (0, 0)) := heap_alloc_new _ _
  have hb : Below w.heap.size w (w.alloc (.cells #[.int .i64 d, .int .i64 p, .slice a es.length c] 32)) := (Below.refl _ w).alloc (Nat.le_refl _) _
  have hE1 := hE.next hb
  obtain ⟨w1, hw1⟩ : ∃ w1, w.alloc (.cells #[.int .i64 d, .int .i64 p, .slice a es.length c] 32) = w1 := ⟨_, rfl⟩
  rw [hw1] at hk hb hE1
  have HW1 := Lib.hid hw1
  have HB := Lib.hid hb
  have c2 : w1.cell? ⟨w.heap.size, 2, none⟩ = some (.slice a es.length c) := blk_cell hk 2
  by_cases he : es = []
  · subst he
    clear hw1 hk hb hE1 hE hlen hc0
    go_enter Try.func19, Try.ntmps19
    go_wp2
    go_ret
    refine ⟨-1, .inl ⟨rfl, rfl⟩, rfl, ?_⟩
    have h := HB.out
    rw [← HW1.out] at h
    exact h
  · have hpos : 1 ≤ es.length := List.length_pos_iff.2 he
    obtain ⟨n0, hn0, hm0⟩ := minUp_mem es es.length hpos (Nat.le_refl _)
    obtain ⟨n, hnn, hn, hno⟩ := exists_least (P := fun n => es[n]?.getD default = minE es) n0 hm0
    have hq : ((es.length : Int) == 0) = false := beq_eq_false_iff_ne.2 (by omega)
    have HMIN := Lib.hid (minFunc_any a c es w1 hE1 hlen hpos)
    have HN := Lib.hid (show n < es.length ∧ es[n]?.getD default = minE es ∧ ∀ j, j < n → es[j]?.getD default ≠ minE es from ⟨by omega, hn, hno⟩)
    have HIX := Lib.hid (fun W (h : Below w1.heap.size w1 W) => index_any a c es (minE es) W ((hE1.below h).mono h.size) hlen n (by omega) hn hno)
    have HCC : Hid (∀ W, Below w1.heap.size w1 W → W.cell? ⟨w.heap.size, 2, none⟩ = some (.slice a es.length c)) := fun W h => (h.cell (p := ⟨w.heap.size, 2, none⟩) (blk_lt hk)).trans c2
    obtain ⟨v, hv⟩ : ∃ v, minE es = v := ⟨_, rfl⟩
    rw [hv] at HMIN HIX HN
    have HV := Lib.hid hv
    clear hv
    unfold Ent.cells at HMIN HIX
    clear hw1 hk hb hE1 hE hlen hc0 he hpos hn0 hm0 hnn hn hno
    go_enter Try.func19, Try.ntmps19
    go_wp2_with (first
      | (go_at_call 30; rw [HW1.out]; (with_reducible refine HMIN.out.mono ?_); rintro e w2 ⟨rfl, hb2⟩; have hb3 := hb2.alloc hb2.size (.cells #[.int .u64 (U v.hash), .int .i64 v.reg, .int .i64 v.at_, .int .i64 v.size] 40); have c3 := HCC.out _ hb3; have HB3 := Lib.hid hb3; clear hb2 hb3)
      | (go_at_call 32; (with_reducible refine (HIX.out _ HB3.out).mono ?_); rintro e w4 ⟨rfl, hb4⟩; have HB4 := Lib.hid hb4; clear hb4))
    go_ret
    refine ⟨n, .inr ⟨n, HN.out.1, ?_, rfl, ?_⟩, rfl, HB.out.trans ((HB3.out.trans (HB4.out.mono HB3.out.size)).mono HB.out.size)⟩
    · rw [HV.out]; exact HN.out.2.1
    · rw [HV.out]; exact HN.out.2.2
end Go.Proofs.Ytpihncafmjbccaa
namespace Go.Proofs.Ytpihncafmjbccaa
open Go.RowKit

/-- Elder: by the region, then by the place. -/
def ltA (x y : Ent) : Prop := x.reg < y.reg ∨ (x.reg = y.reg ∧ x.at_ < y.at_)
theorem age_lt (x y : Ent) : ageI x y < 0 ↔ ltA x y := by
  unfold ageI ltA cmpI
  by_cases h1 : x.reg < y.reg
  · simp [h1]
  · by_cases h2 : y.reg < x.reg
    · simp [h1, h2]; omega
    · have e : x.reg = y.reg := by omega
      by_cases h3 : x.at_ < y.at_
      · simp [e, h3]
      · by_cases h4 : y.at_ < x.at_
        · simp [e, h3, h4]
        · simp [e, h3, h4]
theorem minUp_least (es : List Ent) : ∀ k, 1 ≤ k → k ≤ es.length → ∀ j, j < k → ¬ ltA (es[j]?.getD default) (minUp es k)
  | 0, h, _, _, _ => absurd h (by omega)
  | 1, _, _, j, hj => by
    obtain rfl : j = 0 := by omega
    rw [minUp_one]
    unfold ltA; omega
  | k + 2, _, hk, j, hj => by
    have ih := minUp_least es (k + 1) (by omega) (by omega)
    rw [minUp_succ es (k + 1) (by omega) (by omega)]
    unfold minStep
    by_cases h : ageI (es[k + 1]?.getD default) (minUp es (k + 1)) < 0
    · rw [if_pos h]
      have h2 := (age_lt _ _).1 h
      by_cases hjk : j < k + 1
      · have := ih j hjk
        unfold ltA at this h2 ⊢
        omega
      · obtain rfl : j = k + 1 := by omega
        unfold ltA; omega
    · rw [if_neg h]
      have h2 : ¬ ltA _ _ := fun h3 => h ((age_lt _ _).2 h3)
      by_cases hjk : j < k + 1
      · exact ih j hjk
      · obtain rfl : j = k + 1 := by omega
        exact h2
theorem minE_least {es : List Ent} (h : 1 ≤ es.length) {z : Ent} (hz : z ∈ es) : ¬ ltA z (minE es) := by
  obtain ⟨j, hj, rfl⟩ := List.mem_iff_getElem.1 hz
  have := minUp_least es es.length h (Nat.le_refl _) j hj
  rw [List.getElem?_eq_getElem hj, Option.getD_some] at this
  exact this
/-- No number stands twice. -/
def Once (es : List Ent) : Prop := es.Pairwise fun x y => x.hash ≠ y.hash
theorem once_of {d p s : Int} {es : List Ent} (h : Right14 d p s es) : Once es := by
  have hlt : ∀ k j, j + k + 1 < es.length → U (es[j]?.getD default).hash < U (es[j + k + 1]?.getD default).hash := by
    intro k
    induction k with
    | zero =>
      intro j hj
      have := (h.all (j + 0 + 1) hj).ord (by omega)
      simpa using this
    | succ k ih =>
      intro j hj
      have h1 := ih j (by omega)
      have h2 := (h.all (j + (k + 1) + 1) hj).ord (by omega)
      rw [show j + (k + 1) + 1 - 1 = j + k + 1 by omega] at h2
      omega
  unfold Once
  rw [List.pairwise_iff_getElem]
  intro i j hi hj hij e
  have := hlt (j - i - 1) i (by omega)
  rw [show i + (j - i - 1) + 1 = j by omega, List.getElem?_eq_getElem hi, List.getElem?_eq_getElem hj, Option.getD_some, Option.getD_some, e] at this
  omega
theorem once_drop {es : List Ent} (h : Once es) (x : Ent) : Once (es.filter fun y => !decide (y.hash = x.hash)) := h.filter _
theorem once_len : ∀ {es : List Ent}, Once es → ∀ {x : Ent}, x ∈ es → (es.filter fun y => !decide (y.hash = x.hash)).length + 1 = es.length
  | [], _, _, hx => by cases hx
  | e :: es, h, x, hx => by
    have h1 := (List.pairwise_cons.1 h).1
    have h2 : Once es := (List.pairwise_cons.1 h).2
    rcases List.mem_cons.1 hx with rfl | hx'
    · have hall : (es.filter fun y => !decide (y.hash = x.hash)) = es := by
        rw [List.filter_eq_self]
        intro y hy
        have := h1 y hy
        simp [Ne.symm this]
      simp [hall]
    · have hne : e.hash ≠ x.hash := h1 x hx'
      have := once_len h2 hx'
      simp [hne]
      exact this
end Go.Proofs.Ytpihncafmjbccaa

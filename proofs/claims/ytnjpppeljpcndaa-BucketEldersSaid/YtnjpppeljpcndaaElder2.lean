/-
  bucket: the eldest entry: slices.MinFunc, slices.Index at entries; Elder.
  Conditions: none.
-/
import Derived.Test.YtnjpppeljpcndaaElder1
namespace Go.Proofs.Ytnjpppeljpcndaa
open Go.RowKit

/-- The eldest of some, the first of those. -/
def minStep (m x : Ent) : Ent := if ageI x m < 0 then x else m
def minUp (es : List Ent) (k : Nat) : Ent := ((es.take k).drop 1).foldl minStep (es[0]?.getD default)
theorem minUp_one (es : List Ent) : minUp es 1 = es[0]?.getD default := by
  unfold minUp
  have : (es.take 1).drop 1 = [] := List.drop_eq_nil_of_le (by rw [List.length_take]; omega)
  rw [this]; rfl
theorem minUp_succ (es : List Ent) (k : Nat) (h1 : 1 ≤ k) (hk : k < es.length) : minUp es (k + 1) = minStep (minUp es k) (es[k]?.getD default) := by
  unfold minUp
  rw [List.take_add_one, List.getElem?_eq_getElem hk, Option.toList_some, Option.getD_some, List.drop_append_of_le_length (by rw [List.length_take]; omega), List.foldl_append]
  rfl
/-- The eldest of all. -/
def minE (es : List Ent) : Ent := minUp es es.length
set_option maxRecDepth 100000 in
set_option maxHeartbeats 4000000 in
theorem minFunc_any (a : Option Addr) (c : Nat) (es : List Ent) (w : World) (hE : EntsAt w.heap.size w (.slice a es.length c) es) (hlen : es.length ≤ 1073741824) (hpos : 1 ≤ es.length) :
    Calls Try.prog 52 #[.slice a es.length c, .func (.func 53) #[] #[]] w fun e w' => e = .returned (.agg (minE es).cells) ∧ Below w.heap.size w w' := by
  have HE := Lib.hid hE
  have hl1 : (es.length : Int) ≤ 1073741824 := by omega
  have hl2 : (1 : Int) ≤ es.length := by omega
  obtain ⟨g, off, rfl, hg, e4⟩ := HE.out.get (i := 0) (by omega)
  rw [Nat.zero_mul, Nat.add_zero] at e4
  obtain ⟨q0, q1, q2, q3⟩ := e4
  have h0 : 0 < es.length := by omega
  have M1 := Lib.hid (minUp_one es)
  generalize es[0]?.getD default = x0 at q0 q1 q2 q3 M1
  have hz : (w.alloc (.cells #[.int .u64 0, .int .i64 0, .int .i64 0, .int .i64 0] 53)).heap[w.heap.size]? = some (.cells (Ent.cells ⟨0#64, 0, 0, 0⟩) 53 (0, 0)) := heap_alloc_new _ _
  have b1 : Below w.heap.size w (w.alloc (.cells #[.int .u64 0, .int .i64 0, .int .i64 0, .int .i64 0] 53)) := (Below.refl _ w).alloc (Nat.le_refl _) _
  have hx : ((w.alloc (.cells #[.int .u64 0, .int .i64 0, .int .i64 0, .int .i64 0] 53)).alloc (.cells #[.int .u64 (U x0.hash), .int .i64 x0.reg, .int .i64 x0.at_, .int .i64 x0.size] 53)).heap[w.heap.size + 1]? = some (.cells x0.cells 53 (0, 0)) := by
    have := heap_alloc_new (w.alloc (.cells #[.int .u64 0, .int .i64 0, .int .i64 0, .int .i64 0] 53)) (.cells #[.int .u64 (U x0.hash), .int .i64 x0.reg, .int .i64 x0.at_, .int .i64 x0.size] 53)
    rw [World.size_alloc] at this
    exact this
  have HZ := Lib.hid (blk_alloc hz (.cells #[.int .u64 (U x0.hash), .int .i64 x0.reg, .int .i64 x0.at_, .int .i64 x0.size] 53))
  have HX := Lib.hid hx
  have HB := Lib.hid (b1.alloc (by simp) (.cells #[.int .u64 (U x0.hash), .int .i64 x0.reg, .int .i64 x0.at_, .int .i64 x0.size] 53))
  have r0 := (b1.cell (p := ⟨g, off, none⟩) hg).trans q0
  have r1 := (b1.cell (p := ⟨g, off + 1, none⟩) hg).trans q1
  have r2 := (b1.cell (p := ⟨g, off + 2, none⟩) hg).trans q2
  have r3 := (b1.cell (p := ⟨g, off + 3, none⟩) hg).trans q3
  clear hx hz b1 q0 q1 q2 q3 hE hpos
  go_enter Try.func52, Try.ntmps52
  go_wp2
  go_loopw [6] (fun i wr => ∃ k : Nat, 1 ≤ k ∧ k ≤ es.length ∧ i = .int .i64 k ∧ Below w.heap.size w wr ∧ wr.heap[w.heap.size]? = some (.cells (Ent.cells ⟨0#64, 0, 0, 0⟩) 53 (0, 0)) ∧ wr.heap[w.heap.size + 1]? = some (.cells (minUp es k).cells 53 (0, 0))) (fun i _ => es.length - (intOf i).toNat)
  case atStart => exact ⟨1, Nat.le_refl _, h0, rfl, HB.out, HZ.out, by rw [M1.out]; exact HX.out⟩
  case round =>
    obtain ⟨k, hk1, hk, rfl, hB, hzz, hmm⟩ := hrel
    clear r0 r1 r2 r3 HZ HX HB M1
    by_cases hlt : k < es.length
    · obtain ⟨g', off', e', _, e4⟩ := HE.out.get hlt
      cases e'
      have k1 : (k : Int) < es.length := by omega
      have MS := Lib.hid (minUp_succ es k hk1 hlt)
      have d0 : ∀ p : After wr, p.v.cell? ⟨g, off + k * 4, none⟩ = some (.int .u64 (U (es[k]?.getD default).hash)) := after_cell ((hB.cell (p := ⟨g, _, none⟩) hg).trans e4.1)
      have d1 : ∀ p : After wr, p.v.cell? ⟨g, off + k * 4 + 1, none⟩ = some (.int .i64 (es[k]?.getD default).reg) := after_cell ((hB.cell (p := ⟨g, _, none⟩) hg).trans e4.2.1)
      have d2 : ∀ p : After wr, p.v.cell? ⟨g, off + k * 4 + 2, none⟩ = some (.int .i64 (es[k]?.getD default).at_) := after_cell ((hB.cell (p := ⟨g, _, none⟩) hg).trans e4.2.2.1)
      have d3 : ∀ p : After wr, p.v.cell? ⟨g, off + k * 4 + 3, none⟩ = some (.int .i64 (es[k]?.getD default).size) := after_cell ((hB.cell (p := ⟨g, _, none⟩) hg).trans e4.2.2.2)
      generalize es[k]?.getD default = x at d0 d1 d2 d3 MS
      generalize minUp es k = m at hmm MS
      have m0 : ∀ p : After wr, p.v.cell? ⟨w.heap.size + 1, 0, none⟩ = some (.int .u64 (U m.hash)) := after_cell (blk_cell hmm 0)
      have m1 : ∀ p : After wr, p.v.cell? ⟨w.heap.size + 1, 1, none⟩ = some (.int .i64 m.reg) := after_cell (blk_cell hmm 1)
      have m2 : ∀ p : After wr, p.v.cell? ⟨w.heap.size + 1, 2, none⟩ = some (.int .i64 m.at_) := after_cell (blk_cell hmm 2)
      have m3 : ∀ p : After wr, p.v.cell? ⟨w.heap.size + 1, 3, none⟩ = some (.int .i64 m.size) := after_cell (blk_cell hmm 3)
      have HAGE : Hid (∀ p : After wr, Calls Try.prog 53 #[.agg #[.int .u64 (U x.hash), .int .i64 x.reg, .int .i64 x.at_, .int .i64 x.size], .agg #[.int .u64 (U m.hash), .int .i64 m.reg, .int .i64 m.at_, .int .i64 m.size]] p.v fun e w' => e = .returned (.int .i64 (ageI x m)) ∧ Below p.v.heap.size p.v w') := fun p => byAge_any x m p.v
      have HBW := Lib.hid hB
      have HZZ := Lib.hid hzz
      have HMM := Lib.hid hmm
      clear hB hzz hmm e4
      by_cases hage : ageI x m < 0
      · have hst : minUp es (k + 1) = x := by rw [MS.out]; unfold minStep; rw [if_pos hage]
        have HST := Lib.hid hst
        clear hst MS
        generalize ageI x m = ag at hage HAGE
        go_upto_region 7 with (fail)
        refine wp_region_after (by kernel_rfl) (by kernel_rfl) ?_
        repeat (go_big_quiet_step ((go_at_call 53; exact after_call (HAGE.out _))))
        refine wpQuiet_nil ?_
        rintro W9 ⟨⟨_, hW9⟩, rfl⟩
        have HW9 := Lib.hid hW9
        have HM9 := Lib.hid ((hW9.block _ (blk_lt HMM.out)).trans HMM.out)
        have HZ9 := Lib.hid ((hW9.block _ (blk_lt HZZ.out)).trans HZZ.out)
        have e0 : W9.cell? ⟨g, off + k * 4, none⟩ = some (.int .u64 (U x.hash)) := d0 ⟨W9, hW9⟩
        have e1 : W9.cell? ⟨g, off + k * 4 + 1, none⟩ = some (.int .i64 x.reg) := d1 ⟨W9, hW9⟩
        have e2 : W9.cell? ⟨g, off + k * 4 + 2, none⟩ = some (.int .i64 x.at_) := d2 ⟨W9, hW9⟩
        have e3 : W9.cell? ⟨g, off + k * 4 + 3, none⟩ = some (.int .i64 x.size) := d3 ⟨W9, hW9⟩
        clear hW9 d0 d1 d2 d3 m0 m1 m2 m3 HAGE
        go_wp2_with (refine wpList_store_row (o := ⟨none, _, _, _, _, _⟩) rfl 53 (.tmp 5) (.tmp 31) rfl (w.heap.size + 1) x.cells rfl rfl 53 m.cells HM9.out (ent_sz x) rfl ?_ ?_; exact ent_oneB x)
        have hend := setRow_heap W9 (w.heap.size + 1) _ x.cells _ _ HM9.out
        have HEND := Lib.hid hend
        have HZE := Lib.hid ((setRow_other W9 (w.heap.size + 1) w.heap.size x.cells (by omega)).trans HZ9.out)
        have HBE := Lib.hid (below_setRow (HBW.out.trans (HW9.out.mono HBW.out.size)) (Nat.le_succ _) x.cells (g := w.heap.size + 1))
        clear hend
        go_wp2
        go_roundw
        case rel => exact ⟨k + 1, by omega, by omega, by go_num, HBE.out, HZE.out, by rw [HST.out]; exact HEND.out⟩
        case measure => simp [intOf]; omega
      · have hst : minUp es (k + 1) = m := by rw [MS.out]; unfold minStep; rw [if_neg hage]
        have HST := Lib.hid hst
        clear hst MS
        generalize ageI x m = ag at hage HAGE
        go_upto_region 7 with (fail)
        refine wp_region_after (by kernel_rfl) (by kernel_rfl) ?_
        repeat (go_big_quiet_step ((go_at_call 53; exact after_call (HAGE.out _))))
        refine wpQuiet_nil ?_
        rintro W9 ⟨⟨_, hW9⟩, rfl⟩
        have HW9 := Lib.hid hW9
        have HM9 := Lib.hid ((hW9.block _ (blk_lt HMM.out)).trans HMM.out)
        have HZ9 := Lib.hid ((hW9.block _ (blk_lt HZZ.out)).trans HZZ.out)
        clear hW9 d0 d1 d2 d3 m0 m1 m2 m3 HAGE
        have HBE := Lib.hid (HBW.out.trans (HW9.out.mono HBW.out.size))
        go_wp2
        go_roundw
        case rel => exact ⟨k + 1, by omega, by omega, by go_num, HBE.out, HZ9.out, by rw [HST.out]; exact HM9.out⟩
        case measure => simp [intOf]; omega
    · obtain rfl : k = es.length := by omega
      have HRES : Hid (minUp es es.length = minE es) := rfl
      generalize minUp es es.length = m at hmm HRES
      have m0 : wr.cell? ⟨w.heap.size + 1, 0, none⟩ = some (.int .u64 (U m.hash)) := blk_cell hmm 0
      have m1 : wr.cell? ⟨w.heap.size + 1, 1, none⟩ = some (.int .i64 m.reg) := blk_cell hmm 1
      have m2 : wr.cell? ⟨w.heap.size + 1, 2, none⟩ = some (.int .i64 m.at_) := blk_cell hmm 2
      have m3 : wr.cell? ⟨w.heap.size + 1, 3, none⟩ = some (.int .i64 m.size) := blk_cell hmm 3
      have HZZ := Lib.hid hzz
      have HBW := Lib.hid hB
      clear hzz hmm hB
      go_wp2_with (refine wpList_store_row (o := ⟨none, _, _, _, _, _⟩) rfl 53 (.tmp 4) (.tmp 32) rfl w.heap.size m.cells rfl rfl 53 (Ent.cells ⟨0#64, 0, 0, 0⟩) HZZ.out (ent_sz m) rfl ?_ ?_; exact ent_oneB m)
      have hend := setRow_heap wr w.heap.size _ m.cells _ _ HZZ.out
      refine bodyPost_ret (results_cell_row rfl _ _ w.heap.size 53 m.cells (0, 0) _ rfl hend Try.underlying53 rfl (ent_sz m)) rfl ⟨by rw [HRES.out], below_setRow HBW.out (Nat.le_refl _) _⟩
end Go.Proofs.Ytnjpppeljpcndaa

/-
  RegionPlans: of which plans there is a log.
  Conditions: none.
-/
import Derived.Test.YtiddfilhfdkogaaReg33
import Derived.Test.YtiddfilhfdkogaaLaw
import Derived.Test.YtiddfilhfdkogaaOpenBn
namespace Go.Proofs.Ytiddfilhfdkogaa
open Go.ChangeShapes Go.WideShapes Go.ChangeAt Go.RowKit Go.Shelf Go.Deep
attribute [-go_sem] Instr.build Instr.fill

@[local go_sem] theorem build_plan11 (a b c d e f g : Int) (s : BitVec 64) (W : World) : (Instr.build 31 #[(0, .int .i64 a), (1, .int .i64 b), (2, .int .i64 c), (3, .int .i64 d), (4, .int .i64 e), (5, .int .i64 f), (6, .int .i64 g), (7, .int .u64 (U s))]).run Try.prog W = .ok (.agg #[.int .i64 a, .int .i64 b, .int .i64 c, .int .i64 d, .int .i64 e, .int .i64 f, .int .i64 g, .int .u64 (U s)]) W := run_build W _ _ _ (by kernel_rfl)
theorem lay_sz11 (p : LayP) : (Try.prog.info? 54).map (·.size) = some p.cells.size := by show _ = some 8; kernel_rfl
theorem lay_one11 (p : LayP) : p.cells.all (·.oneCell') = true := by simp [LayP.cells, Value.oneCell']
theorem row_box {W : World} {t : TypeId} {z cs : Array Value} : Below W.heap.size W ((W.alloc (.cells z t)).setRow W.heap.size cs) ∧ ((W.alloc (.cells z t)).setRow W.heap.size cs).heap[W.heap.size]? = some (.cells cs t (0, 0)) :=
  ⟨below_setRow ((Below.refl _ _).alloc (Nat.le_refl _) _) (Nat.le_refl _) _, setRow_heap _ _ _ _ _ _ (heap_alloc_new _ _)⟩
set_option maxRecDepth 100000 in
set_option maxHeartbeats 16000000 in
theorem regionPlans_walk (p : PlanP) (last : Int) (w : World) : Calls Try.prog 4 #[.agg p.cells, .int .i64 last] w (Good w) := by
  obtain ⟨W1, hW1⟩ : ∃ W1, w.alloc (.cells p.cells 52) = W1 := ⟨_, rfl⟩
  have hb1 : Below w.heap.size w W1 := by rw [← hW1]; exact (Below.refl _ w).alloc (Nat.le_refl _) _
  have hk1 : W1.heap[w.heap.size]? = some (.cells p.cells 52 (0, 0)) := by rw [← hW1]; exact heap_alloc_new _ _
  have HW1 := Lib.hid hW1
  have HB1 := Lib.hid hb1
  have HK1 := Lib.hid hk1
  have HP : Hid (∀ V, Below W1.heap.size W1 V → (V.cell? ⟨w.heap.size, 0, none⟩ = some (.int .i64 p.sectors) ∧ V.cell? ⟨w.heap.size, 1, none⟩ = some (.int .i64 p.size) ∧ V.cell? ⟨w.heap.size, 2, none⟩ = some (.int .i64 p.regions) ∧ V.cell? ⟨w.heap.size, 3, none⟩ = some (.int .i64 p.rs) ∧ V.cell? ⟨w.heap.size, 4, none⟩ = some (.int .i64 p.log) ∧ V.cell? ⟨w.heap.size, 5, none⟩ = some (.int .i64 p.depth) ∧ V.cell? ⟨w.heap.size, 6, none⟩ = some (.int .i64 p.memory) ∧ V.cell? ⟨w.heap.size, 7, none⟩ = some (.int .u64 (U p.seed)))) := fun V hb => by
    have h := (hb.block _ (blk_lt hk1)).trans hk1
    exact ⟨blk_cell h 0, blk_cell h 1, blk_cell h 2, blk_cell h 3, blk_cell h 4, blk_cell h 5, blk_cell h 6, blk_cell h 7⟩
  have HRF := Lib.hid (refFit_any p)
  have HAW := Lib.hid (fun W => awake11 W)
  obtain ⟨p0, p1, p2, p3, p4, p5, p6, p7⟩ := HP.out W1 (Below.refl _ _)
  clear hW1 hb1 hk1
  unfold PlanP.cells at HW1 HRF
  unfold PlanP.cells
  go_enter Try.func4, Try.ntmps4
  go_upto_region 1 with (fail)
  change Code.wp _ _ _ _ (w.alloc (.cells #[.int .i64 p.sectors, .int .i64 p.size, .int .i64 p.regions, .int .i64 p.rs, .int .i64 p.log, .int .i64 p.depth, .int .i64 p.memory, .int .u64 (U p.seed)] 52))
  rw [HW1.out]
  clear HW1
  go_upto_region 2 with (refine wpList_store_row (o := ⟨none, _, _, _, _, _⟩) rfl 31 (.tmp 5) (.tmp 30) rfl W1.heap.size p.cells rfl rfl 31 (PlanP.cells ⟨0, 0, 0, 0, 0, 0, 0, 0#64⟩) (heap_alloc_new _ _) (plan_sz11 _) rfl ?_ ?_; exact plan_one11 _)
  have hq := row_box (W := W1) (t := 31) (z := PlanP.cells ⟨0, 0, 0, 0, 0, 0, 0, 0#64⟩) (cs := p.cells)
  change Code.wp _ _ _ _ ((W1.alloc (.cells (PlanP.cells ⟨0, 0, 0, 0, 0, 0, 0, 0#64⟩) 31)).setRow W1.heap.size p.cells)
  generalize (W1.alloc (.cells (PlanP.cells ⟨0, 0, 0, 0, 0, 0, 0, 0#64⟩) 31)).setRow W1.heap.size p.cells = W2 at hq ⊢
  obtain ⟨hqb, hqk⟩ := hq
  have HB2 := Lib.hid hqb
  have HK2 := Lib.hid hqk
  clear hqb hqk p0 p1 p2 p3 p4 p5 p6 p7
  obtain ⟨p0, p1, p2, p3, p4, p5, p6, p7⟩ := HP.out W2 HB2.out
  generalize W1.heap.size = G at HK2 ⊢
  go_upto_region 3 with (first
    | (go_at_call 18; (with_reducible refine (HRF.out _).mono ?_); rintro e w3 ⟨rfl, hb3⟩; have HB3 := Lib.hid hb3; clear hb3)
    | (refine wpList_store_row (o := ⟨none, _, _, _, _, _⟩) rfl 54 (.tmp 6) (.tmp 34) rfl w3.heap.size p.fit.cells rfl rfl 54 (LayP.cells LayP.zero) (heap_alloc_new _ _) (lay_sz11 _) rfl ?_ ?_; exact lay_one11 _))
  have hq := row_box (W := w3) (t := 54) (z := LayP.cells LayP.zero) (cs := p.fit.cells)
  change Code.wp _ _ _ _ ((w3.alloc (.cells (LayP.cells LayP.zero) 54)).setRow w3.heap.size p.fit.cells)
  generalize (w3.alloc (.cells (LayP.cells LayP.zero) 54)).setRow w3.heap.size p.fit.cells = W4 at hq ⊢
  obtain ⟨hqb, hqk⟩ := hq
  have hb24 : Below W2.heap.size W2 W4 := HB3.out.trans (hqb.mono HB3.out.size)
  generalize w3.heap.size = X at hqk ⊢
  have HBW : Hid (Below w.heap.size w W4) := HB1.out.trans ((HB2.out.trans (hb24.mono HB2.out.size)).mono HB1.out.size)
  have HPG : Hid (∀ V, Below W4.heap.size W4 V → (V.cell? ⟨G, 0, none⟩ = some (.int .i64 p.sectors) ∧ V.cell? ⟨G, 1, none⟩ = some (.int .i64 p.size) ∧ V.cell? ⟨G, 2, none⟩ = some (.int .i64 p.regions) ∧ V.cell? ⟨G, 3, none⟩ = some (.int .i64 p.rs) ∧ V.cell? ⟨G, 4, none⟩ = some (.int .i64 p.log) ∧ V.cell? ⟨G, 5, none⟩ = some (.int .i64 p.depth) ∧ V.cell? ⟨G, 6, none⟩ = some (.int .i64 p.memory) ∧ V.cell? ⟨G, 7, none⟩ = some (.int .u64 (U p.seed)))) := fun V hb => by
    have h := (hb.block _ (Nat.lt_of_lt_of_le (blk_lt HK2.out) hb24.size)).trans ((hb24.block _ (blk_lt HK2.out)).trans HK2.out)
    exact ⟨blk_cell h 0, blk_cell h 1, blk_cell h 2, blk_cell h 3, blk_cell h 4, blk_cell h 5, blk_cell h 6, blk_cell h 7⟩
  have HXX : Hid (∀ V, Below W4.heap.size W4 V → V.cell? ⟨X, 7, none⟩ = some (.int .i64 p.fit.room)) := fun V hb => by
    have h := (hb.block _ (blk_lt hqk)).trans hqk
    exact blk_cell h 7
  obtain ⟨s0, s1, _⟩ := HP.out W4 (HB2.out.trans (hb24.mono HB2.out.size))
  have HNW : Hid (Calls Try.prog 9 #[.int .i64 200, .int .i64 96] W4 fun e W' => ∃ D, e = .returned (.pointer (some ⟨D, 0, none⟩)) ∧ DevHere w D (Dev.new 200 96) W' ∧ Below W4.heap.size W4 W') := here_new 200 96 (by decide) HBW.out
  clear hqb hqk hb24 p0 p1 p2 p3 p4 p5 p6 p7
  by_cases h : p.on200
  · have hfe := (fit_yes h.1).2
    have hfl := (fit_yes h.1).1
    obtain ⟨hs, hz⟩ := h.2
    rw [hs] at s0
    rw [hz] at s1
    rw [hfe]
    have HFG := Lib.hid (fun (V : World) (D : Nat) (hd : DevHere w D (Dev.new 200 96) V) => format_good p h hd)
    have HOG := Lib.hid (fun (hl : last ≤ 1099511627776) (V : World) (D : Nat) (hd : DevHere w D (Dev.new 200 96) V) => open_good p h last hl hd)
    have HOH := Lib.hid (fun (hl : 1099511627776 < last) (V : World) (D : Nat) (hd : DevHere w D (Dev.new 200 96) V) => open_huge200 p h last hl hd)
    have hal := ((fits_iff p).1 h.1).1
    have hrm : (p.log0.where_ : Int) = p.fit.room := by
      have h1 := hal.rs
      have h2 := hal.size
      rw [hfl]
      obtain ⟨a, ea⟩ : ∃ a : Nat, p.rs = a := ⟨p.rs.toNat, by omega⟩
      obtain ⟨b, eb⟩ : ∃ b : Nat, p.size - 19 = b := ⟨(p.size - 19).toNat, by omega⟩
      show (((0 * (p.rs.toNat * (p.size - 19).toNat) + (p.rs.toNat * (p.size - 19).toNat + 0) : Nat)) : Int) = p.rs * (p.size - 19)
      rw [ea, eb]
      simp
    have hwle : p.log0.where_ ≤ 4611686018427387904 := by
      have h1 := (log0_ok h.1).rr_le
      show 0 * p.log0.rr + p.log0.rr ≤ _
      omega
    have hold : p.log0.oldest = 1 := by
      have h1 := hal.regions
      unfold LogS.oldest
      show max ((0 : Int) - (p.regions.toNat : Int) + 1) 1 = 1
      omega
    have HC := Lib.hid (And.intro hrm (And.intro hwle hold))
    unfold PlanP.cells at HFG HOG HOH
    clear hfl hs hz h hfe hal hrm hwle hold
    by_cases hl : 1099511627776 < last
    · have HOX := Lib.hid (HOH.out hl)
      have hl1 : ¬ last ≤ 1099511627776 := by omega
      go_upto_region 6 with (fail)
      clear s0 s1
      go_wp2_with (first
        | (go_at_call 9; (with_reducible refine HNW.out.mono ?_); rintro e w5 ⟨D, rfl, hd, hb5⟩; have HB5 := Lib.hid hb5; have HD5 := Lib.hid hd; obtain ⟨g0, g1, g2, g3, g4, g5, g6, g7⟩ := HPG.out _ hb5; clear hd hb5)
        | (go_at_call 8; (with_reducible refine (HFG.out _ _ HD5.out).mono ?_); rintro e w6 ⟨R, rfl, _, hb6⟩; have HB6 := Lib.hid (HB5.out.trans (hb6.mono HB5.out.size)); have HD6 := Lib.hid (HD5.out.on hb6); clear g0 g1 g2 g3 g4 g5 g6 g7; obtain ⟨g0, g1, g2, g3, g4, g5, g6, g7⟩ := HPG.out _ HB6.out; clear hb6)
        | (go_at_call 19; (with_reducible refine (HOX.out _ _ HD6.out).mono ?_); rintro e w7 ⟨rfl, hb7⟩; have HB7 := Lib.hid (HB6.out.trans (hb7.mono HB6.out.size)); clear hb7 g0 g1 g2 g3 g4 g5 g6 g7)
        | (go_at_call 17; (with_reducible refine (HAW.out _).mono ?_); rintro e wz ⟨rfl, hbz⟩; have HBZ := Lib.hid hbz; clear hbz))
      go_ret
      exact ⟨rfl, HBW.out.trans ((HB7.out.trans (HBZ.out.mono HB7.out.size)).mono HBW.out.size)⟩
    · have HOX := Lib.hid (HOG.out (by omega))
      clear hl
      go_upto_region 6 with (fail)
      clear s0 s1
      go_upto_region 13 with (first
        | (go_at_call 9; (with_reducible refine HNW.out.mono ?_); rintro e w5 ⟨D, rfl, hd, hb5⟩; have HB5 := Lib.hid hb5; have HD5 := Lib.hid hd; obtain ⟨g0, g1, g2, g3, g4, g5, g6, g7⟩ := HPG.out _ hb5; clear hd hb5)
        | (go_at_call 8; (with_reducible refine (HFG.out _ _ HD5.out).mono ?_); rintro e w6 ⟨R, rfl, hL6, hb6⟩; have HL6 := Lib.hid hL6; have HB6 := Lib.hid (HB5.out.trans (hb6.mono HB5.out.size)); have HD6 := Lib.hid (HD5.out.on hb6); clear hL6 g0 g1 g2 g3 g4 g5 g6 g7; obtain ⟨g0, g1, g2, g3, g4, g5, g6, g7⟩ := HPG.out _ HB6.out; clear hb6)
        | (go_at_call 19; (with_reducible refine (HOX.out _ _ HD6.out).mono ?_); rintro e w7 ⟨R2, rfl, hL7, hb7⟩; have HL7 := Lib.hid hL7; have HG7 := Lib.hid (HL6.out.on hb7); have HB7 := Lib.hid (HB6.out.trans (hb7.mono HB6.out.size)); clear hL7 hb7 g0 g1 g2 g3 g4 g5 g6 g7))
      obtain ⟨rm, hrm⟩ : ∃ rm, p.fit.room = rm := ⟨_, rfl⟩
      have hx7 := HXX.out w7 HB7.out
      rw [hrm] at hx7
      have q7 : ∀ pp : After w7, pp.v.cell? ⟨X, 7, none⟩ = some (.int .i64 rm) := after_cell hx7
      have HC1 : Hid (∀ V, Below w7.heap.size w7 V → Calls Try.prog 14 #[.pointer (some ⟨R, 0, none⟩)] V fun e W' => e = .returned (.int .i64 0) ∧ Below V.heap.size V W') := fun V hb => by
        obtain ⟨rv, hL, _⟩ := HG7.out.on hb
        exact (last_any hL).mono fun e W' ⟨a, b⟩ => ⟨a, by rw [← b]; exact Below.refl _ _⟩
      have HC2 : Hid (∀ V, Below w7.heap.size w7 V → Calls Try.prog 16 #[.pointer (some ⟨R, 0, none⟩)] V fun e W' => e = .returned (.int .i64 1) ∧ Below V.heap.size V W') := fun V hb => by
        obtain ⟨rv, hL, _⟩ := HG7.out.on hb
        have := oldest_any hL
        rw [HC.out.2.2] at this
        exact this
      have HC3 : Hid (∀ V, Below w7.heap.size w7 V → Calls Try.prog 20 #[.pointer (some ⟨R, 0, none⟩)] V fun e W' => e = .returned (.int .i64 rm) ∧ Below V.heap.size V W') := fun V hb => by
        obtain ⟨rv, hL, _⟩ := HG7.out.on hb
        have := where_any hL HC.out.2.1
        rw [HC.out.1, hrm] at this
        exact this
      obtain ⟨lm, hlm⟩ : ∃ lm, max last 0 = lm := ⟨_, rfl⟩
      have hlm2 : (if last < 0 then 0 else last) = lm := by rw [← hlm]; split <;> omega
      have HC4 : Hid (∀ V, Below w7.heap.size w7 V → Calls Try.prog 14 #[.pointer (some ⟨R2, 0, none⟩)] V fun e W' => e = .returned (.int .i64 lm) ∧ Below V.heap.size V W') := fun V hb => by
        obtain ⟨rv, hL, _⟩ := HL7.out.on hb
        exact (last_any hL).mono fun e W' ⟨a, b⟩ => ⟨by rw [a]; show Ending.returned (.int .i64 ((last.toNat : Nat) : Int)) = _; rw [← hlm]; congr 2; omega, by rw [← b]; exact Below.refl _ _⟩
      clear hx7 hrm
      refine wp_region_after (by kernel_rfl) (by kernel_rfl) ?_
      repeat (go_big_quiet_step (first
        | (go_at_call 14; with_reducible exact after_call (HC1.out _ (After.h _)))
        | (go_at_call 14; with_reducible exact after_call (HC4.out _ (After.h _)))
        | (go_at_call 16; with_reducible exact after_call (HC2.out _ (After.h _)))
        | (go_at_call 20; with_reducible exact after_call (HC3.out _ (After.h _)))
        | (go_at_call 17; with_reducible exact after_call (HAW.out _))))
      refine wpQuiet_nil ?_
      rintro _ ⟨p9, rfl⟩
      have HB9 := Lib.hid (HB7.out.trans (p9.h.mono HB7.out.size))
      generalize p9.v = w9 at HB9 ⊢
      clear q7
      go_wp2
      go_ret
      exact ⟨rfl, HBW.out.trans (HB9.out.mono HBW.out.size)⟩
  · have HFB := Lib.hid (fun (V : World) (D : Nat) (hd : DevHere w D (Dev.new 200 96) V) => format_bad p h hd)
    have HOB := Lib.hid (fun (V : World) (D : Nat) (hd : DevHere w D (Dev.new 200 96) V) => open_bad p h last hd)
    unfold PlanP.cells at HFB HOB
    have hbad : p.fits = false ∨ (p.fits = true ∧ p.sectors ≠ 200) ∨ (p.fits = true ∧ p.sectors = 200 ∧ p.size ≠ 96) := by
      cases e : p.fits with
      | false => exact .inl rfl
      | true =>
        by_cases e1 : p.sectors = 200
        · exact .inr (.inr ⟨rfl, e1, fun e2 => h ⟨e, e1, e2⟩⟩)
        · exact .inr (.inl ⟨rfl, e1⟩)
    clear h
    rcases hbad with hf | ⟨hf, hne⟩ | ⟨hf, he, hne⟩
    · rw [(fit_no hf).2]
      clear hf
      go_upto_region 6 with (fail)
      clear s0 s1
      go_wp2_with (first
        | (go_at_call 9; (with_reducible refine HNW.out.mono ?_); rintro e w5 ⟨D, rfl, hd, hb5⟩; have HB5 := Lib.hid hb5; have HD5 := Lib.hid hd; obtain ⟨g0, g1, g2, g3, g4, g5, g6, g7⟩ := HPG.out _ hb5; clear hd hb5)
        | (go_at_call 8; (with_reducible refine (HFB.out _ _ HD5.out).mono ?_); rintro e w6 ⟨rfl, hb6⟩; have HB6 := Lib.hid (HB5.out.trans (hb6.mono HB5.out.size)); have HD6 := Lib.hid (HD5.out.on hb6); clear g0 g1 g2 g3 g4 g5 g6 g7; obtain ⟨g0, g1, g2, g3, g4, g5, g6, g7⟩ := HPG.out _ HB6.out; clear hb6)
        | (go_at_call 19; (with_reducible refine (HOB.out _ _ HD6.out).mono ?_); rintro e w7 ⟨rfl, hb7⟩; have HB7 := Lib.hid (HB6.out.trans (hb7.mono HB6.out.size)); clear hb7 g0 g1 g2 g3 g4 g5 g6 g7)
        | (go_at_call 17; (with_reducible refine (HAW.out _).mono ?_); rintro e wz ⟨rfl, hbz⟩; have HBZ := Lib.hid hbz; clear hbz))
      go_ret
      exact ⟨rfl, HBW.out.trans ((HB7.out.trans (HBZ.out.mono HB7.out.size)).mono HBW.out.size)⟩
    · rw [(fit_yes hf).2]
      have hb0 : (p.sectors == 200) = false := beq_eq_false_iff_ne.2 hne
      clear hf hne
      go_upto_region 6 with (fail)
      clear s0 s1
      go_wp2_with (first
        | (go_at_call 9; (with_reducible refine HNW.out.mono ?_); rintro e w5 ⟨D, rfl, hd, hb5⟩; have HB5 := Lib.hid hb5; have HD5 := Lib.hid hd; obtain ⟨g0, g1, g2, g3, g4, g5, g6, g7⟩ := HPG.out _ hb5; clear hd hb5)
        | (go_at_call 8; (with_reducible refine (HFB.out _ _ HD5.out).mono ?_); rintro e w6 ⟨rfl, hb6⟩; have HB6 := Lib.hid (HB5.out.trans (hb6.mono HB5.out.size)); have HD6 := Lib.hid (HD5.out.on hb6); clear g0 g1 g2 g3 g4 g5 g6 g7; obtain ⟨g0, g1, g2, g3, g4, g5, g6, g7⟩ := HPG.out _ HB6.out; clear hb6)
        | (go_at_call 19; (with_reducible refine (HOB.out _ _ HD6.out).mono ?_); rintro e w7 ⟨rfl, hb7⟩; have HB7 := Lib.hid (HB6.out.trans (hb7.mono HB6.out.size)); clear hb7 g0 g1 g2 g3 g4 g5 g6 g7)
        | (go_at_call 17; (with_reducible refine (HAW.out _).mono ?_); rintro e wz ⟨rfl, hbz⟩; have HBZ := Lib.hid hbz; clear hbz))
      go_ret
      exact ⟨rfl, HBW.out.trans ((HB7.out.trans (HBZ.out.mono HB7.out.size)).mono HBW.out.size)⟩
    · rw [(fit_yes hf).2]
      rw [he] at s0
      have hb0 : (p.size == 96) = false := beq_eq_false_iff_ne.2 hne
      clear hf hne he
      go_upto_region 6 with (fail)
      clear s0 s1
      go_wp2_with (first
        | (go_at_call 9; (with_reducible refine HNW.out.mono ?_); rintro e w5 ⟨D, rfl, hd, hb5⟩; have HB5 := Lib.hid hb5; have HD5 := Lib.hid hd; obtain ⟨g0, g1, g2, g3, g4, g5, g6, g7⟩ := HPG.out _ hb5; clear hd hb5)
        | (go_at_call 8; (with_reducible refine (HFB.out _ _ HD5.out).mono ?_); rintro e w6 ⟨rfl, hb6⟩; have HB6 := Lib.hid (HB5.out.trans (hb6.mono HB5.out.size)); have HD6 := Lib.hid (HD5.out.on hb6); clear g0 g1 g2 g3 g4 g5 g6 g7; obtain ⟨g0, g1, g2, g3, g4, g5, g6, g7⟩ := HPG.out _ HB6.out; clear hb6)
        | (go_at_call 19; (with_reducible refine (HOB.out _ _ HD6.out).mono ?_); rintro e w7 ⟨rfl, hb7⟩; have HB7 := Lib.hid (HB6.out.trans (hb7.mono HB6.out.size)); clear hb7 g0 g1 g2 g3 g4 g5 g6 g7)
        | (go_at_call 17; (with_reducible refine (HAW.out _).mono ?_); rintro e wz ⟨rfl, hbz⟩; have HBZ := Lib.hid hbz; clear hbz))
      go_ret
      exact ⟨rfl, HBW.out.trans ((HB7.out.trans (HBZ.out.mono HB7.out.size)).mono HBW.out.size)⟩
set_option maxRecDepth 100000 in
theorem regionPlans_lifted (os : Os) (started : os.Started) (H : Type) (enc : TypeId × Value → H) :
    ReturnsInHanded {} Try.checked os 4 .any (Rows.regionPlansSpec.pre6 enc Try.prog Try.f4 Rows.regionPlansRow.domain false) (Rows.regionPlansSpec.post enc Try.prog Try.f4 false true false false) :=
  law_lifted 4 Try.f4 Rows.regionPlansSpec Try.func4 (by kernel_rfl) rfl rfl
    (fun ds h => by match ds, h with | [_, _], _ => rfl) (by kernel_rfl) os started
    (ChangeSpec.witness6 (enc := enc) (C := Try.checked) false ⟨#[], #[.agg (PlanP.cells ⟨0, 0, 0, 0, 0, 0, 0, 0#64⟩), .int .i64 0], []⟩ 8 (by kernel_rfl) (by kernel_rfl) (by kernel_rfl) (by kernel_rfl))
    fun W args ds ps hval hA => by
      rw [Try.params4] at hA hval
      obtain ⟨v0, vs0, d0, ds0, p0, q0, hargs, rfl, rfl, h0, r0⟩ := trodAll_cons hA
      obtain ⟨v1, vs1, d1, ds1, p1, q1, rfl, rfl, rfl, h1, r1⟩ := trodAll_cons r0
      obtain ⟨rfl, rfl, rfl⟩ := trodAll_nil r1
      obtain rfl : args = #[v0, v1] := by cases args; simp_all
      obtain ⟨b0, o0⟩ := hval 0 _ v0 rfl rfl
      obtain ⟨b1, o1⟩ := hval 1 _ v1 rfl rfl
      obtain ⟨q0, rfl, hq0⟩ := open_plan o0 h0
      obtain ⟨a1, rfl, rfl, rfl, w1⟩ := open_int Try.underlying3 o1 h1
      exact regionPlans_walk q0 a1 W

/-- The statement. -/
theorem regionPlans_holds : Rows.RegionPlansSaid :=
  OpenClaim.holds_of_wide 4 Try.f4 rfl rfl rfl rfl rfl rfl rfl ⟨rfl, rfl, rfl, rfl, rfl⟩ rfl rfl rfl rfl rfl (by kernel_rfl) Try.func4 (by kernel_rfl)
    (of_decide_eq_true (by kernel_rfl)) (by unfold Func.isWrapper; first | (rw [if_pos (by decide +kernel)]; kernel_rfl) | (rw [if_neg (by decide +kernel)]; exact ⟨rfl, rfl⟩))
    (fun os started H enc _ => regionPlans_lifted os started H enc)
#print axioms regionPlans_holds
end Go.Proofs.Ytiddfilhfdkogaa

/-
  sgraffitoref06.Fit: a plan whose numbers, each alone, may be.
  Conditions: none.
-/
import Derived.Test.YtfdipeaddofjaaaRefFitBase
namespace Go.Proofs.Ytfdipeaddofjaaa
open Go.RowKit

/-- How many steps of so many reach a number. -/
theorem steps_up {m per : Int} {j : Nat} (hp : 0 < per) (h1 : m ≤ j * per) (h2 : j = 0 ∨ ((j : Int) - 1) * per < m) (hm : 1 ≤ m) : (m + per - 1) / per = j := by
  rcases h2 with h2 | h2
  · subst h2; simp at h1; omega
  · rw [Int.sub_mul] at h2
    refine Int.le_antisymm ?_ ?_
    · have : (m + per - 1) / per < j + 1 := Int.ediv_lt_of_lt_mul hp (by rw [Int.add_mul]; omega)
      omega
    · exact Int.le_ediv_of_mul_le hp (by omega)
/-- What stands at a round's head of the second loop. -/
def RFAt (p : PlanP) (w : World) (j : Nat) (W : World) : Prop :=
  W.heap[w.heap.size]? = some (.cells p.cells 24 (0, 0)) ∧ W.heap[w.heap.size + 1]? = some (.cells LayP.zero.cells 71 (0, 0)) ∧ W.heap[w.heap.size + 2]? = some (.cells ({ p.lay with tree := 1 + p.many + j }).cells 71 (0, 0)) ∧ Below w.heap.size w W
theorem RFAt.step {p : PlanP} {w W : World} {j : Nat} (h : RFAt p w j W) : RFAt p w (j + 1) (W.setCell ⟨w.heap.size + 2, 6, none⟩ (.int .i64 (1 + p.many + j + 1))) := by
  obtain ⟨h1, h2, h3, h4⟩ := h
  refine ⟨(Below.heap_setCell _ _ _ _ (by show w.heap.size ≠ w.heap.size + 2; omega)).trans h1, (Below.heap_setCell _ _ _ _ (by show w.heap.size + 1 ≠ w.heap.size + 2; omega)).trans h2, ?_, h4.setCell (p := ⟨w.heap.size + 2, 6, none⟩) (by show w.heap.size ≤ w.heap.size + 2; omega) _⟩
  rw [blk_set h3]
  have e : (1 + p.many + ((j + 1 : Nat) : Int)) = 1 + p.many + j + 1 := by omega
  rw [e]
  rfl
/-- The second loop's relation. -/
def RFLoop (p : PlanP) (w : World) (q m : Int) (nv : Value) (W : World) : Prop := ∃ (j : Nat) (nn : Int), nv = .int .i64 nn ∧ nn = j * q ∧ 0 ≤ nn ∧ j ≤ nn ∧ (j = 0 ∨ nn - q < m) ∧ RFAt p w j W
/-- Behind the literal. -/
def RFRow (p : PlanP) (w W : World) : Prop :=
  W.heap[w.heap.size]? = some (.cells p.cells 24 (0, 0)) ∧ W.heap[w.heap.size + 1]? = some (.cells LayP.zero.cells 71 (0, 0)) ∧ W.heap[w.heap.size + 2]? = some (.cells #[.int .i64 2, .int .i64 (2 + p.log), .int .i64 0, .int .i64 0, .int .i64 ((p.size - 19) / 12), .int .i64 ((p.size - 19 - 10) / 20), .int .i64 0, .int .i64 (p.rs * (p.size - 19))] 71 (0, 0)) ∧ Below w.heap.size w W
theorem rf_row (p : PlanP) (w : World) : RFRow p w ((((w.alloc (.cells p.cells 24)).alloc (.cells LayP.zero.cells 71)).alloc (.cells LayP.zero.cells 71)).setRow (w.heap.size + 1 + 1) #[.int .i64 2, .int .i64 (2 + p.log), .int .i64 0, .int .i64 0, .int .i64 ((p.size - 19) / 12), .int .i64 ((p.size - 19 - 10) / 20), .int .i64 0, .int .i64 (p.rs * (p.size - 19))]) := by
  have s1 : (w.alloc (.cells p.cells 24)).heap.size = w.heap.size + 1 := by simp
  have s2 : ((w.alloc (.cells p.cells 24)).alloc (.cells LayP.zero.cells 71)).heap.size = w.heap.size + 1 + 1 := by simp
  refine ⟨?_, ?_, setRow_heap _ _ _ _ _ _ (new2 _ _ _ _), ?_⟩
  · rw [setRow_other (by omega), Below.heap_alloc _ _ _ (by omega), Below.heap_alloc _ _ _ (by omega)]
    exact heap_alloc_new _ _
  · rw [setRow_other (by omega), Below.heap_alloc _ _ _ (by omega)]
    exact two_new _ _ _
  · exact below_setRow ((((Below.refl _ w).alloc (Nat.le_refl _) _).alloc (by omega) _).alloc (by omega) _) (by omega) _
/-- Behind the three stores. -/
theorem RFRow.filled {p : PlanP} {w W : World} (h : RFRow p w W) : RFAt p w 0 (((W.setCell ⟨w.heap.size + 2, 2, none⟩ (.int .i64 (2 + p.log + p.regions * p.rs))).setCell ⟨w.heap.size + 2, 3, none⟩ (.int .i64 (p.sectors - (2 + p.log + p.regions * p.rs)))).setCell ⟨w.heap.size + 2, 6, none⟩ (.int .i64 (1 + p.many))) := by
  obtain ⟨hP, hZ, hX, hB⟩ := h
  have k0 : ∀ {V : World} {i j : Nat} {u : Value} {o : Obj}, V.heap[i]? = some o → i ≠ w.heap.size + 2 → (V.setCell ⟨w.heap.size + 2, j, none⟩ u).heap[i]? = some o := fun hv hi => (Below.heap_setCell _ _ _ _ hi).trans hv
  refine ⟨k0 (k0 (k0 hP (by omega)) (by omega)) (by omega), k0 (k0 (k0 hZ (by omega)) (by omega)) (by omega), ?_, ((hB.setCell (p := ⟨w.heap.size + 2, 2, none⟩) (by show w.heap.size ≤ w.heap.size + 2; omega) _).setCell (p := ⟨w.heap.size + 2, 3, none⟩) (by show w.heap.size ≤ w.heap.size + 2; omega) _).setCell (p := ⟨w.heap.size + 2, 6, none⟩) (by show w.heap.size ≤ w.heap.size + 2; omega) _⟩
  rw [blk_set (blk_set (blk_set hX 2 _) 3 _) 6 _]
  have e : 1 + p.many + ((0 : Nat) : Int) = 1 + p.many := by omega
  rw [e]
  rfl
set_option maxRecDepth 100000 in
set_option maxHeartbeats 20000000 in
theorem refFit_yes (p : PlanP) (h : p.Alone) (w : World) : Calls Try.prog 28 #[.agg p.cells] w fun e w' => e = .returned (.tuple #[.agg p.fit.cells, .int .i64 p.err]) ∧ Below w.heap.size w w' := by
  have HA := Lib.hid h
  obtain ⟨d, hd⟩ : ∃ d : Nat, p.depth = d := ⟨p.depth.toNat, by have := h.depth; omega⟩
  have hd8 : (d : Int) ≤ 8 := by have := h.depth; omega
  have hmany : p.many = pw d := by unfold PlanP.many pw; rw [hd]; simp
  obtain ⟨⟨a1, a2⟩, ⟨b1, b2⟩, ⟨g1, g2⟩, ⟨d1, d2⟩, ⟨e1, e2⟩, _, ⟨m1, m2⟩⟩ := h
  have HD := Lib.hid hd
  have HMANY := Lib.hid hmany
  have hcd : p.cells = #[.int .i64 p.sectors, .int .i64 p.size, .int .i64 p.regions, .int .i64 p.rs, .int .i64 p.log, .int .i64 (d : Int), .int .i64 p.memory, .int .u64 (U p.seed)] := by unfold PlanP.cells; rw [hd]
  have HCD := Lib.hid hcd
  rw [hcd]
  clear hd hmany hcd
  go_enter Try.func28, Try.ntmps28
  go_upto_region 6 with (fail)
  go_loop [5, 6] (fun mv iv => ∃ k : Nat, k ≤ d ∧ mv = .int .i64 (pw k) ∧ iv = .int .i64 k) (fun _ iv => d - (intOf iv).toNat)
  case atStart => exact ⟨0, by omega, rfl, rfl⟩
  case round =>
    obtain ⟨k, hk, rfl, rfl⟩ := hrel
    by_cases hlt : k < d
    · have k1 : (k : Int) < d := by omega
      obtain ⟨q1, q2⟩ := pw_bound (k := k) (by omega)
      have HS := Lib.hid (pw_succ k)
      go_wp2
      refine ⟨⟨k + 1, by omega, by rw [← HS.out], by go_num⟩, by simp [intOf]; omega⟩
    · obtain rfl : k = d := by omega
      obtain ⟨q1, q2⟩ := pw_bound (k := k) (by omega)
      have hlb := lay_bound HA.out
      obtain ⟨⟨per1, per2⟩, _, ⟨tr1, tr2⟩, ⟨rr1, rr2⟩, ⟨pg1, pg2⟩, ⟨ro1, ro2⟩⟩ := hlb
      have hw1 : wrap64 (p.regions * p.rs) = p.regions * p.rs := IntWalk.wrap64_in _ ⟨by omega, by omega⟩
      have hw2 : wrap64 (p.rs * (p.size - 19)) = p.rs * (p.size - 19) := IntWalk.wrap64_in _ ⟨by omega, by omega⟩
      have HPER := Lib.hid (show p.lay.per = (p.size - 19) / 12 from rfl)
      clear per1 per2 tr1 tr2 pg1 pg2
      go_upto_region 10 with (refine wpList_store_row (o := ⟨none, _, _, _, _, _⟩) rfl 71 (.tmp 7) (.tmp 101) rfl (w.heap.size + 1 + 1) #[.int .i64 2, .int .i64 (2 + p.log), .int .i64 0, .int .i64 0, .int .i64 ((p.size - 19) / 12), .int .i64 ((p.size - 19 - 10) / 20), .int .i64 0, .int .i64 (p.rs * (p.size - 19))] rfl rfl 71 LayP.zero.cells (new2 _ _ _ _) ?_ rfl ?_ ?_; kernel_rfl; kernel_rfl)
      rw [← HCD.out]
      change (Code.region _ _ _).wp _ _ _ ((((w.alloc (.cells p.cells 24)).alloc (.cells LayP.zero.cells 71)).alloc (.cells LayP.zero.cells 71)).setRow (w.heap.size + 1 + 1) #[.int .i64 2, .int .i64 (2 + p.log), .int .i64 0, .int .i64 0, .int .i64 ((p.size - 19) / 12), .int .i64 ((p.size - 19 - 10) / 20), .int .i64 0, .int .i64 (p.rs * (p.size - 19))])
      have h1 := rf_row p w
      generalize (((w.alloc (.cells p.cells 24)).alloc (.cells LayP.zero.cells 71)).alloc (.cells LayP.zero.cells 71)).setRow (w.heap.size + 1 + 1) #[.int .i64 2, .int .i64 (2 + p.log), .int .i64 0, .int .i64 0, .int .i64 ((p.size - 19) / 12), .int .i64 ((p.size - 19 - 10) / 20), .int .i64 0, .int .i64 (p.rs * (p.size - 19))] = W1 at h1 ⊢
      have HR := Lib.hid h1
      obtain ⟨hP, hZ, hX, hB⟩ := h1
      have p0 : W1.cell? ⟨w.heap.size, 0, none⟩ = some (.int .i64 p.sectors) := blk_cell hP 0
      have p2 : W1.cell? ⟨w.heap.size, 2, none⟩ = some (.int .i64 p.regions) := blk_cell hP 2
      have p3 : W1.cell? ⟨w.heap.size, 3, none⟩ = some (.int .i64 p.rs) := blk_cell hP 3
      have x1 : W1.cell? ⟨w.heap.size + 2, 1, none⟩ = some (.int .i64 (2 + p.log)) := blk_cell hX 1
      have f2 := blk_frozen hX 2
      have x2 : W1.cell? ⟨w.heap.size + 2, 2, none⟩ = some (.int .i64 0) := blk_cell hX 2
      have x3 : W1.cell? ⟨w.heap.size + 2, 3, none⟩ = some (.int .i64 0) := blk_cell hX 3
      have x6 : W1.cell? ⟨w.heap.size + 2, 6, none⟩ = some (.int .i64 0) := blk_cell hX 6
      have f3 := blk_frozen hX 3
      have f6 := blk_frozen hX 6
      clear hP hZ hX hB
      go_upto_region 14 with (fail)
      have h3 := HR.out.filled
      rw [HMANY.out] at h3
      obtain ⟨W2, hW2⟩ : ∃ W2, (((W1.setCell ⟨w.heap.size + 2, 2, none⟩ (.int .i64 (2 + p.log + p.regions * p.rs))).setCell ⟨w.heap.size + 2, 3, none⟩ (.int .i64 (p.sectors - (2 + p.log + p.regions * p.rs)))).setCell ⟨w.heap.size + 2, 6, none⟩ (.int .i64 (1 + pw k))) = W2 := ⟨_, rfl⟩
      rw [hW2] at h3 ⊢
      have H3 := Lib.hid h3
      obtain ⟨hlq, _, ⟨tr1, tr2⟩, _, ⟨pg1, pg2⟩, _⟩ := lay_bound HA.out
      have HQQ : Hid (p.lay.per = (p.size - 19) / 12) := rfl
      clear h3 hW2 p0 p2 p3 x1 x2 x3 x6 f2 f3 f6 HR hw1 hw2 rr1 rr2 ro1 ro2 HPER a1 a2 b1 b2 g1 g2 d1 d2 e1 e2 m1 m2
      obtain ⟨q, hq⟩ : ∃ q, p.lay.per = q := ⟨_, rfl⟩
      rw [hq] at hlq
      obtain ⟨per1, per2⟩ := hlq
      have HQ := Lib.hid hq
      clear hq
      go_loopw [8] (fun nv wr => RFLoop p w q (pw k) nv wr) (fun nv _ => (pw k - intOf nv).toNat)
      case atStart => exact ⟨0, 0, rfl, by simp, by omega, by omega, .inl rfl, H3.out⟩
      case round =>
        obtain ⟨j, nn, rfl, hnn, hn0, hjn, hlt', hF⟩ := hrel
        by_cases hlt : nn < pw k
        · have x4 : wr.cell? ⟨w.heap.size + 2, 4, none⟩ = some (.int .i64 q) := by rw [← HQ.out]; exact blk_cell hF.2.2.1 4
          have x6 : wr.cell? ⟨w.heap.size + 2, 6, none⟩ = some (.int .i64 (1 + p.many + j)) := blk_cell hF.2.2.1 6
          have f6 := blk_frozen hF.2.2.1 6
          have HF := Lib.hid hF.step
          have hT : 0 ≤ 1 + p.many + j ∧ 1 + p.many + j ≤ 1000 := by rw [HMANY.out]; omega
          have HJ : Hid (nn + q = ((j + 1 : Nat) : Int) * q) := by unfold Hid; rw [hnn, Int.natCast_succ, Int.add_mul, Int.one_mul]
          generalize 1 + p.many + (j : Int) = T at x6 HF hT
          obtain ⟨hT1, hT2⟩ := hT
          clear hF hnn hlt'
          go_wp2
          go_roundw
          case rel => exact ⟨j + 1, nn + q, rfl, HJ.out, by omega, by omega, .inr (by omega), HF.out⟩
          case measure => simp [intOf]; omega
        · have hst := steps_up (m := pw k) (per := q) (j := j) (by omega) (by rw [← hnn]; omega) (by
            rcases hlt' with h | h
            · exact .inl h
            · refine .inr ?_
              rw [Int.sub_mul, ← hnn]; omega) q1
          have hlay : ({ p.lay with tree := 1 + p.many + j } : LayP) = p.lay := by
            have e : p.lay.tree = 1 + (p.many + p.lay.per - 1) / p.lay.per + p.many := rfl
            have e2 : 1 + p.many + (j : Int) = p.lay.tree := by rw [e, HQ.out, HMANY.out, hst]; omega
            rw [e2]
          obtain ⟨hP, hZ, hX, hB⟩ := hF
          rw [hlay] at hX
          have x3 : wr.cell? ⟨w.heap.size + 2, 3, none⟩ = some (.int .i64 p.lay.pages) := blk_cell hX 3
          have x4 : wr.cell? ⟨w.heap.size + 2, 4, none⟩ = some (.int .i64 q) := by rw [← HQ.out]; exact blk_cell hX 4
          have x6 : wr.cell? ⟨w.heap.size + 2, 6, none⟩ = some (.int .i64 p.lay.tree) := blk_cell hX 6
          have HZ := Lib.hid hZ
          have HX := Lib.hid hX
          have HB := Lib.hid hB
          obtain ⟨qq1, qq2⟩ := prod_bound (a := q) (b := q) (x := 41) (y := 41) (by omega) per2 (by omega) per2
          have hqq : wrap64 (q * q) = q * q := IntWalk.wrap64_in _ ⟨by omega, by omega⟩
          have HFI := Lib.hid (fits_iff p)
          rw [HQ.out, HMANY.out] at HFI
          have HFY := Lib.hid (fun (h : p.fits = true) => fit_yes h)
          have HFN := Lib.hid (fun (h : p.fits = false) => fit_no h)
          have HLC : Hid (p.lay.cells = p.lay.cells) := rfl
          obtain ⟨x, hx⟩ : ∃ x, p.lay = x := ⟨_, rfl⟩
          rw [hx] at x3 x6 HX HFI HFY tr1 tr2 pg1 pg2
          clear hP hZ hX hB hlay hst hnn hlt' hjn hn0 hx HLC
          by_cases hcase : pw k ≤ q * q
          · by_cases hcase2 : 3 * x.tree + 4 ≤ x.pages
            · obtain ⟨r1, r2⟩ := HFY.out (HFI.out.2 ⟨HA.out, ⟨q1, hcase⟩, hcase2, pg2⟩)
              have HR1 := Lib.hid r1
              have HR2 := Lib.hid r2
              clear r1 r2
              go_wp2_with (first
                | (refine wpList_load_row (o := ⟨some 148, _, _, _, _, _⟩) rfl 71 (.tmp 7) rfl (w.heap.size + 2) rfl 71 x.cells (0, 0) _ HX.out Try.underlying71 rfl (klr_sz x) ?_)
                | (refine wpList_store_row (o := ⟨none, _, _, _, _, _⟩) rfl 71 (.tmp 2) (.tmp 148) rfl (w.heap.size + 1) x.cells rfl rfl 71 LayP.zero.cells HZ.out (klr_sz _) rfl ?_ ?_; exact kl_one _))
              have hend : (wr.setRow (w.heap.size + 1) x.cells).heap[w.heap.size + 1]? = some (.cells x.cells 71 (0, 0)) := setRow_heap _ _ _ _ _ _ HZ.out
              try rw [Exit.noGoto_ret]
              first | (refine bodyPost_ret (v := .tuple #[.agg x.cells, .int .i64 0]) (refFit_res _ (w.heap.size + 1) _ _ _ hend rfl rfl) rfl ⟨by rw [HR1.out, HR2.out], ?_⟩; exact below_setRow HB.out (by omega) _) | trace_state
            · have hf : p.fits = false := by
                cases e : p.fits with
                | false => rfl
                | true => exact absurd (HFI.out.1 e).2.2.1 hcase2
              obtain ⟨r1, r2⟩ := HFN.out hf
              have HR1 := Lib.hid r1
              have HR2 := Lib.hid r2
              clear r1 r2 hf
              go_wp2_with (refine wpList_store_row (o := ⟨none, _, _, _, _, _⟩) rfl 71 (.tmp 2) (.tmp 147) rfl (w.heap.size + 1) LayP.zero.cells rfl rfl 71 LayP.zero.cells HZ.out (klr_sz _) rfl ?_ ?_; exact kl_one _)
              have hend : (wr.setRow (w.heap.size + 1) LayP.zero.cells).heap[w.heap.size + 1]? = some (.cells LayP.zero.cells 71 (0, 0)) := setRow_heap _ _ _ _ _ _ HZ.out
              try rw [Exit.noGoto_ret]
              first | (refine bodyPost_ret (v := .tuple #[.agg LayP.zero.cells, .int .i64 12]) (refFit_res _ (w.heap.size + 1) _ _ _ hend rfl rfl) rfl ⟨by rw [HR1.out, HR2.out], ?_⟩; exact below_setRow HB.out (by omega) _) | trace_state
          · have hf : p.fits = false := by
              cases e : p.fits with
              | false => rfl
              | true => exact absurd (HFI.out.1 e).2.1.2 hcase
            obtain ⟨r1, r2⟩ := HFN.out hf
            have HR1 := Lib.hid r1
            have HR2 := Lib.hid r2
            clear r1 r2 hf
            go_wp2_with (refine wpList_store_row (o := ⟨none, _, _, _, _, _⟩) rfl 71 (.tmp 2) (.tmp 147) rfl (w.heap.size + 1) LayP.zero.cells rfl rfl 71 LayP.zero.cells HZ.out (klr_sz _) rfl ?_ ?_; exact kl_one _)
            have hend : (wr.setRow (w.heap.size + 1) LayP.zero.cells).heap[w.heap.size + 1]? = some (.cells LayP.zero.cells 71 (0, 0)) := setRow_heap _ _ _ _ _ _ HZ.out
            try rw [Exit.noGoto_ret]
            first | (refine bodyPost_ret (v := .tuple #[.agg LayP.zero.cells, .int .i64 12]) (refFit_res _ (w.heap.size + 1) _ _ _ hend rfl rfl) rfl ⟨by rw [HR1.out, HR2.out], ?_⟩; exact below_setRow HB.out (by omega) _) | trace_state
end Go.Proofs.Ytfdipeaddofjaaa

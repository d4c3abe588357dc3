/-
  super.isOf, super.Pack.
  Conditions: none.
-/
import Derived.Test.YtfdipeaddofjaaaSup1
import Derived.Test.YtfdipeaddofjaaaPlan3
import Derived.Test.YtfdipeaddofjaaaPlanPack
import Derived.Test.YtfdipeaddofjaaaJW
import Derived.Outline
namespace Go.Proofs.Ytfdipeaddofjaaa
open Go.RowKit

theorem plan_len (p : PlanP) : p.bytes.length = 26 := row_len p 8 (by decide)
theorem plan_fit_yes {p : PlanP} (h : p.fits = true) : p.fit = p.lay ∧ p.err = 0 := by unfold PlanP.fit PlanP.err; rw [h]; exact ⟨rfl, rfl⟩
theorem plan_fit_no {p : PlanP} (h : p.fits = false) : p.fit = LayP.zero ∧ p.err = 12 := by unfold PlanP.fit PlanP.err; rw [h]; exact ⟨rfl, rfl⟩

theorem sectors_cell {W : World} {D : Nat} {s : Int} (h : W.cell? ⟨D, 0, none⟩ = some (.int .i64 s)) : Calls Try.prog 61 #[.pointer (some ⟨D, 0, none⟩)] W fun e w' => e = .returned (.int .i64 s) ∧ w' = W := by
  go_enter Try.func61, Try.ntmps61
  go_wp2
  go_ret
  exact ⟨rfl, rfl⟩
theorem size_cell {W : World} {D : Nat} {s : Int} (h : W.cell? ⟨D, 1, none⟩ = some (.int .i64 s)) : Calls Try.prog 62 #[.pointer (some ⟨D, 0, none⟩)] W fun e w' => e = .returned (.int .i64 s) ∧ w' = W := by
  go_enter Try.func62, Try.ntmps62
  go_wp2
  go_ret
  exact ⟨rfl, rfl⟩
theorem DevHere.cells {w W : World} {D : Nat} {d : Dev} (h : DevHere w D d W) : W.cell? ⟨D, 0, none⟩ = some (.int .i64 d.sectors) ∧ W.cell? ⟨D, 1, none⟩ = some (.int .i64 d.size) := by
  obtain ⟨O, ⟨F, P, L, lv, fm, pm, lm, h⟩, _⟩ := h
  exact ⟨blk_cell h.blk 0, blk_cell h.blk 1⟩
/-- Is a plan that of a device? -/
def PlanP.ofDev (p : PlanP) (d : Dev) : Bool := decide (p.sectors = d.sectors ∧ p.size = d.size)

set_option maxHeartbeats 1000000 in
theorem isOf_any {w W : World} {D : Nat} {d : Dev} (h : DevHere w D d W) (p : PlanP) : Calls Try.prog 37 #[.agg p.cells, .pointer (some ⟨D, 0, none⟩)] W fun e W' => e = .returned (.bool (p.ofDev d)) ∧ Below W.heap.size W W' := by
  have hX : (W.alloc (.cells p.cells 31)).heap[W.heap.size]? = some (.cells p.cells 31 (0, 0)) := heap_alloc_new _ _
  have HB := Lib.hid (show Below W.heap.size W (W.alloc (.cells p.cells 31)) from (Below.refl _ _).alloc (Nat.le_refl _) _)
  obtain ⟨W1, hW1⟩ : ∃ W1, W.alloc (.cells p.cells 31) = W1 := ⟨_, rfl⟩
  rw [hW1] at hX HB
  obtain ⟨c0, c1⟩ := (h.on HB.out).cells
  have d0 : W1.cell? ⟨W.heap.size, 0, none⟩ = some (.int .i64 p.sectors) := blk_cell hX 0
  have d1 : W1.cell? ⟨W.heap.size, 1, none⟩ = some (.int .i64 p.size) := blk_cell hX 1
  have HSE := Lib.hid (fun (V : World) (hv : V.cell? ⟨D, 0, none⟩ = some (.int .i64 d.sectors)) => sectors_cell hv)
  have HSI := Lib.hid (fun (V : World) (hv : V.cell? ⟨D, 1, none⟩ = some (.int .i64 d.size)) => size_cell hv)
  clear hX h
  by_cases h1 : p.sectors = d.sectors
  · by_cases h2 : p.size = d.size
    · have HO : Hid (p.ofDev d = true) := by unfold Hid PlanP.ofDev; simp [h1, h2]
      have e1 : (p.sectors == (d.sectors : Int)) = true := by simpa using h1
      have e2 : (p.size == (d.size : Int)) = true := by simpa using h2
      clear h1 h2
      go_enter Try.func37, Try.ntmps37
      go_upto_region 1 with (fail)
      clear hW1
      go_quiet ((first | (go_at_call 61; exact Calls.quiet_of_same (HSE.out _ c0)) | (go_at_call 62; exact Calls.quiet_of_same (HSI.out _ c1))))
      go_wp2
      go_ret
      exact ⟨by rw [HO.out]; rfl, ((Moves.of_below (S := fun _ => False) HB.out).drewN _).below (fun _ h => h.elim) (Nat.le_refl _)⟩
    · have HO : Hid (p.ofDev d = false) := by unfold Hid PlanP.ofDev; simp [h2]
      have e1 : (p.sectors == (d.sectors : Int)) = true := by simpa using h1
      have e2 : (p.size == (d.size : Int)) = false := by simpa using h2
      clear h1 h2
      go_enter Try.func37, Try.ntmps37
      go_upto_region 1 with (fail)
      clear hW1
      go_quiet ((first | (go_at_call 61; exact Calls.quiet_of_same (HSE.out _ c0)) | (go_at_call 62; exact Calls.quiet_of_same (HSI.out _ c1))))
      go_wp2
      go_ret
      exact ⟨by rw [HO.out]; rfl, ((Moves.of_below (S := fun _ => False) HB.out).drewN _).below (fun _ h => h.elim) (Nat.le_refl _)⟩
  · have HO : Hid (p.ofDev d = false) := by unfold Hid PlanP.ofDev; simp [h1]
    have e1 : (p.sectors == (d.sectors : Int)) = false := by simpa using h1
    clear h1
    go_enter Try.func37, Try.ntmps37
    go_upto_region 1 with (fail)
    clear hW1
    go_quiet ((first | (go_at_call 61; exact Calls.quiet_of_same (HSE.out _ c0)) | (go_at_call 62; exact Calls.quiet_of_same (HSI.out _ c1))))
    go_wp2
    go_ret
    exact ⟨by rw [HO.out]; rfl, ((Moves.of_below (S := fun _ => False) HB.out).drewN _).below (fun _ h => h.elim) (Nat.le_refl _)⟩

/-- A head's load. -/
def HeadP.bytes (h : HeadP) : List (BitVec 8) := [] ++ h.plan.bytes ++ leI 4 h.page ++ leI 8 h.stamp ++ leI 1 h.depth ++ leI 8 h.log ++ leI 8 h.region ++ leI 8 h.time
theorem HeadP.bytes_len (h : HeadP) : h.bytes.length = 63 := by simp [HeadP.bytes, leI_len, plan_len]
def HeadP.err (h : HeadP) : Int := if h.plan.fits then if h.Ok then 0 else 1 else 12
def HeadP.load (h : HeadP) : List (BitVec 8) := if h.err = 0 then h.bytes else []
/-- The numbers are ints. -/
structure HeadP.Wf (h : HeadP) : Prop where
  gen : h.gen ≤ 9223372036854775807
  stamp : h.stamp ≤ 9223372036854775807
  log : h.log ≤ 9223372036854775807
  region : h.region ≤ 9223372036854775807
/-- What Pack leaves. -/
def SPacked (bs : List (BitVec 8)) (er : Int) (w : World) (e : Ending) (w' : World) : Prop := ∃ u, e = .returned (.tuple #[u, .int .i64 er]) ∧ w'.ownsRow w.heap.size 5 1 u bs.length (cellsOf bs) ∧ Below w.heap.size w w'
theorem head_all {w W : World} {g : Nat} {h : HeadP} {t : TypeId} (hx : w.heap[g]? = some (.cells h.cells t (0, 0))) (hb : Below w.heap.size w W) :
    W.cell? ⟨g, 0, none⟩ = some (.int .i64 h.plan.sectors) ∧ W.cell? ⟨g, 1, none⟩ = some (.int .i64 h.plan.size) ∧ W.cell? ⟨g, 2, none⟩ = some (.int .i64 h.plan.regions) ∧ W.cell? ⟨g, 3, none⟩ = some (.int .i64 h.plan.rs) ∧ W.cell? ⟨g, 4, none⟩ = some (.int .i64 h.plan.log) ∧ W.cell? ⟨g, 5, none⟩ = some (.int .i64 h.plan.depth) ∧ W.cell? ⟨g, 6, none⟩ = some (.int .i64 h.plan.memory) ∧ W.cell? ⟨g, 7, none⟩ = some (.int .u64 (U h.plan.seed)) ∧ W.cell? ⟨g, 8, none⟩ = some (.int .i64 h.gen) ∧ W.cell? ⟨g, 9, none⟩ = some (.int .i64 h.page) ∧ W.cell? ⟨g, 10, none⟩ = some (.int .i64 h.stamp) ∧ W.cell? ⟨g, 11, none⟩ = some (.int .i64 h.depth) ∧ W.cell? ⟨g, 12, none⟩ = some (.int .i64 h.log) ∧ W.cell? ⟨g, 13, none⟩ = some (.int .i64 h.region) ∧ W.cell? ⟨g, 14, none⟩ = some (.int .i64 h.time) := by
  have hX := (hb.block _ (blk_lt hx)).trans hx
  exact ⟨blk_cell hX 0, blk_cell hX 1, blk_cell hX 2, blk_cell hX 3, blk_cell hX 4, blk_cell hX 5, blk_cell hX 6, blk_cell hX 7, blk_cell hX 8, blk_cell hX 9, blk_cell hX 10, blk_cell hX 11, blk_cell hX 12, blk_cell hX 13, blk_cell hX 14⟩
theorem lay_put (w : World) (x : LayP) : Below w.heap.size w ((w.alloc (.cells LayP.zero.cells 60)).setRow w.heap.size x.cells) := below_setRow ((Below.refl _ _).alloc (Nat.le_refl _) _) (Nat.le_refl _) _

set_option maxRecDepth 100000 in
set_option maxHeartbeats 8000000 in
theorem spack_any (h : HeadP) (hw : h.Wf) (w : World) : Calls Try.prog 5 #[.agg h.cells] w (SPacked h.load h.err w) := by
  have hX : (w.alloc (.cells h.cells 35)).heap[w.heap.size]? = some (.cells h.cells 35 (0, 0)) := heap_alloc_new _ _
  have HB := Lib.hid (show Below w.heap.size w (w.alloc (.cells h.cells 35)) from (Below.refl _ _).alloc (Nat.le_refl _) _)
  obtain ⟨w0, hw0⟩ : ∃ w0, w.alloc (.cells h.cells 35) = w0 := ⟨_, rfl⟩
  rw [hw0] at hX HB
  obtain ⟨X, hXe⟩ : ∃ X, w.heap.size = X := ⟨_, rfl⟩
  have HXE := Lib.hid hXe
  rw [hXe] at hX
  have HX := Lib.hid hX
  obtain ⟨d0, d1, d2, d3, d4, d5, d6, d7, d8, d9, d10, d11, d12, d13, d14⟩ := head_all hX (Below.refl _ _)
  have HF : Hid (∀ W, Calls Try.prog 20 #[.agg #[.int .i64 h.plan.sectors, .int .i64 h.plan.size, .int .i64 h.plan.regions, .int .i64 h.plan.rs, .int .i64 h.plan.log, .int .i64 h.plan.depth, .int .i64 h.plan.memory, .int .u64 (U h.plan.seed)]] W fun e w' => e = .returned (.tuple #[.agg h.plan.fit.cells, .int .i64 h.plan.err]) ∧ Below W.heap.size W w') := fun W => fit_any h.plan W
  have HIS : Hid (∀ W, Calls Try.prog 21 #[.agg #[.int .i64 h.plan.sectors, .int .i64 h.plan.size, .int .i64 h.plan.regions, .int .i64 h.plan.rs, .int .i64 h.plan.log, .int .i64 h.plan.depth, .int .i64 h.plan.memory, .int .u64 (U h.plan.seed), .int .i64 h.gen, .int .i64 h.page, .int .i64 h.stamp, .int .i64 h.depth, .int .i64 h.log, .int .i64 h.region, .int .i64 h.time]] W (HeadTold h W)) := fun W => isHead_any h W
  have HPK : Hid (∀ W, Calls Try.prog 24 #[.agg #[.int .i64 h.plan.sectors, .int .i64 h.plan.size, .int .i64 h.plan.regions, .int .i64 h.plan.rs, .int .i64 h.plan.log, .int .i64 h.plan.depth, .int .i64 h.plan.memory, .int .u64 (U h.plan.seed)]] W fun e w' => ∃ u, e = .returned u ∧ w'.ownsRow W.heap.size 5 1 u h.plan.bytes.length (cellsOf h.plan.bytes) ∧ Below W.heap.size W w') := fun W => pack_any h.plan W
  have hno : ∀ er : Int, h.err = er → er ≠ 0 → ∀ W, Below w0.heap.size w0 W → SPacked h.load h.err w (.returned (.tuple #[.slice none 0 0, .int .i64 er])) W := by
    intro er h1 h2 W hW
    refine ⟨_, by rw [h1], ?_, HB.out.trans (hW.mono HB.out.size)⟩
    unfold HeadP.load
    rw [h1, if_neg h2]
    exact World.ownsRow_nil _ _ _ _
  have HNO := Lib.hid hno
  clear hno hX hXe
  cases hfit : h.plan.fits with
  | false =>
    have HE : Hid (h.err = 12) := by unfold Hid HeadP.err; rw [hfit]; rfl
    rw [(plan_fit_no hfit).1, (plan_fit_no hfit).2] at HF
    clear hfit d8 d9 d10 d11 d12 d13 d14
    go_enter Try.func5, Try.ntmps5
    go_upto_region 1 with (fail)
    rw [HXE.out]
    clear hw0
    go_upto_region 2 with (first
      | (go_at_call 20; (with_reducible refine (HF.out _).mono ?_); rintro e w2 ⟨rfl, hb2⟩; have HB2 := Lib.hid hb2; clear hb2)
      | (refine wpList_store_row (o := ⟨none, _, _, _, _, _⟩) rfl 60 (.tmp 4) (.tmp 11) rfl w2.heap.size LayP.zero.cells rfl rfl 60 LayP.zero.cells (heap_alloc_new _ _) (kl_sz _) rfl ?_ ?_; exact kl_one _))
    change (Code.region _ _ _).wp _ _ _ ((w2.alloc (.cells LayP.zero.cells 60)).setRow w2.heap.size LayP.zero.cells)
    have hb3 := HB2.out.trans ((lay_put w2 LayP.zero).mono HB2.out.size)
    generalize (w2.alloc (.cells LayP.zero.cells 60)).setRow w2.heap.size LayP.zero.cells = V at hb3 ⊢
    have HB3 := Lib.hid hb3
    clear hb3
    go_wp2
    go_ret2
    exact HNO.out 12 HE.out (by decide) _ HB3.out
  | true =>
    rw [(plan_fit_yes hfit).1, (plan_fit_yes hfit).2] at HF
    by_cases hok : h.Ok
    · have HE : Hid (h.err = 0) := by unfold Hid HeadP.err; rw [hfit, if_pos hok]; rfl
      have hdt : decide h.Ok = true := by simpa using hok
      have HIT : Hid (∀ W e W', HeadTold h W e W' → e = .returned (.bool true) ∧ Below W.heap.size W W') := fun W e W' ht => by
        unfold HeadTold at ht; rwa [hdt] at ht
      obtain ⟨o1, o2, o3, o4, o5, o6, o7, o8, o9, o10⟩ := hok
      have s1 := hw.stamp
      have s2 := hw.log
      have s3 := hw.region
      have HNW := Lib.hid (newWriter_any 63)
      rw [show max (63 : Int) 0 = 63 from rfl] at HNW
      have hdep : h.depth ≤ 255 := by
        have := (alone_iff h.plan).1 (by
          unfold PlanP.fits at hfit
          rw [Bool.and_eq_true] at hfit
          exact hfit.1)
        have := this.depth
        omega
      have HC := Lib.hid (fun W (hb : Below w0.heap.size w0 W) => head_all HX.out hb)
      have HPL := Lib.hid (plan_len h.plan)
      have x12 := o7
      have p0 : (0 : Int) ≤ h.log := by omega
      clear hfit hdt hw d8 d9 d10 d11 d12 d13 d14 o6
      go_enter Try.func5, Try.ntmps5
      go_upto_region 1 with (fail)
      rw [HXE.out]
      clear hw0
      go_upto_region 2 with (first
        | (go_at_call 20; (with_reducible refine (HF.out _).mono ?_); rintro e w2 ⟨rfl, hb2⟩; have HB2 := Lib.hid hb2; clear hb2)
        | (refine wpList_store_row (o := ⟨none, _, _, _, _, _⟩) rfl 60 (.tmp 4) (.tmp 11) rfl w2.heap.size h.plan.lay.cells rfl rfl 60 LayP.zero.cells (heap_alloc_new _ _) (kl_sz _) rfl ?_ ?_; exact kl_one _))
      change (Code.region _ _ _).wp _ _ _ ((w2.alloc (.cells LayP.zero.cells 60)).setRow w2.heap.size h.plan.lay.cells)
      have hb3 := HB2.out.trans ((lay_put w2 h.plan.lay).mono HB2.out.size)
      generalize (w2.alloc (.cells LayP.zero.cells 60)).setRow w2.heap.size h.plan.lay.cells = V at hb3 ⊢
      have HB3 := Lib.hid hb3
      clear d0 d1 d2 d3 d4 d5 d6 d7
      obtain ⟨d0, d1, d2, d3, d4, d5, d6, d7, d8, d9, d10, d11, d12, d13, d14⟩ := HC.out _ hb3
      clear hb3
      go_upto_region 7 with (first
        | (go_at_call 21; (with_reducible refine (HIS.out _).mono ?_); rintro e w4 ht; obtain ⟨rfl, hb4⟩ := HIT.out _ _ _ ht; have HB4 := Lib.hid (HB3.out.trans (hb4.mono HB3.out.size)); clear ht hb4)
        | (go_at_call 22; (with_reducible refine (HNW.out _).mono ?_); rintro e w5 ⟨rfl, hw5⟩; (have hn := WrAt.new w4 63 (by decide); rw [← hw5] at hn; have HW1 := Lib.hid hn; clear hn hw5)))
      have HS := HB4.out.size
      clear d0 d1 d2 d3 d4 d5 d6 d7 d8 d9 d10 d11 d12 d13 d14
      obtain ⟨d0, d1, d2, d3, d4, d5, d6, d7, _⟩ := HC.out _ (HB4.out.trans (HW1.out.size.mono HS))
      go_upto_region 8 with (first
        | (go_at_call 24; (with_reducible refine (HPK.out _).mono ?_); rintro e w6 ⟨u, rfl, hu, hb6⟩; have HU := Lib.hid hu; have HB6 := Lib.hid hb6; clear hu hb6)
        | (go_at_call 23; (with_reducible refine ((HW1.out.behind HB6.out).raw _ _ (BytesAt.of_owns HU.out) (by rw [HPL.out]; decide) (by decide)).mono ?_); rintro e w7 ⟨rfl, hn⟩; have HW2 := Lib.hid hn; clear hn))
      clear d0 d1 d2 d3 d4 d5 d6 d7
      obtain ⟨_, _, _, _, _, _, _, _, _, d9, d10, d11, d12, d13, d14⟩ := HC.out _ (HB4.out.trans (HW2.out.size.mono HS))
      go_wp2_with (first
        | (go_at_call 26; (with_reducible refine (HW8.out.take (by decide)).mono ?_); rintro e w2 ⟨u2, rfl, hu, hb, _⟩; have HU2 := Lib.hid hu; have HBB := Lib.hid (HW8.out.size.trans (hb.mono HW8.out.size.size)); clear hu hb)
        | (go_at_call 25; (with_reducible refine (HW7.out.numI h.time 8 o9 (by omega) rfl (by simp [leI_len, plan_len]) (by decide)).mono ?_); rintro e w2 ⟨rfl, hn⟩; obtain ⟨_, _, _, _, _, _, _, _, _, d9, d10, d11, d12, d13, d14⟩ := HC.out _ (HB4.out.trans (hn.size.mono HS)); have HW8 := Lib.hid hn; clear hn)
        | (go_at_call 25; (with_reducible refine (HW6.out.numI h.region 8 o8 (by omega) rfl (by simp [leI_len, plan_len]) (by decide)).mono ?_); rintro e w2 ⟨rfl, hn⟩; obtain ⟨_, _, _, _, _, _, _, _, _, d9, d10, d11, d12, d13, d14⟩ := HC.out _ (HB4.out.trans (hn.size.mono HS)); have HW7 := Lib.hid hn; clear hn)
        | (go_at_call 25; (with_reducible refine (HW5.out.numI h.log 8 p0 (by omega) rfl (by simp [leI_len, plan_len]) (by decide)).mono ?_); rintro e w2 ⟨rfl, hn⟩; obtain ⟨_, _, _, _, _, _, _, _, _, d9, d10, d11, d12, d13, d14⟩ := HC.out _ (HB4.out.trans (hn.size.mono HS)); have HW6 := Lib.hid hn; clear hn)
        | (go_at_call 25; (with_reducible refine (HW4.out.numI h.depth 1 o5 (by omega) rfl (by simp [leI_len, plan_len]) (by decide)).mono ?_); rintro e w2 ⟨rfl, hn⟩; obtain ⟨_, _, _, _, _, _, _, _, _, d9, d10, d11, d12, d13, d14⟩ := HC.out _ (HB4.out.trans (hn.size.mono HS)); have HW5 := Lib.hid hn; clear hn)
        | (go_at_call 25; (with_reducible refine (HW3.out.numI h.stamp 8 o4 (by omega) rfl (by simp [leI_len, plan_len]) (by decide)).mono ?_); rintro e w2 ⟨rfl, hn⟩; obtain ⟨_, _, _, _, _, _, _, _, _, d9, d10, d11, d12, d13, d14⟩ := HC.out _ (HB4.out.trans (hn.size.mono HS)); have HW4 := Lib.hid hn; clear hn)
        | (go_at_call 25; (with_reducible refine (HW2.out.numI h.page 4 o2 (by omega) rfl (by simp [plan_len]) (by decide)).mono ?_); rintro e w2 ⟨rfl, hn⟩; obtain ⟨_, _, _, _, _, _, _, _, _, d9, d10, d11, d12, d13, d14⟩ := HC.out _ (HB4.out.trans (hn.size.mono HS)); have HW3 := Lib.hid hn; clear hn))
      go_ret2
      have e1 : h.load = h.bytes := by unfold HeadP.load; rw [HE.out]; rfl
      rw [HE.out, e1]
      exact ⟨_, rfl, base_own HU2.out (Nat.le_trans (HB.out.trans (HB4.out.mono HB.out.size)).size HW8.out.size.size), (HB.out.trans (HB4.out.mono HB.out.size)).trans (HBB.out.mono (HB.out.trans (HB4.out.mono HB.out.size)).size)⟩
    · have HE : Hid (h.err = 1) := by unfold Hid HeadP.err; rw [hfit, if_neg hok]; rfl
      have hdt : decide h.Ok = false := by simpa using hok
      have HIT : Hid (∀ W e W', HeadTold h W e W' → e = .returned (.bool false) ∧ Below W.heap.size W W') := fun W e W' ht => by
        unfold HeadTold at ht; rwa [hdt] at ht
      have HC := Lib.hid (fun W (hb : Below w0.heap.size w0 W) => head_all HX.out hb)
      clear hfit hdt hok d8 d9 d10 d11 d12 d13 d14
      go_enter Try.func5, Try.ntmps5
      go_upto_region 1 with (fail)
      rw [HXE.out]
      clear hw0
      go_upto_region 2 with (first
        | (go_at_call 20; (with_reducible refine (HF.out _).mono ?_); rintro e w2 ⟨rfl, hb2⟩; have HB2 := Lib.hid hb2; clear hb2)
        | (refine wpList_store_row (o := ⟨none, _, _, _, _, _⟩) rfl 60 (.tmp 4) (.tmp 11) rfl w2.heap.size h.plan.lay.cells rfl rfl 60 LayP.zero.cells (heap_alloc_new _ _) (kl_sz _) rfl ?_ ?_; exact kl_one _))
      change (Code.region _ _ _).wp _ _ _ ((w2.alloc (.cells LayP.zero.cells 60)).setRow w2.heap.size h.plan.lay.cells)
      have hb3 := HB2.out.trans ((lay_put w2 h.plan.lay).mono HB2.out.size)
      generalize (w2.alloc (.cells LayP.zero.cells 60)).setRow w2.heap.size h.plan.lay.cells = V at hb3 ⊢
      have HB3 := Lib.hid hb3
      clear d0 d1 d2 d3 d4 d5 d6 d7
      obtain ⟨d0, d1, d2, d3, d4, d5, d6, d7, d8, d9, d10, d11, d12, d13, d14⟩ := HC.out _ hb3
      clear hb3
      go_wp2_with (go_at_call 21; (with_reducible refine (HIS.out _).mono ?_); rintro e w4 ht; obtain ⟨rfl, hb4⟩ := HIT.out _ _ _ ht; have HB4 := Lib.hid (HB3.out.trans (hb4.mono HB3.out.size)); clear ht hb4)
      go_ret2
      exact HNO.out 1 HE.out (by decide) _ HB4.out

end Go.Proofs.Ytfdipeaddofjaaa

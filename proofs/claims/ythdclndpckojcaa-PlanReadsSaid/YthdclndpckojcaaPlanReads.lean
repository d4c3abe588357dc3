/-
  PlanReads: which plan any bytes are.
  Conditions: none.
-/
import Derived.Test.YthdclndpckojcaaPlanBack
import Derived.Test.YthdclndpckojcaaRefUnpackQ
import Derived.Test.YthdclndpckojcaaRefFitYes
import Derived.Test.YthdclndpckojcaaRefFitNot
import Derived.Test.YthdclndpckojcaaOpenB
namespace Go.Proofs.Ythdclndpckojcaa
open Go.ChangeShapes Go.WideShapes Go.ChangeAt Go.RowKit

theorem refFits : RefFits := fun p w => by
  by_cases h : p.Alone
  · exact refFit_yes p h w
  · have hf : p.fits = false := by
      cases hf : p.fits with
      | false => rfl
      | true => exact absurd ((fits_iff p).1 hf).1 h
    obtain ⟨e1, e2⟩ := fit_no hf
    rw [e1, e2]
    exact refFit_not p h w
/-- Both answer the same of any bytes. -/
theorem both_unpack (bs : List (BitVec 8)) (hl : bs.length ≤ 100) : ∃ (q : PlanP) (er : Int), (∀ (u : Value) (W : World), BytesAt W.heap.size W u bs → Calls Try.prog 11 #[u] W fun e w' => e = .returned (.tuple #[.agg q.cells, .int .i64 er]) ∧ Below W.heap.size W w') ∧
    (∀ (n : Nat) (u : Value) (W : World), BytesAt n W u bs → n ≤ W.heap.size → Calls Try.prog 12 #[u] W fun e w' => e = .returned (.tuple #[.agg q.cells, .int .i64 er]) ∧ Below W.heap.size W w') := by
  by_cases h : bs.length = 26
  · exact ⟨(PlanP.ofBytes bs).unp, (PlanP.ofBytes bs).err, fun u W hu => unpack_any u bs h W hu, fun n u W hu hn => refUnpack_q refFits (PlanP.ofBytes bs) u bs rfl h n W hu hn⟩
  · exact ⟨PlanP.zero, 5, fun u W hu => unpack_other u bs h hl _ W hu, fun n u W hu _ => refUnpack_other u bs h hl n W hu⟩
section
attribute [-go_sem] run_eql_struct run_eqGuard_agg
attribute [local go_sem] plan_eql plan_guard
set_option maxRecDepth 100000 in
set_option maxHeartbeats 4000000 in
theorem planReads_walk (v : Value) (bs : List (BitVec 8)) (w : World) (hv : BytesAt w.heap.size w v bs) : Calls Try.prog 4 #[v] w (Good w) := by
  have HV := Lib.hid hv
  obtain ⟨i0, hi, hz0, hz1, hz2⟩ := info_parts Try.infoU8
  obtain ⟨a, cap, rfl, hcap, _⟩ := id hv
  clear hv
  have he0 := own_empty w w.heap.size (Nat.le_refl _)
  have hb0 : Below w.heap.size w (w.alloc (.cells #[] 5)) := (Below.refl _ _).alloc (Nat.le_refl _) _
  have HE0 := Lib.hid he0
  have HB0 := Lib.hid hb0
  clear he0 hb0
  by_cases hl : bs.length ≤ 100
  · have hl1 : (bs.length : Int) ≤ 100 := by omega
    have HLEN := Lib.hid hl
    obtain ⟨q, er, hU, hR⟩ := both_unpack bs hl
    have HU := Lib.hid hU
    have HR := Lib.hid (fun W (hW : Below w.heap.size w W) => hR w.heap.size _ W (HV.out.below hW) hW.size)
    clear hU hR
    go_enter Try.func4, Try.ntmps4
    go_upto_region 4 with (first
      | (at_builtin; (refine wpList_append_bytes rfl (.tmp 11) (.tmp 12) rfl rfl w.heap.size i0 hi hz0 hz1 hz2 _ rfl [] HE0.out _ rfl _ _ (HV.out.below HB0.out) (by have := HLEN.out; simp; omega) HB0.out.size ?_); intro v1 w1 n1 hn hown hg _; have HB1 := Lib.hid (HB0.out.grown hg HB0.out.size (fun k e => (HE0.out.lt k e).1)); have HU1 := Lib.hid (HU.out _ _ (BytesAt.of_owns (by rw [hn.out] at hown; simpa using hown))); clear hn hown hg)
      | (go_at_call 11; (with_reducible refine HU1.out.mono ?_); rintro e w3 ⟨rfl, hbel⟩; have HB3 := Lib.hid hbel; clear hbel)
      | (refine wpList_store_row (o := ⟨none, _, _, _, _, _⟩) rfl 30 (.tmp 3) (.tmp 15) rfl w3.heap.size q.cells rfl rfl 30 PlanP.zero.cells (heap_alloc_new _ _) (kp_sz _) rfl ?_ ?_; exact kp_one _))
    have hbw : Below w3.heap.size w3 ((w3.alloc (.cells PlanP.zero.cells 30)).setRow w3.heap.size q.cells) := below_setRow ((Below.refl _ _).alloc (Nat.le_refl _) _) (Nat.le_refl _) _
    have hP2 : ((w3.alloc (.cells PlanP.zero.cells 30)).setRow w3.heap.size q.cells).heap[w3.heap.size]? = some (.cells q.cells 30 (0, 0)) := setRow_heap _ _ _ _ _ _ (heap_alloc_new _ _)
    change (Code.region _ _ _).wp _ _ _ ((w3.alloc (.cells PlanP.zero.cells 30)).setRow w3.heap.size q.cells)
    generalize (w3.alloc (.cells PlanP.zero.cells 30)).setRow w3.heap.size q.cells = w4 at hbw hP2 ⊢
    have HB4 := Lib.hid (HB1.out.trans ((HB3.out.trans (hbw.mono HB3.out.size)).mono HB1.out.size))
    have HP4 := Lib.hid hP2
    obtain ⟨P, hP⟩ : ∃ P, w3.heap.size = P := ⟨_, rfl⟩
    rw [hP] at HP4 ⊢
    have HR4 := Lib.hid (HR.out _ HB4.out)
    clear hbw hP2 hP HB0 HE0 HU HR HB3 HB1 HU1
    go_upto_region 5 with (first
      | (go_at_call 12; (with_reducible refine HR4.out.mono ?_); rintro e w5 ⟨rfl, hbel⟩; have HB5 := Lib.hid hbel; clear hbel)
      | (refine wpList_store_row (o := ⟨none, _, _, _, _, _⟩) rfl 24 (.tmp 5) (.tmp 20) rfl w5.heap.size q.cells rfl rfl 24 PlanP.zero.cells (heap_alloc_new _ _) (kr_sz _) rfl ?_ ?_; exact kp_one _))
    have hbw : Below w5.heap.size w5 ((w5.alloc (.cells PlanP.zero.cells 24)).setRow w5.heap.size q.cells) := below_setRow ((Below.refl _ _).alloc (Nat.le_refl _) _) (Nat.le_refl _) _
    have hP2 : ((w5.alloc (.cells PlanP.zero.cells 24)).setRow w5.heap.size q.cells).heap[w5.heap.size]? = some (.cells q.cells 24 (0, 0)) := setRow_heap _ _ _ _ _ _ (heap_alloc_new _ _)
    change (Code.region _ _ _).wp _ _ _ ((w5.alloc (.cells PlanP.zero.cells 24)).setRow w5.heap.size q.cells)
    generalize (w5.alloc (.cells PlanP.zero.cells 24)).setRow w5.heap.size q.cells = V2 at hbw hP2 ⊢
    have hb46 : Below w4.heap.size w4 V2 := HB5.out.trans (hbw.mono HB5.out.size)
    have HQ2 := Lib.hid ((hb46.block _ (blk_lt HP4.out)).trans HP4.out)
    have HP2 := Lib.hid hP2
    have HB6 := Lib.hid (HB4.out.trans (hb46.mono HB4.out.size))
    obtain ⟨Q, hQ⟩ : ∃ Q, w5.heap.size = Q := ⟨_, rfl⟩
    rw [hQ] at HP2 ⊢
    have hee : (er == er) = true := by simp
    clear hbw hP2 hQ hb46 HB4 HP4 HB5 HR4
    have HS : Hid (∀ W, Below V2.heap.size V2 W → W.cell? ⟨P, 0, none⟩ = some (.int .i64 q.sectors) ∧ W.cell? ⟨P, 1, none⟩ = some (.int .i64 q.size) ∧ W.cell? ⟨P, 2, none⟩ = some (.int .i64 q.regions) ∧ W.cell? ⟨P, 3, none⟩ = some (.int .i64 q.rs) ∧ W.cell? ⟨P, 4, none⟩ = some (.int .i64 q.log) ∧ W.cell? ⟨P, 5, none⟩ = some (.int .i64 q.depth) ∧ W.cell? ⟨P, 6, none⟩ = some (.int .i64 q.memory) ∧ W.cell? ⟨P, 7, none⟩ = some (.int .u64 (U q.seed)) ∧ W.cell? ⟨Q, 0, none⟩ = some (.int .i64 q.sectors) ∧ W.cell? ⟨Q, 1, none⟩ = some (.int .i64 q.size) ∧ W.cell? ⟨Q, 2, none⟩ = some (.int .i64 q.regions) ∧ W.cell? ⟨Q, 3, none⟩ = some (.int .i64 q.rs) ∧ W.cell? ⟨Q, 4, none⟩ = some (.int .i64 q.log) ∧ W.cell? ⟨Q, 5, none⟩ = some (.int .i64 q.depth) ∧ W.cell? ⟨Q, 6, none⟩ = some (.int .i64 q.memory) ∧ W.cell? ⟨Q, 7, none⟩ = some (.int .u64 (U q.seed))) := fun W hW => by
      have h1 := (hW.block _ (blk_lt HQ2.out)).trans HQ2.out
      have h2 := (hW.block _ (blk_lt HP2.out)).trans HP2.out
      exact ⟨blk_cell (h1) 0, blk_cell (h1) 1, blk_cell (h1) 2, blk_cell (h1) 3, blk_cell (h1) 4, blk_cell (h1) 5, blk_cell (h1) 6, blk_cell (h1) 7, blk_cell (h2) 0, blk_cell (h2) 1, blk_cell (h2) 2, blk_cell (h2) 3, blk_cell (h2) 4, blk_cell (h2) 5, blk_cell (h2) 6, blk_cell (h2) 7⟩
    have HOF := Lib.hid (of06 q)
    have HC : Hid (q.cells = #[.int .i64 q.sectors, .int .i64 q.size, .int .i64 q.regions, .int .i64 q.rs, .int .i64 q.log, .int .i64 q.depth, .int .i64 q.memory, .int .u64 (U q.seed)]) := rfl
    rw [HC.out] at HOF
    have hBc := Lib.hid ((Below.refl V2.heap.size V2).drew)
    clear HP2 HQ2 HC
    go_region_held3 (fun W => W.cell? ⟨P, 0, none⟩ = some (.int .i64 q.sectors) ∧ W.cell? ⟨P, 1, none⟩ = some (.int .i64 q.size) ∧ W.cell? ⟨P, 2, none⟩ = some (.int .i64 q.regions) ∧ W.cell? ⟨P, 3, none⟩ = some (.int .i64 q.rs) ∧ W.cell? ⟨P, 4, none⟩ = some (.int .i64 q.log) ∧ W.cell? ⟨P, 5, none⟩ = some (.int .i64 q.depth) ∧ W.cell? ⟨P, 6, none⟩ = some (.int .i64 q.memory) ∧ W.cell? ⟨P, 7, none⟩ = some (.int .u64 (U q.seed)) ∧ W.cell? ⟨Q, 0, none⟩ = some (.int .i64 q.sectors) ∧ W.cell? ⟨Q, 1, none⟩ = some (.int .i64 q.size) ∧ W.cell? ⟨Q, 2, none⟩ = some (.int .i64 q.regions) ∧ W.cell? ⟨Q, 3, none⟩ = some (.int .i64 q.rs) ∧ W.cell? ⟨Q, 4, none⟩ = some (.int .i64 q.log) ∧ W.cell? ⟨Q, 5, none⟩ = some (.int .i64 q.depth) ∧ W.cell? ⟨Q, 6, none⟩ = some (.int .i64 q.memory) ∧ W.cell? ⟨Q, 7, none⟩ = some (.int .u64 (U q.seed)))
      (exact HS.out _ hBc.out)
      (first
        | (go_at_call 6; (with_reducible refine (HOF.out _).mono ?_); rintro e w7 ⟨rfl, hb7⟩; have hBn := hBc.out.trans (hb7.mono hBc.out.size); clear hBc hb7; have hBc := Lib.hid hBn; clear hBn)
        | (go_at_call 10; (with_reducible refine (awake06 _).mono ?_); rintro e w8 ⟨rfl, hb8⟩; have hBn := hBc.out.trans (hb8.mono hBc.out.size); clear hBc hb8; have hBc := Lib.hid hBn; clear hBn))
    all_goals go_wp2
    all_goals go_ret
    all_goals exact ⟨rfl, HB6.out.trans (hBc.out.mono HB6.out.size)⟩
  · have hl1 : 100 < (bs.length : Int) := by omega
    go_enter Try.func4, Try.ntmps4
    go_wp2
    go_ret
    exact ⟨rfl, Below.refl _ _⟩
end

set_option maxRecDepth 100000 in
theorem planReads_lifted (os : Os) (started : os.Started) (H : Type) (enc : TypeId × Value → H) :
    ReturnsInHanded {} Try.checked os 4 .any (Rows.planReadsSpec.pre6 enc Try.prog Try.f4 Rows.planReadsRow.domain false) (Rows.planReadsSpec.post enc Try.prog Try.f4 false true false false) :=
  law_lifted 4 Try.f4 Rows.planReadsSpec Try.func4 (by kernel_rfl) rfl rfl
    (fun ds h => by match ds, h with | [_], _ => rfl) (by kernel_rfl) os started
    (ChangeSpec.witness6 (enc := enc) (C := Try.checked) false ⟨#[], #[.slice none 0 0], []⟩ 8 (by kernel_rfl) (by kernel_rfl) (by kernel_rfl) (by kernel_rfl))
    fun W args ds ps hval hA => by
      rw [Try.params4] at hA hval
      obtain ⟨v0, vs0, d0, ds0, p0, q0, hargs, rfl, rfl, h0, r0⟩ := trodAll_cons hA
      obtain ⟨rfl, rfl, rfl⟩ := trodAll_nil r0
      obtain rfl : args = #[v0] := by cases args; simp_all
      obtain ⟨b0, o0⟩ := hval 0 _ v0 rfl rfl
      obtain ⟨bs0, hb0, hm0⟩ := open_bytes o0 h0
      exact planReads_walk v0 bs0 W hb0

/-- The statement. -/
theorem planReads_holds : Rows.PlanReadsSaid :=
  OpenClaim.holds_of_wide 4 Try.f4 rfl rfl rfl rfl rfl rfl rfl ⟨rfl, rfl, rfl, rfl, rfl⟩ rfl rfl rfl rfl rfl (by kernel_rfl) Try.func4 (by kernel_rfl)
    (of_decide_eq_true (by kernel_rfl)) (by unfold Func.isWrapper; first | (rw [if_pos (by decide +kernel)]; kernel_rfl) | (rw [if_neg (by decide +kernel)]; exact ⟨rfl, rfl⟩))
    (fun os started H enc _ => planReads_lifted os started H enc)
#print axioms planReads_holds
end Go.Proofs.Ythdclndpckojcaa

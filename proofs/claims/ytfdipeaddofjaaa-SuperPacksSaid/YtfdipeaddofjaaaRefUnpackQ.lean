/-
  sgraffitoref06.Unpack of 26 bytes. NOT CLEAN: region 3 is left (see NOTES).
  Conditions: none.
-/
import Derived.Test.YtfdipeaddofjaaaRefUnpack
import Derived.Deep.RegionHeld3
namespace Go.Proofs.Ytfdipeaddofjaaa
open Go.RowKit

/-- What the reference's Fit answers. -/
def RefFits : Prop := ∀ (p : PlanP) (w : World), Calls Try.prog 28 #[.agg p.cells] w fun e w' => e = .returned (.tuple #[.agg p.fit.cells, .int .i64 p.err]) ∧ Below w.heap.size w w'
set_option maxRecDepth 100000 in
set_option maxHeartbeats 4000000 in
theorem refUnpack_q (hRF : RefFits) (q : PlanP) (u : Value) (bs : List (BitVec 8)) (hq : PlanP.ofBytes bs = q) (hlen : bs.length = 26) (n₀ : Nat) (w : World) (hu : BytesAt n₀ w u bs) (hn : n₀ ≤ w.heap.size) : Calls Try.prog 35 #[u] w fun e w' => e = .returned (.tuple #[.agg q.unp.cells, .int .i64 q.err]) ∧ Below w.heap.size w w' := by
  have hqc : q.cells = #[.int .i64 (numInt bs 0), .int .i64 (numInt bs 1), .int .i64 (numInt bs 2), .int .i64 (numInt bs 3), .int .i64 (numInt bs 4), .int .i64 (numInt bs 5), .int .i64 (numInt bs 6), .int .u64 (U (numOf bs 7))] := by rw [← hq]; rfl
  have HQC := Lib.hid hqc
  clear hq hqc
  obtain ⟨W0, hW0⟩ : ∃ W0, w.alloc (.cells PlanP.zero.cells 24) = W0 := ⟨_, rfl⟩
  have hb0 : Below w.heap.size w W0 := by rw [← hW0]; exact (Below.refl _ w).alloc (Nat.le_refl _) _
  have hz0 : W0.heap[w.heap.size]? = some (.cells PlanP.zero.cells 24 (0, 0)) := by rw [← hW0]; exact heap_alloc_new _ _
  obtain ⟨a, cap, rfl, hcap, _⟩ := id hu
  have HLEN := Lib.hid hlen
  have HBA := Lib.hid (fun W (hW : Below w.heap.size w W) => (hu.below (hW.mono hn) : BytesAt n₀ W _ bs))
  have HA : Hid (∀ W, Below w.heap.size w W → ∀ (f t : Nat) (h1 : f < t) (h2 : t ≤ 26) (h3 : t - f ≤ 8), Calls Try.prog 60 #[.slice a 26 cap, .int .i64 f, .int .i64 t] W fun e w' => e = .returned (.int .i64 (wrap64 (U (leOf ((bs.drop f).take (t - f)))))) ∧ W = w') := fun W hW f t h1 h2 h3 => by
    have := refAt_any n₀ bs _ W (HBA.out W hW) hlen f t h1 h2 h3
    rw [hlen] at this
    exact this
  have HOF : Hid (∀ W, Below w.heap.size w W → ∀ g off n, BytesAt n₀ W (.slice (some ⟨g, off, none⟩) 8 n) ((bs.drop 18).take 8) → Calls Try.prog 36 #[.slice (some ⟨g, off, none⟩) 8 n] W fun e w' => e = .returned (.int .u64 (U (numOf bs 7))) ∧ W = w') := fun W _ g off n h => ((refOf_any n₀ _ _ _ h (by rw [List.length_take, List.length_drop, hlen]; decide)).mono (fun e w' h => ⟨by rw [h.1, refOf_eq _ (by rw [List.length_take, List.length_drop, hlen]; decide)]; rfl, h.2⟩))
  have hne : bs ≠ [] := fun h => by subst h; simp at hlen
  obtain ⟨_, _, e1, _, _, hv⟩ := HBA.out w (Below.refl _ _)
  cases e1
  obtain ⟨g, off, rfl, hg, _⟩ := hv.resolve_left hne
  rw [hlen] at hcap ⊢
  have A0 : Hid (∀ W, Below w.heap.size w W → Calls Try.prog 60 #[.slice (some ⟨g, off, none⟩) 26 cap, .int .i64 0, .int .i64 4] W fun e w' => e = .returned (.int .i64 (numInt bs 0)) ∧ W = w') := fun W hW => HA.out W hW 0 4 (by decide) (by decide) (by decide)
  have A1 : Hid (∀ W, Below w.heap.size w W → Calls Try.prog 60 #[.slice (some ⟨g, off, none⟩) 26 cap, .int .i64 4, .int .i64 8] W fun e w' => e = .returned (.int .i64 (numInt bs 1)) ∧ W = w') := fun W hW => HA.out W hW 4 8 (by decide) (by decide) (by decide)
  have A2 : Hid (∀ W, Below w.heap.size w W → Calls Try.prog 60 #[.slice (some ⟨g, off, none⟩) 26 cap, .int .i64 8, .int .i64 10] W fun e w' => e = .returned (.int .i64 (numInt bs 2)) ∧ W = w') := fun W hW => HA.out W hW 8 10 (by decide) (by decide) (by decide)
  have A3 : Hid (∀ W, Below w.heap.size w W → Calls Try.prog 60 #[.slice (some ⟨g, off, none⟩) 26 cap, .int .i64 10, .int .i64 12] W fun e w' => e = .returned (.int .i64 (numInt bs 3)) ∧ W = w') := fun W hW => HA.out W hW 10 12 (by decide) (by decide) (by decide)
  have A4 : Hid (∀ W, Below w.heap.size w W → Calls Try.prog 60 #[.slice (some ⟨g, off, none⟩) 26 cap, .int .i64 12, .int .i64 14] W fun e w' => e = .returned (.int .i64 (numInt bs 4)) ∧ W = w') := fun W hW => HA.out W hW 12 14 (by decide) (by decide) (by decide)
  have A5 : Hid (∀ W, Below w.heap.size w W → Calls Try.prog 60 #[.slice (some ⟨g, off, none⟩) 26 cap, .int .i64 14, .int .i64 16] W fun e w' => e = .returned (.int .i64 (numInt bs 5)) ∧ W = w') := fun W hW => HA.out W hW 14 16 (by decide) (by decide) (by decide)
  have A6 : Hid (∀ W, Below w.heap.size w W → Calls Try.prog 60 #[.slice (some ⟨g, off, none⟩) 26 cap, .int .i64 16, .int .i64 18] W fun e w' => e = .returned (.int .i64 (numInt bs 6)) ∧ W = w') := fun W hW => HA.out W hW 16 18 (by decide) (by decide) (by decide)
  have A7 : Hid (∀ W, Below w.heap.size w W → Calls Try.prog 36 #[.slice (some ⟨g, off + 18, none⟩) 8 (cap - 18)] W fun e w' => e = .returned (.int .u64 (U (numOf bs 7))) ∧ W = w') := fun W hW => HOF.out W hW g (off + 18) (cap - 18) (by
    obtain ⟨_, _, e1, _, _, hv⟩ := HBA.out W hW
    cases e1
    obtain ⟨g', off', e2, hg', hc⟩ := hv.resolve_left hne
    cases e2
    refine ⟨some ⟨g, off + 18, none⟩, cap - 18, by rw [List.length_take, List.length_drop, hlen]; rfl, by rw [List.length_take, List.length_drop, hlen]; omega, fun h => (by cases h), .inr ⟨g, off + 18, rfl, hg, fun j hj => ?_⟩⟩
    rw [List.length_take, List.length_drop, hlen] at hj
    have h1 := hc (18 + j) (by omega)
    rw [← Nat.add_assoc] at h1
    rw [h1, List.getElem?_take, if_pos (by omega), List.getElem?_drop])
  clear HBA HA HOF hv hne
  go_enter Try.func35, Try.ntmps35
  go_upto_region 3 with (fail)
  change (Code.region _ _ _).wp _ _ _ (w.alloc (.cells PlanP.zero.cells 24))
  rw [hW0]
  clear hlen
  have hbz : Below w.heap.size w W0.drew := hb0.drew
  have k1 : (26 : Int) ≤ cap := by omega
  have k2 : ¬ ((18 : Int) = cap) := by omega
  have k3 : ¬ (18 = cap) := by omega
  have k4 : 18 < cap := by omega
  go_cut [4] (fun s4 wx => s4 = .pointer (some ⟨W0.heap.size, 0, none⟩) ∧ wx = (W0.alloc (.cells #[.int .i64 (numInt bs 0), .int .i64 (numInt bs 1), .int .i64 (numInt bs 2), .int .i64 (numInt bs 3), .int .i64 (numInt bs 4), .int .i64 (numInt bs 5), .int .i64 (numInt bs 6), .int .u64 (U (numOf bs 7))] 24)).drew)
  case first =>
    go_region_held3 (fun W => Below w.heap.size w W) (first | assumption | exact Below.drew (by assumption) | exact (hb0.alloc hb0.size _).drew | exact Below.alloc (by assumption) (Below.size (by assumption)) _) (first
      | (go_at_call 60; first | ((with_reducible refine (A0.out _ (by assumption)).mono ?_); rintro e w' ⟨rfl, rfl⟩) | ((with_reducible refine (A1.out _ (by assumption)).mono ?_); rintro e w' ⟨rfl, rfl⟩) | ((with_reducible refine (A2.out _ (by assumption)).mono ?_); rintro e w' ⟨rfl, rfl⟩) | ((with_reducible refine (A3.out _ (by assumption)).mono ?_); rintro e w' ⟨rfl, rfl⟩) | ((with_reducible refine (A4.out _ (by assumption)).mono ?_); rintro e w' ⟨rfl, rfl⟩) | ((with_reducible refine (A5.out _ (by assumption)).mono ?_); rintro e w' ⟨rfl, rfl⟩) | ((with_reducible refine (A6.out _ (by assumption)).mono ?_); rintro e w' ⟨rfl, rfl⟩))
      | (go_at_call 36; (with_reducible refine (A7.out _ (by assumption)).mono ?_); rintro e w' ⟨rfl, rfl⟩))
    all_goals (go_wp2_with fail)
    all_goals go_meet
    all_goals exact ⟨rfl, rfl⟩
  case rest =>
    obtain ⟨rfl, rfl⟩ := hcut
    rw [← HQC.out]
    have hP4 : (W0.alloc (.cells q.cells 24)).drew.heap[W0.heap.size]? = some (.cells q.cells 24 (0, 0)) := heap_alloc_new W0 _
    have hZ4 : (W0.alloc (.cells q.cells 24)).drew.heap[w.heap.size]? = some (.cells PlanP.zero.cells 24 (0, 0)) := blk_alloc hz0 _
    have hB4 : Below w.heap.size w (W0.alloc (.cells q.cells 24)).drew := (hb0.alloc hb0.size _).drew
    generalize W0.heap.size = P at *
    obtain ⟨w4, hw4⟩ : ∃ w4, (W0.alloc (.cells q.cells 24)).drew = w4 := ⟨_, rfl⟩
    rw [hw4] at hP4 hZ4 hB4 ⊢
    have HP4 := Lib.hid hP4
    have HZ4 := Lib.hid hZ4
    have HB4 := Lib.hid hB4
    have HQ := Lib.hid (hRF q)
    clear hP4 hZ4 hB4 hw4 hbz k1 k2 k3 k4 A0 A1 A2 A3 A4 A5 A6 A7 hb0 hz0 hW0 hu
    go_upto_region 5 with (first
      | (refine wpList_load_row (o := ⟨some 30, _, _, _, _, _⟩) rfl 24 (.tmp 4) rfl P rfl 24 q.cells (0, 0) _ HP4.out Try.underlying24 rfl (kr_sz q) ?_)
      | (go_at_call 28; (with_reducible refine (HQ.out _).mono ?_); rintro e w5 ⟨rfl, hb5⟩; have HB5 := Lib.hid hb5; clear hb5)
      | (refine wpList_store_row (o := ⟨none, _, _, _, _, _⟩) rfl 71 (.tmp 5) (.tmp 32) rfl w5.heap.size q.fit.cells rfl rfl 71 LayP.zero.cells (heap_alloc_new _ _) (klr_sz _) rfl ?_ ?_; exact kl_one _))
    have hsz : w.heap.size < w5.heap.size ∧ P < w5.heap.size := ⟨Nat.lt_of_lt_of_le (blk_lt HZ4.out) HB5.out.size, Nat.lt_of_lt_of_le (blk_lt HP4.out) HB5.out.size⟩
    obtain ⟨hsz1, hsz2⟩ := hsz
    change (Code.region _ _ _).wp _ _ _ ((w5.alloc (.cells LayP.zero.cells 71)).setRow w5.heap.size q.fit.cells)
    have hZ6 : ((w5.alloc (.cells LayP.zero.cells 71)).setRow w5.heap.size q.fit.cells).heap[w.heap.size]? = some (.cells PlanP.zero.cells 24 (0, 0)) := by
      rw [setRow_other (by omega), Below.heap_alloc _ _ _ hsz1, HB5.out.block _ (blk_lt HZ4.out)]
      exact HZ4.out
    have hP6 : ((w5.alloc (.cells LayP.zero.cells 71)).setRow w5.heap.size q.fit.cells).heap[P]? = some (.cells q.cells 24 (0, 0)) := by
      rw [setRow_other (by omega), Below.heap_alloc _ _ _ hsz2, HB5.out.block _ (blk_lt HP4.out)]
      exact HP4.out
    have hB6 : Below w.heap.size w ((w5.alloc (.cells LayP.zero.cells 71)).setRow w5.heap.size q.fit.cells) := below_setRow ((HB4.out.trans (HB5.out.mono HB4.out.size)).alloc (by omega) _) (by omega) _
    generalize (w5.alloc (.cells LayP.zero.cells 71)).setRow w5.heap.size q.fit.cells = V at hZ6 hP6 hB6 ⊢
    have HZ6 := Lib.hid hZ6
    have HP6 := Lib.hid hP6
    have HB6 := Lib.hid hB6
    clear hZ6 hP6 hB6 hsz1 hsz2 HQ HB5 HP4 HZ4 HB4
    cases hf : q.fits with
    | true =>
      obtain ⟨_, e2⟩ := fit_yes hf
      have hu : Hid (q.unp = q) := by unfold Hid PlanP.unp; rw [hf]; rfl
      have HE2 := Lib.hid e2
      rw [e2]
      clear hf e2
      go_wp2_with (first
        | (refine wpList_load_row (o := ⟨some 38, _, _, _, _, _⟩) rfl 24 (.tmp 4) rfl P rfl 24 q.cells (0, 0) _ HP6.out Try.underlying24 rfl (kr_sz q) ?_)
        | (refine wpList_store_row (o := ⟨none, _, _, _, _, _⟩) rfl 24 (.tmp 2) (.tmp 38) rfl w.heap.size q.cells rfl rfl 24 PlanP.zero.cells HZ6.out (kr_sz _) rfl ?_ ?_; exact kp_one _))
      refine bodyPost_ret (v := .tuple #[.agg q.cells, .int .i64 0]) (refUnpack_res _ w.heap.size _ _ _ (setRow_heap _ _ _ _ _ _ HZ6.out) rfl rfl) rfl ⟨by rw [hu.out, HE2.out], ?_⟩
      exact below_setRow HB6.out (Nat.le_refl _) _
    | false =>
      obtain ⟨_, e2⟩ := fit_no hf
      have hu : Hid (q.unp = PlanP.zero) := by unfold Hid PlanP.unp; rw [hf]; rfl
      have HE2 := Lib.hid e2
      rw [e2]
      clear hf e2
      go_wp2_with (refine wpList_store_row (o := ⟨none, _, _, _, _, _⟩) rfl 24 (.tmp 2) (.tmp 36) rfl w.heap.size PlanP.zero.cells rfl rfl 24 PlanP.zero.cells HZ6.out (kr_sz _) rfl ?_ ?_; exact kp_one _)
      refine bodyPost_ret (v := .tuple #[.agg PlanP.zero.cells, .int .i64 12]) (refUnpack_res _ w.heap.size _ _ _ (setRow_heap _ _ _ _ _ _ HZ6.out) rfl rfl) rfl ⟨by rw [hu.out, HE2.out], ?_⟩
      exact below_setRow HB6.out (Nat.le_refl _) _
end Go.Proofs.Ytfdipeaddofjaaa

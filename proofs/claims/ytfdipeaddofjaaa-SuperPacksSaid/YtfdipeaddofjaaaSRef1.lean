/-
  The document's answer for a head's load: sgraffitoref10.Pack.
  Conditions: none.
-/
import Derived.Test.YtfdipeaddofjaaaSup2
import Derived.Test.YtfdipeaddofjaaaRefPack6
import Derived.Test.YtfdipeaddofjaaaRefUnpackQ
import Derived.Test.YtfdipeaddofjaaaRefFitYes
import Derived.Test.YtfdipeaddofjaaaRefFitNot
import Derived.Test.YtfdipeaddofjaaaJP2
namespace Go.Proofs.Ytfdipeaddofjaaa
open Go.RowKit

theorem refFits : RefFits := fun p w => by
  by_cases h : p.Alone
  · exact refFit_yes p h w
  · have hf : p.fits = false := by
      cases hf : p.fits with
      | false => rfl
      | true => exact absurd ((fits_iff p).1 hf).1 h
    obtain ⟨e1, e2⟩ := fit_no hf
    rw [e1, e2]
    exact refFit_not p h w
theorem head_six {V W : World} {X : Nat} {h : HeadP} {t : TypeId} (hx : V.heap[X]? = some (.cells h.cells t (0, 0))) (hb : Below V.heap.size V W) :
    W.cell? ⟨X, 9, none⟩ = some (.int .i64 h.page) ∧ W.cell? ⟨X, 10, none⟩ = some (.int .i64 h.stamp) ∧ W.cell? ⟨X, 11, none⟩ = some (.int .i64 h.depth) ∧ W.cell? ⟨X, 12, none⟩ = some (.int .i64 h.log) ∧ W.cell? ⟨X, 13, none⟩ = some (.int .i64 h.region) ∧ W.cell? ⟨X, 14, none⟩ = some (.int .i64 h.time) := by
  have hX := (hb.block _ (blk_lt hx)).trans hx
  exact ⟨blk_cell hX 9, blk_cell hX 10, blk_cell hX 11, blk_cell hX 12, blk_cell hX 13, blk_cell hX 14⟩
theorem layr_put (w : World) (x : LayP) : Below w.heap.size w ((w.alloc (.cells LayP.zero.cells 71)).setRow w.heap.size x.cells) := below_setRow ((Below.refl _ _).alloc (Nat.le_refl _) _) (Nat.le_refl _) _
set_option maxRecDepth 100000 in
set_option maxHeartbeats 8000000 in
theorem srefPack_any (h : HeadP) (w : World) : Calls Try.prog 7 #[.agg h.cells] w (SPacked h.load h.err w) := by
  have hX : (w.alloc (.cells h.cells 26)).heap[w.heap.size]? = some (.cells h.cells 26 (0, 0)) := heap_alloc_new _ _
  have HB := Lib.hid (show Below w.heap.size w (w.alloc (.cells h.cells 26)) from (Below.refl _ _).alloc (Nat.le_refl _) _)
  obtain ⟨w0, hw0⟩ : ∃ w0, w.alloc (.cells h.cells 26) = w0 := ⟨_, rfl⟩
  rw [hw0] at hX HB
  obtain ⟨X, hXe⟩ : ∃ X, w.heap.size = X := ⟨_, rfl⟩
  have HXE := Lib.hid hXe
  rw [hXe] at hX
  have HX := Lib.hid hX
  obtain ⟨d0, d1, d2, d3, d4, d5, d6, d7, d8, d9, d10, d11, d12, d13, d14⟩ := head_all hX (Below.refl _ _)
  have HF : Hid (∀ W, Calls Try.prog 28 #[.agg #[.int .i64 h.plan.sectors, .int .i64 h.plan.size, .int .i64 h.plan.regions, .int .i64 h.plan.rs, .int .i64 h.plan.log, .int .i64 h.plan.depth, .int .i64 h.plan.memory, .int .u64 (U h.plan.seed)]] W fun e w' => e = .returned (.tuple #[.agg h.plan.fit.cells, .int .i64 h.plan.err]) ∧ Below W.heap.size W w') := fun W => refFits h.plan W
  have HPK : Hid (∀ W, Calls Try.prog 29 #[.agg #[.int .i64 h.plan.sectors, .int .i64 h.plan.size, .int .i64 h.plan.regions, .int .i64 h.plan.rs, .int .i64 h.plan.log, .int .i64 h.plan.depth, .int .i64 h.plan.memory, .int .u64 (U h.plan.seed)]] W fun e w' => ∃ u, e = .returned u ∧ w'.ownsRow W.heap.size 5 1 u h.plan.bytes.length (cellsOf h.plan.bytes) ∧ Below W.heap.size W w') := fun W => refPack_any h.plan W
  have hno : ∀ er : Int, h.err = er → er ≠ 0 → ∀ W, Below w0.heap.size w0 W → SPacked h.load h.err w (.returned (.tuple #[.slice none 0 0, .int .i64 er])) W := by
    intro er h1 h2 W hW
    refine ⟨_, by rw [h1], ?_, HB.out.trans (hW.mono HB.out.size)⟩
    unfold HeadP.load
    rw [h1, if_neg h2]
    exact World.ownsRow_nil _ _ _ _
  have HNO := Lib.hid hno
  clear hno hX hXe
  cases hfit : h.plan.fits with
  | false =>
    have HE : Hid (h.err = 12) := by unfold Hid HeadP.err; rw [hfit]; rfl
    rw [(plan_fit_no hfit).1, (plan_fit_no hfit).2] at HF
    clear hfit d8 d9 d10 d11 d12 d13 d14
    go_enter Try.func7, Try.ntmps7
    go_upto_region 1 with (fail)
    rw [HXE.out]
    clear hw0
    go_upto_region 2 with (first
      | (go_at_call 28; (with_reducible refine (HF.out _).mono ?_); rintro e w2 ⟨rfl, hb2⟩; have HB2 := Lib.hid hb2; clear hb2)
      | (refine wpList_store_row (o := ⟨none, _, _, _, _, _⟩) rfl 71 (.tmp 4) (.tmp 11) rfl w2.heap.size LayP.zero.cells rfl rfl 71 LayP.zero.cells (heap_alloc_new _ _) (klr_sz _) rfl ?_ ?_; exact kl_one _))
    change (Code.region _ _ _).wp _ _ _ ((w2.alloc (.cells LayP.zero.cells 71)).setRow w2.heap.size LayP.zero.cells)
    have hb3 := HB2.out.trans ((layr_put w2 LayP.zero).mono HB2.out.size)
    generalize (w2.alloc (.cells LayP.zero.cells 71)).setRow w2.heap.size LayP.zero.cells = V at hb3 ⊢
    have HB3 := Lib.hid hb3
    clear hb3
    go_wp2
    go_ret2
    exact HNO.out 12 HE.out (by decide) _ HB3.out
  | true =>
    rw [(plan_fit_yes hfit).1, (plan_fit_yes hfit).2] at HF
    have HFIT := Lib.hid hfit
    have HC := Lib.hid (fun W (hb : Below w0.heap.size w0 W) => head_all HX.out hb)
    clear hfit d8 d9 d10 d11 d12 d13 d14
    go_enter Try.func7, Try.ntmps7
    go_upto_region 1 with (fail)
    rw [HXE.out]
    clear hw0
    go_upto_region 2 with (first
      | (go_at_call 28; (with_reducible refine (HF.out _).mono ?_); rintro e w2 ⟨rfl, hb2⟩; have HB2 := Lib.hid hb2; clear hb2)
      | (refine wpList_store_row (o := ⟨none, _, _, _, _, _⟩) rfl 71 (.tmp 4) (.tmp 11) rfl w2.heap.size h.plan.lay.cells rfl rfl 71 LayP.zero.cells (heap_alloc_new _ _) (klr_sz _) rfl ?_ ?_; exact kl_one _))
    change (Code.region _ _ _).wp _ _ _ ((w2.alloc (.cells LayP.zero.cells 71)).setRow w2.heap.size h.plan.lay.cells)
    have hb3 := HB2.out.trans ((layr_put w2 h.plan.lay).mono HB2.out.size)
    generalize (w2.alloc (.cells LayP.zero.cells 71)).setRow w2.heap.size h.plan.lay.cells = V at hb3 ⊢
    have HB3 := Lib.hid hb3
    clear d0 d1 d2 d3 d4 d5 d6 d7
    obtain ⟨d0, d1, d2, d3, d4, d5, d6, d7, d8, d9, d10, d11, d12, d13, d14⟩ := HC.out _ hb3
    clear hb3
    go_upto_region 4 with (fail)
    go_cut [65] (fun s wx => s = .bool (!decide h.Ok) ∧ V = wx)
    case first =>
      by_cases c0 : h.gen < 1
      case pos =>
        have e0 : decide (h.gen < 1) = true := decide_eq_true c0
        have HN : Hid (decide h.Ok = false) := decide_eq_false (fun hk => by obtain ⟨k0, k1, k2, k3, k4, k5, k6, k7, k8, k9⟩ := hk; omega)
        clear c0
        go_wp2_with fail
        go_meet
        exact ⟨by rw [HN.out]; rfl, rfl⟩
      have e0 : decide (h.gen < 1) = false := decide_eq_false c0
      have C0 := Lib.hid c0
      clear c0
      by_cases c1 : h.page < 0
      case pos =>
        have e1 : decide (h.page < 0) = true := decide_eq_true c1
        have HN : Hid (decide h.Ok = false) := decide_eq_false (fun hk => by obtain ⟨k0, k1, k2, k3, k4, k5, k6, k7, k8, k9⟩ := hk; omega)
        clear c1
        go_wp2_with fail
        go_meet
        exact ⟨by rw [HN.out]; rfl, rfl⟩
      have e1 : decide (h.page < 0) = false := decide_eq_false c1
      have C1 := Lib.hid c1
      clear c1
      by_cases c2 : 2147483647 < h.page
      case pos =>
        have e2 : decide (2147483647 < h.page) = true := decide_eq_true c2
        have HN : Hid (decide h.Ok = false) := decide_eq_false (fun hk => by obtain ⟨k0, k1, k2, k3, k4, k5, k6, k7, k8, k9⟩ := hk; omega)
        clear c2
        go_wp2_with fail
        go_meet
        exact ⟨by rw [HN.out]; rfl, rfl⟩
      have e2 : decide (2147483647 < h.page) = false := decide_eq_false c2
      have C2 := Lib.hid c2
      clear c2
      by_cases c3 : h.stamp < 0
      case pos =>
        have e3 : decide (h.stamp < 0) = true := decide_eq_true c3
        have HN : Hid (decide h.Ok = false) := decide_eq_false (fun hk => by obtain ⟨k0, k1, k2, k3, k4, k5, k6, k7, k8, k9⟩ := hk; omega)
        clear c3
        go_wp2_with fail
        go_meet
        exact ⟨by rw [HN.out]; rfl, rfl⟩
      have e3 : decide (h.stamp < 0) = false := decide_eq_false c3
      have C3 := Lib.hid c3
      clear c3
      by_cases c4 : h.depth < 0
      case pos =>
        have e4 : decide (h.depth < 0) = true := decide_eq_true c4
        have HN : Hid (decide h.Ok = false) := decide_eq_false (fun hk => by obtain ⟨k0, k1, k2, k3, k4, k5, k6, k7, k8, k9⟩ := hk; omega)
        clear c4
        go_wp2_with fail
        go_meet
        exact ⟨by rw [HN.out]; rfl, rfl⟩
      have e4 : decide (h.depth < 0) = false := decide_eq_false c4
      have C4 := Lib.hid c4
      clear c4
      by_cases c5 : h.plan.depth < h.depth
      case pos =>
        have e5 : decide (h.plan.depth < h.depth) = true := decide_eq_true c5
        have HN : Hid (decide h.Ok = false) := decide_eq_false (fun hk => by obtain ⟨k0, k1, k2, k3, k4, k5, k6, k7, k8, k9⟩ := hk; omega)
        clear c5
        go_wp2_with fail
        go_meet
        exact ⟨by rw [HN.out]; rfl, rfl⟩
      have e5 : decide (h.plan.depth < h.depth) = false := decide_eq_false c5
      have C5 := Lib.hid c5
      clear c5
      by_cases c6 : h.log < 1
      case pos =>
        have e6 : decide (h.log < 1) = true := decide_eq_true c6
        have HN : Hid (decide h.Ok = false) := decide_eq_false (fun hk => by obtain ⟨k0, k1, k2, k3, k4, k5, k6, k7, k8, k9⟩ := hk; omega)
        clear c6
        go_wp2_with fail
        go_meet
        exact ⟨by rw [HN.out]; rfl, rfl⟩
      have e6 : decide (h.log < 1) = false := decide_eq_false c6
      have C6 := Lib.hid c6
      clear c6
      by_cases c7 : h.region < 0
      case pos =>
        have e7 : decide (h.region < 0) = true := decide_eq_true c7
        have HN : Hid (decide h.Ok = false) := decide_eq_false (fun hk => by obtain ⟨k0, k1, k2, k3, k4, k5, k6, k7, k8, k9⟩ := hk; omega)
        clear c7
        go_wp2_with fail
        go_meet
        exact ⟨by rw [HN.out]; rfl, rfl⟩
      have e7 : decide (h.region < 0) = false := decide_eq_false c7
      have C7 := Lib.hid c7
      clear c7
      by_cases c8 : h.time < 0
      case pos =>
        have e8 : decide (h.time < 0) = true := decide_eq_true c8
        have HN : Hid (decide h.Ok = false) := decide_eq_false (fun hk => by obtain ⟨k0, k1, k2, k3, k4, k5, k6, k7, k8, k9⟩ := hk; omega)
        clear c8
        go_wp2_with fail
        go_meet
        exact ⟨by rw [HN.out]; rfl, rfl⟩
      have e8 : decide (h.time < 0) = false := decide_eq_false c8
      have C8 := Lib.hid c8
      clear c8
      by_cases c9 : 281474976710656 < h.time
      case pos =>
        have e9 : decide (281474976710656 < h.time) = true := decide_eq_true c9
        have HN : Hid (decide h.Ok = false) := decide_eq_false (fun hk => by obtain ⟨k0, k1, k2, k3, k4, k5, k6, k7, k8, k9⟩ := hk; omega)
        clear c9
        go_wp2_with fail
        go_meet
        exact ⟨by rw [HN.out]; rfl, rfl⟩
      have e9 : decide (281474976710656 < h.time) = false := decide_eq_false c9
      have C9 := Lib.hid c9
      clear c9
      have HN : Hid (decide h.Ok = true) := decide_eq_true (by refine ⟨?_, ?_, ?_, ?_, ?_, ?_, ?_, ?_, ?_, ?_⟩; (have := C0.out; omega) ; (have := C1.out; omega) ; (have := C2.out; omega) ; (have := C3.out; omega) ; (have := C4.out; omega) ; (have := C5.out; omega) ; (have := C6.out; omega) ; (have := C7.out; omega) ; (have := C8.out; omega) ; (have := C9.out; omega))
      go_wp2_with fail
      go_meet
      exact ⟨by rw [HN.out]; rfl, rfl⟩
    case rest =>
      obtain ⟨rfl, rfl⟩ := hcut
      clear d8 d9 d10 d11 d12 d13 d14
      cases hok : decide h.Ok with
      | false =>
        have HE : Hid (h.err = 1) := by
          have := of_decide_eq_false hok
          unfold Hid HeadP.err; rw [HFIT.out, if_neg this]; rfl
        clear hok
        go_wp2
        go_ret2
        exact HNO.out 1 HE.out (by decide) _ HB3.out
      | true =>
        have HE : Hid (h.err = 0) := by
          have := of_decide_eq_true hok
          unfold Hid HeadP.err; rw [HFIT.out, if_pos this]; rfl
        clear hok
        obtain ⟨i0, hi, hz0, hz1, hz2⟩ := info_parts Try.infoU8
        have HPL := Lib.hid (plan_len h.plan)
        have HN4 := Lib.hid (fun (i : Int) W => (show Calls Try.prog 30 #[.int .u64 (IntKind.u64.wrap i), .int .i64 4] W (fun e w' => ∃ u, e = .returned u ∧ BytesAt w'.heap.size w' u (leI 4 i) ∧ Below W.heap.size W w') from refNumP i 4 rfl W))
        have HN8 := Lib.hid (fun (i : Int) W => (show Calls Try.prog 30 #[.int .u64 (IntKind.u64.wrap i), .int .i64 8] W (fun e w' => ∃ u, e = .returned u ∧ BytesAt w'.heap.size w' u (leI 8 i) ∧ Below W.heap.size W w') from refNumP i 8 rfl W))
        have HN1 := Lib.hid (fun (i : Int) W => (show Calls Try.prog 30 #[.int .u64 (IntKind.u64.wrap i), .int .i64 1] W (fun e w' => ∃ u, e = .returned u ∧ BytesAt w'.heap.size w' u (leI 1 i) ∧ Below W.heap.size W w') from refNumP i 1 rfl W))
        go_upto_region 7 with (go_at_call 29; (with_reducible refine (HPK.out _).mono ?_); rintro e w4 ⟨v0, rfl, hu4, hb4⟩; have HR0 := Lib.hid (show PAt V v0 h.plan.bytes w4 from ⟨hu4, hb4⟩); clear hu4 hb4)
        clear d0 d1 d2 d3 d4 d5 d6 d7
        have HX3 : Hid (V.heap[X]? = some (.cells h.cells 26 (0, 0))) := (HB3.out.block _ (blk_lt HX.out)).trans HX.out
        have HC6 := Lib.hid (fun W (hb : Below V.heap.size V W) => head_six HX3.out hb)
        obtain ⟨d9, d10, d11, d12, d13, d14⟩ := HC6.out _ HR0.out.2
        clear HC HF HPK
        go_upto_region 8 with (first
          | (at_builtin; (refine wpList_append_bytes rfl (.tmp 69) (.tmp 73) rfl rfl V.heap.size i0 hi hz0 hz1 hz2 _ rfl _ HR1.out.1 _ rfl _ _ HU1.out (by have := HPL.out; simp [leI_len]; omega) HR1.out.2.size ?_); intro v2 y2 n2 hn hown hg _; have HR2 := Lib.hid (PAt.app HR1.out hn.out hown hg); clear hn hown hg)
          | (go_at_call 30; (with_reducible refine (HN4.out _ _).mono ?_); rintro e y1 ⟨u1, rfl, hu, hb⟩; have HU1 := Lib.hid hu; have HR1 := Lib.hid (HR0.out.behind hb); clear hu hb))
        clear d9 d10 d11 d12 d13 d14 HU1 HR1 HR0
        obtain ⟨d9, d10, d11, d12, d13, d14⟩ := HC6.out _ HR2.out.2
        go_upto_region 9 with (first
          | (at_builtin; (refine wpList_append_bytes rfl (.tmp 75) (.tmp 79) rfl rfl V.heap.size i0 hi hz0 hz1 hz2 _ rfl _ HR3.out.1 _ rfl _ _ HU3.out (by have := HPL.out; simp [leI_len]; omega) HR3.out.2.size ?_); intro v4 y4 n4 hn hown hg _; have HR4 := Lib.hid (PAt.app HR3.out hn.out hown hg); clear hn hown hg)
          | (go_at_call 30; (with_reducible refine (HN8.out _ _).mono ?_); rintro e y3 ⟨u3, rfl, hu, hb⟩; have HU3 := Lib.hid hu; have HR3 := Lib.hid (HR2.out.behind hb); clear hu hb))
        clear d9 d10 d11 d12 d13 d14 HU3 HR3 HR2
        obtain ⟨d9, d10, d11, d12, d13, d14⟩ := HC6.out _ HR4.out.2
        go_upto_region 10 with (first
          | (at_builtin; (refine wpList_append_bytes rfl (.tmp 81) (.tmp 85) rfl rfl V.heap.size i0 hi hz0 hz1 hz2 _ rfl _ HR5.out.1 _ rfl _ _ HU5.out (by have := HPL.out; simp [leI_len]; omega) HR5.out.2.size ?_); intro v6 y6 n6 hn hown hg _; have HR6 := Lib.hid (PAt.app HR5.out hn.out hown hg); clear hn hown hg)
          | (go_at_call 30; (with_reducible refine (HN1.out _ _).mono ?_); rintro e y5 ⟨u5, rfl, hu, hb⟩; have HU5 := Lib.hid hu; have HR5 := Lib.hid (HR4.out.behind hb); clear hu hb))
        clear d9 d10 d11 d12 d13 d14 HU5 HR5 HR4
        obtain ⟨d9, d10, d11, d12, d13, d14⟩ := HC6.out _ HR6.out.2
        go_upto_region 11 with (first
          | (at_builtin; (refine wpList_append_bytes rfl (.tmp 87) (.tmp 91) rfl rfl V.heap.size i0 hi hz0 hz1 hz2 _ rfl _ HR7.out.1 _ rfl _ _ HU7.out (by have := HPL.out; simp [leI_len]; omega) HR7.out.2.size ?_); intro v8 y8 n8 hn hown hg _; have HR8 := Lib.hid (PAt.app HR7.out hn.out hown hg); clear hn hown hg)
          | (go_at_call 30; (with_reducible refine (HN8.out _ _).mono ?_); rintro e y7 ⟨u7, rfl, hu, hb⟩; have HU7 := Lib.hid hu; have HR7 := Lib.hid (HR6.out.behind hb); clear hu hb))
        clear d9 d10 d11 d12 d13 d14 HU7 HR7 HR6
        obtain ⟨d9, d10, d11, d12, d13, d14⟩ := HC6.out _ HR8.out.2
        go_upto_region 12 with (first
          | (at_builtin; (refine wpList_append_bytes rfl (.tmp 93) (.tmp 97) rfl rfl V.heap.size i0 hi hz0 hz1 hz2 _ rfl _ HR9.out.1 _ rfl _ _ HU9.out (by have := HPL.out; simp [leI_len]; omega) HR9.out.2.size ?_); intro v10 y10 n10 hn hown hg _; have HR10 := Lib.hid (PAt.app HR9.out hn.out hown hg); clear hn hown hg)
          | (go_at_call 30; (with_reducible refine (HN8.out _ _).mono ?_); rintro e y9 ⟨u9, rfl, hu, hb⟩; have HU9 := Lib.hid hu; have HR9 := Lib.hid (HR8.out.behind hb); clear hu hb))
        clear d9 d10 d11 d12 d13 d14 HU9 HR9 HR8
        obtain ⟨d9, d10, d11, d12, d13, d14⟩ := HC6.out _ HR10.out.2
        go_wp2_with (first
          | (at_builtin; (refine wpList_append_bytes rfl (.tmp 99) (.tmp 103) rfl rfl V.heap.size i0 hi hz0 hz1 hz2 _ rfl _ HR11.out.1 _ rfl _ _ HU11.out (by have := HPL.out; simp [leI_len]; omega) HR11.out.2.size ?_); intro v12 y12 n12 hn hown hg _; have HR12 := Lib.hid (PAt.app HR11.out hn.out hown hg); clear hn hown hg)
          | (go_at_call 30; (with_reducible refine (HN8.out _ _).mono ?_); rintro e y11 ⟨u11, rfl, hu, hb⟩; have HU11 := Lib.hid hu; have HR11 := Lib.hid (HR10.out.behind hb); clear hu hb))
        go_ret2
        obtain ⟨ho, hb⟩ := HR12.out
        have hl : h.load = h.plan.bytes ++ leI 4 h.page ++ leI 8 h.stamp ++ leI 1 h.depth ++ leI 8 h.log ++ leI 8 h.region ++ leI 8 h.time := by
          unfold HeadP.load HeadP.bytes
          rw [if_pos HE.out, List.nil_append]
        refine ⟨v12, by rw [HE.out]; rfl, ?_, HB.out.trans ((HB3.out.trans (hb.mono HB3.out.size)).mono HB.out.size)⟩
        rw [hl]
        obtain ⟨h1, h2⟩ := ho
        refine ⟨h1, ?_⟩
        rcases h2 with h2 | ⟨g, cap, cur, r1, r2, r3, r4⟩
        · exact .inl h2
        · exact .inr ⟨g, cap, cur, r1, Nat.le_trans (Nat.le_trans HB.out.size HB3.out.size) r2, r3, r4⟩
end Go.Proofs.Ytfdipeaddofjaaa

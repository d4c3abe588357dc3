/-
  The document's answer for a head of bytes: sgraffitoref10.Unpack.
  Conditions: none.
-/
import Derived.Test.YtfdipeaddofjaaaSRef1
import Derived.Test.YtfdipeaddofjaaaSRefMath
import Derived.Test.YtfdipeaddofjaaaJS
import Derived.Deep.RegionHeld3
namespace Go.Proofs.Ytfdipeaddofjaaa
open Go.RowKit
attribute [-go_sem] Instr.build Instr.fill

theorem BytesAt.midS {n₀ : Nat} {w : World} {g off n cap : Nat} {bs : List (BitVec 8)} (h : BytesAt n₀ w (.slice (some ⟨g, off, none⟩) n cap) bs) (i j : Nat) (hij : i ≤ j) (hj : j ≤ bs.length) :
    BytesAt n₀ w (.slice (some ⟨g, off + i, none⟩) (j - i) (cap - i)) ((bs.drop i).take (j - i)) := by
  have h1 := h.suf i (by omega)
  rw [add_plain] at h1
  exact h1.pre (j - i) (by rw [List.length_drop]; omega)
theorem khd_sz (h : HeadP) : (Try.prog.info? 26).map (·.size) = some h.cells.size := by show _ = some 15; kernel_rfl
theorem srefUnp_res (w : World) (z : Nat) (x : HeadP) (n : Int) (a : Act) (h : w.heap[z]? = some (.cells x.cells 26 (0, 0))) (h2 : a.tmps.getD 4 undef = .pointer (some ⟨z, 0, none⟩)) (h3 : a.tmps.getD 5 undef = .int .i64 n) :
    (results Try.f9 a.tmps).run Try.prog w = .ok (.tuple #[.agg x.cells, .int .i64 n]) w := by
  have h2' : a.tmps[4]?.getD undef = .pointer (some ⟨z, 0, none⟩) := by simpa using h2
  have h3' : a.tmps[5]?.getD undef = .int .i64 n := by simpa using h3
  simp [results, Try.results9, h2', h3', asAddr, run_loadVar_row w z 26 26 x.cells (0, 0) _ h Try.underlying26 rfl (khd_sz x)]
@[local go_sem] theorem buildd_zero (W : World) : (Instr.build 26 #[]).run Try.prog W = .ok (.agg HeadP.zero.cells) W := run_build W _ _ _ (by kernel_rfl)
@[local go_sem] theorem build_four (a b c d : Int) (W : World) : (Instr.build 85 #[(0, .int .u64 a), (1, .int .u64 b), (2, .int .u64 c), (3, .int .u64 d)]).run Try.prog W = .ok (.agg #[.int .u64 a, .int .u64 b, .int .u64 c, .int .u64 d]) W := run_build W _ _ _ (by kernel_rfl)
@[local go_sem] theorem buildd_all (a0 a1 a2 a3 a4 a5 a6 s g p t d l r m : Int) (W : World) : (Instr.build 26 #[(0, .agg #[.int .i64 a0, .int .i64 a1, .int .i64 a2, .int .i64 a3, .int .i64 a4, .int .i64 a5, .int .i64 a6, .int .u64 s]), (1, .int .i64 g), (2, .int .i64 p), (3, .int .i64 t), (4, .int .i64 d), (5, .int .i64 l), (6, .int .i64 r), (7, .int .i64 m)]).run Try.prog W = .ok (.agg #[.int .i64 a0, .int .i64 a1, .int .i64 a2, .int .i64 a3, .int .i64 a4, .int .i64 a5, .int .i64 a6, .int .u64 s, .int .i64 g, .int .i64 p, .int .i64 t, .int .i64 d, .int .i64 l, .int .i64 r, .int .i64 m]) W := run_build W _ _ _ (by kernel_rfl)
theorem one_byte (b : BitVec 8) : U (leOf [b]) = U b := by
  unfold U
  rw [leOf_toNat [b] (by simp)]
  simp [leNat]
theorem byte_numAt (bs : List (BitVec 8)) (j : Nat) (h : j < bs.length) : numAt bs j 1 = wrap64 (U (bs[j]?.getD 0)) := by
  unfold numAt numU
  rw [List.drop_eq_getElem_cons h, List.take_succ_cons, List.take_zero, one_byte]
  simp [h]
theorem cell_alloc {W : World} {p : Addr} {v : Value} {c : Obj} (h : W.cell? p = some v) : (W.alloc c).cell? p = some v :=
  (((Below.refl W.heap.size W).alloc (Nat.le_refl _) c).cell (World.block_lt_of_cell? _ _ h)).trans h
theorem great_not {gen : Int} {bs : List (BitVec 8)} (h : numAt bs 30 8 < 0 ∨ numAt bs 39 8 < 0 ∨ numAt bs 47 8 < 0 ∨ numAt bs 55 8 < 0) : ¬ headGood gen bs := by
  rintro ⟨_, _, hk⟩
  dsimp only [HeadP.of, HeadP.Ok] at hk
  obtain ⟨k0, k1, k2, k3, k4, k5, k6, k7, k8, k9⟩ := hk
  generalize numAt bs 30 8 = a at *
  generalize numAt bs 39 8 = b at *
  generalize numAt bs 47 8 = c at *
  generalize numAt bs 55 8 = d at *
  omega

set_option maxRecDepth 100000 in
set_option maxHeartbeats 8000000 in
theorem srefUnpack_any (gen : Int) (u : Value) (bs : List (BitVec 8)) (n₀ : Nat) (w : World) (hu : BytesAt n₀ w u bs) (hn : n₀ ≤ w.heap.size) (hl : bs.length ≤ 549755813888) : Calls Try.prog 9 #[.int .i64 gen, u] w (SUnp gen bs w) := by
  have hZ : (w.alloc (.cells HeadP.zero.cells 26)).heap[w.heap.size]? = some (.cells HeadP.zero.cells 26 (0, 0)) := heap_alloc_new _ _
  have HZ0 := Lib.hid hZ
  have HB0 := Lib.hid (show Below w.heap.size w (w.alloc (.cells HeadP.zero.cells 26)) from (Below.refl _ _).alloc (Nat.le_refl _) _)
  have HV := Lib.hid hu
  have HNN := Lib.hid hn
  obtain ⟨a, cap, rfl, hcap, _⟩ := id hu
  clear hZ hu hn
  by_cases hlen : bs.length = 63
  · have HLEN := Lib.hid hlen
    have hne : bs ≠ [] := fun h => by rw [h] at hlen; exact absurd hlen (by decide)
    obtain ⟨_, _, e1, _, _, hv⟩ := HV.out
    cases e1
    obtain ⟨g, off, rfl, hg, hc⟩ := hv.resolve_left hne
    have HG := Lib.hid hg
    have HBY : Hid (∀ W, Below w.heap.size w W → BytesAt n₀ W (.slice (some ⟨g, off, none⟩) 63 cap) bs) := fun W hW => by
      have := HV.out.below (hW.mono HNN.out)
      rwa [HLEN.out] at this
    obtain ⟨y, hy⟩ : ∃ y, U (bs[38]?.getD 0) = y := ⟨_, rfl⟩
    have HY38 : Hid (numAt bs 38 1 = IntKind.i64.wrap y) := by rw [← hy, Hid, IntWalk.i64_left]; exact byte_numAt bs 38 (by omega)
    have HC38 : Hid (∀ W, Below w.heap.size w W → W.cell? ⟨g, off + 38, none⟩ = some (.int .u8 y)) := fun W hW => by
      obtain ⟨_, _, e1, _, _, hv⟩ := HBY.out W hW
      simp only [Value.slice.injEq] at e1
      obtain ⟨rfl, _, rfl⟩ := e1
      obtain ⟨g', off', e2, _, hc⟩ := hv.resolve_left hne
      cases e2
      have := hc 38 (by rw [HLEN.out]; decide)
      rw [this, ← hy]
    clear hv hc hg hy
    have HPU : Hid (∀ W, Below w.heap.size w W → Calls Try.prog 35 #[.slice (some ⟨g, off, none⟩) 26 cap] W fun e w' => e = .returned (.tuple #[.agg (PlanP.ofBytes (bs.take 26)).unp.cells, .int .i64 (PlanP.ofBytes (bs.take 26)).err]) ∧ Below W.heap.size W w') := fun W hW => by
      have h1 := (HBY.out W hW).pre 26 (by rw [HLEN.out]; decide)
      exact refUnpack_q refFits (PlanP.ofBytes (bs.take 26)) _ (bs.take 26) rfl (by rw [List.length_take, HLEN.out]; rfl) n₀ W h1 (Nat.le_trans HNN.out hW.size)
    obtain ⟨x0, hx0⟩ : ∃ x, U (numU bs 30 8) = x := ⟨_, rfl⟩
    have HX0 : Hid (numAt bs 30 8 = IntKind.i64.wrap x0) := by rw [← hx0, Hid, IntWalk.i64_left]; rfl
    have HM0 : Hid (9223372036854775807 < x0 ↔ numAt bs 30 8 < 0) := by rw [← hx0]; exact numAt_neg bs 30 8
    have O0 : Hid (∀ W, Below w.heap.size w W → Calls Try.prog 36 #[.slice (some ⟨g, off + 30, none⟩) 8 (cap - 30)] W fun e w' => e = .returned (.int .u64 x0) ∧ W = w') := fun W hW => by
      have h1 := (HBY.out W hW).midS 30 38 (by decide) (by rw [HLEN.out]; decide)
      refine (refOf_any n₀ ((bs.drop 30).take 8) _ W h1 (by rw [List.length_take]; omega)).mono fun e w' h => ⟨?_, h.2⟩
      rw [h.1, refOf_eq _ (by rw [List.length_take]; omega), ← hx0]
      rfl
    clear hx0
    obtain ⟨x1, hx1⟩ : ∃ x, U (numU bs 39 8) = x := ⟨_, rfl⟩
    have HX1 : Hid (numAt bs 39 8 = IntKind.i64.wrap x1) := by rw [← hx1, Hid, IntWalk.i64_left]; rfl
    have HM1 : Hid (9223372036854775807 < x1 ↔ numAt bs 39 8 < 0) := by rw [← hx1]; exact numAt_neg bs 39 8
    have O1 : Hid (∀ W, Below w.heap.size w W → Calls Try.prog 36 #[.slice (some ⟨g, off + 39, none⟩) 8 (cap - 39)] W fun e w' => e = .returned (.int .u64 x1) ∧ W = w') := fun W hW => by
      have h1 := (HBY.out W hW).midS 39 47 (by decide) (by rw [HLEN.out]; decide)
      refine (refOf_any n₀ ((bs.drop 39).take 8) _ W h1 (by rw [List.length_take]; omega)).mono fun e w' h => ⟨?_, h.2⟩
      rw [h.1, refOf_eq _ (by rw [List.length_take]; omega), ← hx1]
      rfl
    clear hx1
    obtain ⟨x2, hx2⟩ : ∃ x, U (numU bs 47 8) = x := ⟨_, rfl⟩
    have HX2 : Hid (numAt bs 47 8 = IntKind.i64.wrap x2) := by rw [← hx2, Hid, IntWalk.i64_left]; rfl
    have HM2 : Hid (9223372036854775807 < x2 ↔ numAt bs 47 8 < 0) := by rw [← hx2]; exact numAt_neg bs 47 8
    have O2 : Hid (∀ W, Below w.heap.size w W → Calls Try.prog 36 #[.slice (some ⟨g, off + 47, none⟩) 8 (cap - 47)] W fun e w' => e = .returned (.int .u64 x2) ∧ W = w') := fun W hW => by
      have h1 := (HBY.out W hW).midS 47 55 (by decide) (by rw [HLEN.out]; decide)
      refine (refOf_any n₀ ((bs.drop 47).take 8) _ W h1 (by rw [List.length_take]; omega)).mono fun e w' h => ⟨?_, h.2⟩
      rw [h.1, refOf_eq _ (by rw [List.length_take]; omega), ← hx2]
      rfl
    clear hx2
    obtain ⟨x3, hx3⟩ : ∃ x, U (numU bs 55 8) = x := ⟨_, rfl⟩
    have HX3 : Hid (numAt bs 55 8 = IntKind.i64.wrap x3) := by rw [← hx3, Hid, IntWalk.i64_left]; rfl
    have HM3 : Hid (9223372036854775807 < x3 ↔ numAt bs 55 8 < 0) := by rw [← hx3]; exact numAt_neg bs 55 8
    have O3 : Hid (∀ W, Below w.heap.size w W → Calls Try.prog 36 #[.slice (some ⟨g, off + 55, none⟩) 8 (cap - 55)] W fun e w' => e = .returned (.int .u64 x3) ∧ W = w') := fun W hW => by
      have h1 := (HBY.out W hW).midS 55 63 (by decide) (by rw [HLEN.out]; decide)
      refine (refOf_any n₀ ((bs.drop 55).take 8) _ W h1 (by rw [List.length_take]; omega)).mono fun e w' h => ⟨?_, h.2⟩
      rw [h.1, refOf_eq _ (by rw [List.length_take]; omega), ← hx3]
      rfl
    clear hx3
    obtain ⟨x4, hx4⟩ : ∃ x, U (numU bs 26 4) = x := ⟨_, rfl⟩
    have HX4 : Hid (numAt bs 26 4 = IntKind.i64.wrap x4) := by rw [← hx4, Hid, IntWalk.i64_left]; rfl
    have HM4 : Hid (9223372036854775807 < x4 ↔ numAt bs 26 4 < 0) := by rw [← hx4]; exact numAt_neg bs 26 4
    have O4 : Hid (∀ W, Below w.heap.size w W → Calls Try.prog 36 #[.slice (some ⟨g, off + 26, none⟩) 4 (cap - 26)] W fun e w' => e = .returned (.int .u64 x4) ∧ W = w') := fun W hW => by
      have h1 := (HBY.out W hW).midS 26 30 (by decide) (by rw [HLEN.out]; decide)
      refine (refOf_any n₀ ((bs.drop 26).take 4) _ W h1 (by rw [List.length_take]; omega)).mono fun e w' h => ⟨?_, h.2⟩
      rw [h.1, refOf_eq _ (by rw [List.length_take]; omega), ← hx4]
      rfl
    clear hx4
    have hcap63 : (63 : Int) ≤ cap := by omega
    rw [hlen]
    have HAG := Lib.hid (head_again gen bs hlen)
    obtain ⟨q, hq⟩ : ∃ q, PlanP.ofBytes (bs.take 26) = q := ⟨_, rfl⟩
    have HGD : Hid (headGood gen bs ↔ q.fits = true ∧ (HeadP.of q gen bs).Ok) := by
      unfold Hid headGood
      rw [hq]
      exact ⟨fun h => h.2, fun h => ⟨hlen, h⟩⟩
    have HOF : Hid (headGood gen bs → headOf gen bs = HeadP.of q gen bs ∧ headErr gen bs = 0) := fun h => by
      unfold headOf headErr
      rw [if_pos h, if_pos h, hq]
      exact ⟨rfl, rfl⟩
    have HNG : Hid (¬ headGood gen bs → headOf gen bs = HeadP.zero ∧ headErr gen bs = 5) := fun h => by
      unfold headOf headErr
      rw [if_neg h, if_neg h]
      exact ⟨rfl, rfl⟩
    rw [hq] at HPU HAG
    have HE5 : Hid (¬ headGood gen bs → ∀ W, Below w.heap.size w W → SUnp gen bs w (.returned (.tuple #[.agg HeadP.zero.cells, .int .i64 5])) W) := fun h W hW => ⟨by rw [(HNG.out h).1, (HNG.out h).2], hW⟩
    have hwr : ∀ n : Nat, True := fun _ => trivial
    clear hq hlen hne hl HV hwr
    go_enter Try.func9, Try.ntmps9
    go_upto_region 1 with (fail)
    change (Code.region _ _ _).wp _ _ _ (w.alloc (.cells HeadP.zero.cells 26))
    generalize w.alloc (.cells HeadP.zero.cells 26) = w0 at HZ0 HB0 ⊢
    go_upto_region 4 with (first
      | (go_at_call 35; (with_reducible refine (HPU.out _ HB0.out).mono ?_); rintro e w1 ⟨rfl, hb1⟩; have HB1 := Lib.hid hb1; clear hb1)
      | (refine wpList_store_row (o := ⟨none, _, _, _, _, _⟩) rfl 24 (.tmp 6) (.tmp 20) rfl w1.heap.size q.unp.cells rfl rfl 24 PlanP.zero.cells (heap_alloc_new _ _) (kr_sz _) rfl ?_ ?_; exact kp_one _))
    change (Code.region _ _ _).wp _ _ _ ((w1.alloc (.cells PlanP.zero.cells 24)).setRow w1.heap.size q.unp.cells)
    have hb2 : Below w1.heap.size w1 ((w1.alloc (.cells PlanP.zero.cells 24)).setRow w1.heap.size q.unp.cells) := below_setRow ((Below.refl _ _).alloc (Nat.le_refl _) _) (Nat.le_refl _) _
    have hP2 : ((w1.alloc (.cells PlanP.zero.cells 24)).setRow w1.heap.size q.unp.cells).heap[w1.heap.size]? = some (.cells q.unp.cells 24 (0, 0)) := setRow_heap _ _ _ _ _ _ (heap_alloc_new _ _)
    generalize (w1.alloc (.cells PlanP.zero.cells 24)).setRow w1.heap.size q.unp.cells = w2 at hb2 hP2 ⊢
    obtain ⟨P, hPe⟩ : ∃ P, w1.heap.size = P := ⟨_, rfl⟩
    rw [hPe] at hP2 ⊢
    have hb02 : Below w0.heap.size w0 w2 := HB1.out.trans (hb2.mono HB1.out.size)
    have HZ2 := Lib.hid ((hb02.block _ (blk_lt HZ0.out)).trans HZ0.out)
    have HB2 := Lib.hid (HB0.out.trans (hb02.mono HB0.out.size))
    have HP2 := Lib.hid hP2
    clear hb2 hP2 hPe hb02 HB1 HB0 HZ0 HPU
    cases hf : q.fits with
    | false =>
      have HNO : Hid (¬ headGood gen bs) := fun h => by have := (HGD.out.1 h).1; rw [hf] at this; cases this
      have e2 : q.err = 12 := (plan_fit_no hf).2
      rw [e2]
      clear hf e2 O0 O1 O2 O3 O4
      go_wp2_with (refine wpList_store_row (o := ⟨none, _, _, _, _, _⟩) rfl 26 (.tmp 4) (.tmp 24) rfl w.heap.size HeadP.zero.cells rfl rfl 26 HeadP.zero.cells HZ2.out (khd_sz _) rfl ?_ ?_; exact kh_one _)
      exact bodyPost_ret (srefUnp_res _ w.heap.size HeadP.zero 5 _ (setRow_heap _ _ _ _ _ _ HZ2.out) rfl rfl) rfl (HE5.out HNO.out _ (below_setRow HB2.out (Nat.le_refl _) _))
    | true =>
      have e2 : q.err = 0 := (plan_fit_yes hf).2
      have e3 : q.unp = q := by unfold PlanP.unp; rw [hf]; rfl
      rw [e3] at HP2
      rw [e2]
      have HFT := Lib.hid hf
      clear hf e2 e3
      go_upto_region 6 with (fail)
      have hb0 : Below w.heap.size w w2.drew := HB2.out.drew
      have ka0 : (38 : Int) ≤ cap := by omega
      have ka1 : (47 : Int) ≤ cap := by omega
      have ka2 : (55 : Int) ≤ cap := by omega
      have kb0 : ¬ (cap = 30) := by omega
      have kb1 : ¬ (cap = 39) := by omega
      have kb2 : ¬ (cap = 47) := by omega
      have kb3 : ¬ (cap = 55) := by omega
      have kb4 : ¬ (cap = 26) := by omega
      have kc0 : ¬ ((30 : Int) = cap) := by omega
      have kc1 : ¬ ((39 : Int) = cap) := by omega
      have kc2 : ¬ ((47 : Int) = cap) := by omega
      have kc3 : ¬ ((55 : Int) = cap) := by omega
      have kc4 : ¬ ((26 : Int) = cap) := by omega
      have kd0 : ¬ (30 = cap) := by omega
      have kd1 : ¬ (39 = cap) := by omega
      have kd2 : ¬ (47 = cap) := by omega
      have kd3 : ¬ (55 = cap) := by omega
      have kd4 : ¬ (26 = cap) := by omega
      have ke0 : 30 < cap := by omega
      have ke1 : 39 < cap := by omega
      have ke2 : 47 < cap := by omega
      have ke3 : 55 < cap := by omega
      have ke4 : 26 < cap := by omega
      have ka4 : (30 : Int) ≤ cap := by omega
      go_cut [8] (fun s8 wx => s8 = .pointer (some ⟨w2.heap.size, 0, none⟩) ∧ (w2.alloc (.cells #[.int .u64 x0, .int .u64 x1, .int .u64 x2, .int .u64 x3] 85)).drew = wx)
      case first =>
        go_region_held3 (fun W => Below w.heap.size w W) (first | assumption | exact Below.drew (by assumption) | exact (HB2.out.alloc HB2.out.size _).drew | exact Below.alloc (by assumption) (Below.size (by assumption)) _)
          (first | (go_at_call 36; first | ((with_reducible refine (O0.out _ (by assumption)).mono ?_); rintro e w' ⟨rfl, rfl⟩) | ((with_reducible refine (O1.out _ (by assumption)).mono ?_); rintro e w' ⟨rfl, rfl⟩) | ((with_reducible refine (O2.out _ (by assumption)).mono ?_); rintro e w' ⟨rfl, rfl⟩) | ((with_reducible refine (O3.out _ (by assumption)).mono ?_); rintro e w' ⟨rfl, rfl⟩)))
        all_goals (go_wp2_with fail)
        all_goals go_meet
        all_goals exact ⟨rfl, rfl⟩
      case rest =>
        obtain ⟨rfl, rfl⟩ := hcut
        have hQ : (w2.alloc (.cells #[.int .u64 x0, .int .u64 x1, .int .u64 x2, .int .u64 x3] 85)).drew.heap[w2.heap.size]? = some (.cells #[.int .u64 x0, .int .u64 x1, .int .u64 x2, .int .u64 x3] 85 (0, 0)) := heap_alloc_new w2 _
        have hZ : (w2.alloc (.cells #[.int .u64 x0, .int .u64 x1, .int .u64 x2, .int .u64 x3] 85)).drew.heap[w.heap.size]? = some (.cells HeadP.zero.cells 26 (0, 0)) := blk_alloc HZ2.out _
        have hPP : (w2.alloc (.cells #[.int .u64 x0, .int .u64 x1, .int .u64 x2, .int .u64 x3] 85)).drew.heap[P]? = some (.cells q.cells 24 (0, 0)) := blk_alloc HP2.out _
        have hBB : Below w.heap.size w (w2.alloc (.cells #[.int .u64 x0, .int .u64 x1, .int .u64 x2, .int .u64 x3] 85)).drew := (HB2.out.alloc HB2.out.size _).drew
        obtain ⟨w3, hw3⟩ : ∃ w3, (w2.alloc (.cells #[.int .u64 x0, .int .u64 x1, .int .u64 x2, .int .u64 x3] 85)).drew = w3 := ⟨_, rfl⟩
        obtain ⟨Q, hQe⟩ : ∃ Q, w2.heap.size = Q := ⟨_, rfl⟩
        rw [hw3] at hQ hZ hPP hBB ⊢
        rw [hQe] at hQ ⊢
        have HQ3 := Lib.hid hQ
        have HZ3 := Lib.hid hZ
        have HP3 := Lib.hid hPP
        have HB3 := Lib.hid hBB
        have c0 : w3.cell? ⟨Q, 0, none⟩ = some (.int .u64 x0) := blk_cell hQ 0
        have c1 : w3.cell? ⟨Q, 1, none⟩ = some (.int .u64 x1) := blk_cell hQ 1
        have c2 : w3.cell? ⟨Q, 2, none⟩ = some (.int .u64 x2) := blk_cell hQ 2
        have c3 : w3.cell? ⟨Q, 3, none⟩ = some (.int .u64 x3) := blk_cell hQ 3
        clear hQ hZ hPP hBB hw3 hQe hb0 HZ2 HP2 HB2 O0 O1 O2 O3
        have HLP : Hid (∀ i : Nat, i < 4 → ∃ x, w3.cell? ⟨Q, i, none⟩ = some (.int .u64 x) ∧ (9223372036854775807 < x → ¬ headGood gen bs) ∧ ((i = 0 → x = x0) ∧ (i = 1 → x = x1) ∧ (i = 2 → x = x2) ∧ (i = 3 → x = x3))) := fun i hi => by
          rcases (by omega : i = 0 ∨ i = 1 ∨ i = 2 ∨ i = 3) with rfl | rfl | rfl | rfl
          · exact ⟨x0, c0, fun h => great_not (.inl (HM0.out.1 h)), fun _ => rfl, fun h => (by omega), fun h => (by omega), fun h => (by omega)⟩
          · exact ⟨x1, c1, fun h => great_not (.inr (.inl (HM1.out.1 h))), fun h => (by omega), fun _ => rfl, fun h => (by omega), fun h => (by omega)⟩
          · exact ⟨x2, c2, fun h => great_not (.inr (.inr (.inl (HM2.out.1 h)))), fun h => (by omega), fun h => (by omega), fun _ => rfl, fun h => (by omega)⟩
          · exact ⟨x3, c3, fun h => great_not (.inr (.inr (.inr (HM3.out.1 h)))), fun h => (by omega), fun h => (by omega), fun h => (by omega), fun _ => rfl⟩
        clear c0 c1 c2 c3
        go_wp2
        go_loop [9] (fun iv => ∃ i : Nat, i ≤ 4 ∧ iv = .int .i64 i) (fun iv => 4 - (intOf iv).toNat)
        case atStart => exact ⟨0, by omega, rfl⟩
        case round =>
          obtain ⟨i, hi4, rfl⟩ := hrel
          by_cases hlt : i < 4
          · obtain ⟨x, cx, hx, _⟩ := HLP.out i hlt
            have i0 : (0 : Int) ≤ i := by omega
            have i1 : (i : Int) < 4 := by omega
            have w1 : wrap64 ((i : Int) + 1) = ((i + 1 : Nat) : Int) := by unfold wrap64; omega
            by_cases hgt : 9223372036854775807 < x
            · have HNO := Lib.hid (hx hgt)
              clear hx
              go_wp2_with (refine wpList_store_row (o := ⟨none, _, _, _, _, _⟩) rfl 26 (.tmp 4) (.tmp 46) rfl w.heap.size HeadP.zero.cells rfl rfl 26 HeadP.zero.cells HZ3.out (khd_sz _) rfl ?_ ?_; exact kh_one _)
              exact bodyPost_ret (srefUnp_res _ w.heap.size HeadP.zero 5 _ (setRow_heap _ _ _ _ _ _ HZ3.out) rfl rfl) rfl (HE5.out HNO.out _ (below_setRow HB3.out (Nat.le_refl _) _))
            · clear hx
              go_wp2
              exact ⟨⟨i + 1, by omega, rfl⟩, by simp [intOf]; omega⟩
          · obtain rfl : i = 4 := by omega
            clear hlt hi4
            have HS0 : Hid (w3.drew.cell? ⟨P, 0, none⟩ = some (.int .i64 q.sectors) ∧ w3.drew.cell? ⟨P, 1, none⟩ = some (.int .i64 q.size) ∧ w3.drew.cell? ⟨P, 2, none⟩ = some (.int .i64 q.regions) ∧ w3.drew.cell? ⟨P, 3, none⟩ = some (.int .i64 q.rs) ∧ w3.drew.cell? ⟨P, 4, none⟩ = some (.int .i64 q.log) ∧ w3.drew.cell? ⟨P, 5, none⟩ = some (.int .i64 q.depth) ∧ w3.drew.cell? ⟨P, 6, none⟩ = some (.int .i64 q.memory) ∧ w3.drew.cell? ⟨P, 7, none⟩ = some (.int .u64 (U q.seed)) ∧ w3.drew.cell? ⟨Q, 0, none⟩ = some (.int .u64 x0) ∧ w3.drew.cell? ⟨Q, 1, none⟩ = some (.int .u64 x1) ∧ w3.drew.cell? ⟨Q, 2, none⟩ = some (.int .u64 x2) ∧ w3.drew.cell? ⟨Q, 3, none⟩ = some (.int .u64 x3) ∧ w3.drew.cell? ⟨g, off + 38, none⟩ = some (.int .u8 y) ∧ Below w.heap.size w w3.drew) := ⟨blk_cell HP3.out 0, blk_cell HP3.out 1, blk_cell HP3.out 2, blk_cell HP3.out 3, blk_cell HP3.out 4, blk_cell HP3.out 5, blk_cell HP3.out 6, blk_cell HP3.out 7, blk_cell HQ3.out 0, blk_cell HQ3.out 1, blk_cell HQ3.out 2, blk_cell HQ3.out 3, HC38.out _ HB3.out.drew, HB3.out.drew⟩
            have HDR : Hid (∀ V : World, (V.cell? ⟨P, 0, none⟩ = some (.int .i64 q.sectors) ∧ V.cell? ⟨P, 1, none⟩ = some (.int .i64 q.size) ∧ V.cell? ⟨P, 2, none⟩ = some (.int .i64 q.regions) ∧ V.cell? ⟨P, 3, none⟩ = some (.int .i64 q.rs) ∧ V.cell? ⟨P, 4, none⟩ = some (.int .i64 q.log) ∧ V.cell? ⟨P, 5, none⟩ = some (.int .i64 q.depth) ∧ V.cell? ⟨P, 6, none⟩ = some (.int .i64 q.memory) ∧ V.cell? ⟨P, 7, none⟩ = some (.int .u64 (U q.seed)) ∧ V.cell? ⟨Q, 0, none⟩ = some (.int .u64 x0) ∧ V.cell? ⟨Q, 1, none⟩ = some (.int .u64 x1) ∧ V.cell? ⟨Q, 2, none⟩ = some (.int .u64 x2) ∧ V.cell? ⟨Q, 3, none⟩ = some (.int .u64 x3) ∧ V.cell? ⟨g, off + 38, none⟩ = some (.int .u8 y) ∧ Below w.heap.size w V) → (V.drew.cell? ⟨P, 0, none⟩ = some (.int .i64 q.sectors) ∧ V.drew.cell? ⟨P, 1, none⟩ = some (.int .i64 q.size) ∧ V.drew.cell? ⟨P, 2, none⟩ = some (.int .i64 q.regions) ∧ V.drew.cell? ⟨P, 3, none⟩ = some (.int .i64 q.rs) ∧ V.drew.cell? ⟨P, 4, none⟩ = some (.int .i64 q.log) ∧ V.drew.cell? ⟨P, 5, none⟩ = some (.int .i64 q.depth) ∧ V.drew.cell? ⟨P, 6, none⟩ = some (.int .i64 q.memory) ∧ V.drew.cell? ⟨P, 7, none⟩ = some (.int .u64 (U q.seed)) ∧ V.drew.cell? ⟨Q, 0, none⟩ = some (.int .u64 x0) ∧ V.drew.cell? ⟨Q, 1, none⟩ = some (.int .u64 x1) ∧ V.drew.cell? ⟨Q, 2, none⟩ = some (.int .u64 x2) ∧ V.drew.cell? ⟨Q, 3, none⟩ = some (.int .u64 x3) ∧ V.drew.cell? ⟨g, off + 38, none⟩ = some (.int .u8 y) ∧ Below w.heap.size w V.drew)) := fun V h => by
              obtain ⟨a0, a1, a2, a3, a4, a5, a6, a7, a8, a9, a10, a11, a12, b⟩ := h
              exact ⟨a0, a1, a2, a3, a4, a5, a6, a7, a8, a9, a10, a11, a12, b.drew⟩
            have HAL : Hid (∀ (V : World) (c : Obj), (V.cell? ⟨P, 0, none⟩ = some (.int .i64 q.sectors) ∧ V.cell? ⟨P, 1, none⟩ = some (.int .i64 q.size) ∧ V.cell? ⟨P, 2, none⟩ = some (.int .i64 q.regions) ∧ V.cell? ⟨P, 3, none⟩ = some (.int .i64 q.rs) ∧ V.cell? ⟨P, 4, none⟩ = some (.int .i64 q.log) ∧ V.cell? ⟨P, 5, none⟩ = some (.int .i64 q.depth) ∧ V.cell? ⟨P, 6, none⟩ = some (.int .i64 q.memory) ∧ V.cell? ⟨P, 7, none⟩ = some (.int .u64 (U q.seed)) ∧ V.cell? ⟨Q, 0, none⟩ = some (.int .u64 x0) ∧ V.cell? ⟨Q, 1, none⟩ = some (.int .u64 x1) ∧ V.cell? ⟨Q, 2, none⟩ = some (.int .u64 x2) ∧ V.cell? ⟨Q, 3, none⟩ = some (.int .u64 x3) ∧ V.cell? ⟨g, off + 38, none⟩ = some (.int .u8 y) ∧ Below w.heap.size w V) → ((V.alloc c).cell? ⟨P, 0, none⟩ = some (.int .i64 q.sectors) ∧ (V.alloc c).cell? ⟨P, 1, none⟩ = some (.int .i64 q.size) ∧ (V.alloc c).cell? ⟨P, 2, none⟩ = some (.int .i64 q.regions) ∧ (V.alloc c).cell? ⟨P, 3, none⟩ = some (.int .i64 q.rs) ∧ (V.alloc c).cell? ⟨P, 4, none⟩ = some (.int .i64 q.log) ∧ (V.alloc c).cell? ⟨P, 5, none⟩ = some (.int .i64 q.depth) ∧ (V.alloc c).cell? ⟨P, 6, none⟩ = some (.int .i64 q.memory) ∧ (V.alloc c).cell? ⟨P, 7, none⟩ = some (.int .u64 (U q.seed)) ∧ (V.alloc c).cell? ⟨Q, 0, none⟩ = some (.int .u64 x0) ∧ (V.alloc c).cell? ⟨Q, 1, none⟩ = some (.int .u64 x1) ∧ (V.alloc c).cell? ⟨Q, 2, none⟩ = some (.int .u64 x2) ∧ (V.alloc c).cell? ⟨Q, 3, none⟩ = some (.int .u64 x3) ∧ (V.alloc c).cell? ⟨g, off + 38, none⟩ = some (.int .u8 y) ∧ Below w.heap.size w (V.alloc c))) := fun V c h => by
              obtain ⟨a0, a1, a2, a3, a4, a5, a6, a7, a8, a9, a10, a11, a12, b⟩ := h
              exact ⟨cell_alloc a0, cell_alloc a1, cell_alloc a2, cell_alloc a3, cell_alloc a4, cell_alloc a5, cell_alloc a6, cell_alloc a7, cell_alloc a8, cell_alloc a9, cell_alloc a10, cell_alloc a11, cell_alloc a12, b.alloc b.size _⟩
            have HSB : Hid (∀ V : World, (V.cell? ⟨P, 0, none⟩ = some (.int .i64 q.sectors) ∧ V.cell? ⟨P, 1, none⟩ = some (.int .i64 q.size) ∧ V.cell? ⟨P, 2, none⟩ = some (.int .i64 q.regions) ∧ V.cell? ⟨P, 3, none⟩ = some (.int .i64 q.rs) ∧ V.cell? ⟨P, 4, none⟩ = some (.int .i64 q.log) ∧ V.cell? ⟨P, 5, none⟩ = some (.int .i64 q.depth) ∧ V.cell? ⟨P, 6, none⟩ = some (.int .i64 q.memory) ∧ V.cell? ⟨P, 7, none⟩ = some (.int .u64 (U q.seed)) ∧ V.cell? ⟨Q, 0, none⟩ = some (.int .u64 x0) ∧ V.cell? ⟨Q, 1, none⟩ = some (.int .u64 x1) ∧ V.cell? ⟨Q, 2, none⟩ = some (.int .u64 x2) ∧ V.cell? ⟨Q, 3, none⟩ = some (.int .u64 x3) ∧ V.cell? ⟨g, off + 38, none⟩ = some (.int .u8 y) ∧ Below w.heap.size w V) → Below w.heap.size w V) := fun V h => by
              obtain ⟨a0, a1, a2, a3, a4, a5, a6, a7, a8, a9, a10, a11, a12, b⟩ := h
              exact b
            clear HLP
            go_upto_region 12 with (fail)
            go_cut [10] (fun s10 wx => s10 = .pointer (some ⟨w3.heap.size, 0, none⟩) ∧ (w3.alloc (.cells #[.int .i64 q.sectors, .int .i64 q.size, .int .i64 q.regions, .int .i64 q.rs, .int .i64 q.log, .int .i64 q.depth, .int .i64 q.memory, .int .u64 (U q.seed), .int .i64 gen, .int .i64 (IntKind.i64.wrap x4), .int .i64 (IntKind.i64.wrap x0), .int .i64 (IntKind.i64.wrap y), .int .i64 (IntKind.i64.wrap x1), .int .i64 (IntKind.i64.wrap x2), .int .i64 (IntKind.i64.wrap x3)] 26)).drew = wx)
            case first =>
              go_region_held3 (fun W => W.cell? ⟨P, 0, none⟩ = some (.int .i64 q.sectors) ∧ W.cell? ⟨P, 1, none⟩ = some (.int .i64 q.size) ∧ W.cell? ⟨P, 2, none⟩ = some (.int .i64 q.regions) ∧ W.cell? ⟨P, 3, none⟩ = some (.int .i64 q.rs) ∧ W.cell? ⟨P, 4, none⟩ = some (.int .i64 q.log) ∧ W.cell? ⟨P, 5, none⟩ = some (.int .i64 q.depth) ∧ W.cell? ⟨P, 6, none⟩ = some (.int .i64 q.memory) ∧ W.cell? ⟨P, 7, none⟩ = some (.int .u64 (U q.seed)) ∧ W.cell? ⟨Q, 0, none⟩ = some (.int .u64 x0) ∧ W.cell? ⟨Q, 1, none⟩ = some (.int .u64 x1) ∧ W.cell? ⟨Q, 2, none⟩ = some (.int .u64 x2) ∧ W.cell? ⟨Q, 3, none⟩ = some (.int .u64 x3) ∧ W.cell? ⟨g, off + 38, none⟩ = some (.int .u8 y) ∧ Below w.heap.size w W) (first | assumption | exact HS0.out | exact HDR.out _ (by assumption) | exact HAL.out _ _ (by assumption) | exact HDR.out _ (HAL.out _ _ HS0.out) | exact HAL.out _ _ HS0.out)
                (first | (go_at_call 36; (with_reducible refine (O4.out _ (by first | assumption | exact HSB.out _ (by assumption) | exact HSB.out _ HS0.out)).mono ?_); rintro e w' ⟨rfl, rfl⟩))
              all_goals (go_wp2_with fail)
              all_goals go_meet
              all_goals exact ⟨rfl, rfl⟩
            case rest =>
              obtain ⟨rfl, rfl⟩ := hcut
              clear HS0 HDR HAL HSB O4 HC38
              obtain ⟨h, hh⟩ : ∃ h : HeadP, (⟨q, gen, IntKind.i64.wrap x4, IntKind.i64.wrap x0, IntKind.i64.wrap y, IntKind.i64.wrap x1, IntKind.i64.wrap x2, IntKind.i64.wrap x3⟩ : HeadP) = h := ⟨_, rfl⟩
              have hof : HeadP.of q gen bs = h := by
                rw [← hh]
                unfold HeadP.of
                rw [HX4.out, HX0.out, HY38.out, HX1.out, HX2.out, HX3.out]
              have hcs : h.cells = #[.int .i64 q.sectors, .int .i64 q.size, .int .i64 q.regions, .int .i64 q.rs, .int .i64 q.log, .int .i64 q.depth, .int .i64 q.memory, .int .u64 (U q.seed), .int .i64 gen, .int .i64 (IntKind.i64.wrap x4), .int .i64 (IntKind.i64.wrap x0), .int .i64 (IntKind.i64.wrap y), .int .i64 (IntKind.i64.wrap x1), .int .i64 (IntKind.i64.wrap x2), .int .i64 (IntKind.i64.wrap x3)] := by rw [← hh]; rfl
              have hhq : h.plan = q := by rw [← hh]
              have hH : (w3.alloc (.cells #[.int .i64 q.sectors, .int .i64 q.size, .int .i64 q.regions, .int .i64 q.rs, .int .i64 q.log, .int .i64 q.depth, .int .i64 q.memory, .int .u64 (U q.seed), .int .i64 gen, .int .i64 (IntKind.i64.wrap x4), .int .i64 (IntKind.i64.wrap x0), .int .i64 (IntKind.i64.wrap y), .int .i64 (IntKind.i64.wrap x1), .int .i64 (IntKind.i64.wrap x2), .int .i64 (IntKind.i64.wrap x3)] 26)).drew.heap[w3.heap.size]? = some (.cells h.cells 26 (0, 0)) := by rw [hcs]; exact heap_alloc_new w3 _
              have hZ : (w3.alloc (.cells #[.int .i64 q.sectors, .int .i64 q.size, .int .i64 q.regions, .int .i64 q.rs, .int .i64 q.log, .int .i64 q.depth, .int .i64 q.memory, .int .u64 (U q.seed), .int .i64 gen, .int .i64 (IntKind.i64.wrap x4), .int .i64 (IntKind.i64.wrap x0), .int .i64 (IntKind.i64.wrap y), .int .i64 (IntKind.i64.wrap x1), .int .i64 (IntKind.i64.wrap x2), .int .i64 (IntKind.i64.wrap x3)] 26)).drew.heap[w.heap.size]? = some (.cells HeadP.zero.cells 26 (0, 0)) := blk_alloc HZ3.out _
              have hB : Below w.heap.size w (w3.alloc (.cells #[.int .i64 q.sectors, .int .i64 q.size, .int .i64 q.regions, .int .i64 q.rs, .int .i64 q.log, .int .i64 q.depth, .int .i64 q.memory, .int .u64 (U q.seed), .int .i64 gen, .int .i64 (IntKind.i64.wrap x4), .int .i64 (IntKind.i64.wrap x0), .int .i64 (IntKind.i64.wrap y), .int .i64 (IntKind.i64.wrap x1), .int .i64 (IntKind.i64.wrap x2), .int .i64 (IntKind.i64.wrap x3)] 26)).drew := (HB3.out.alloc HB3.out.size _).drew
              obtain ⟨w4, hw4⟩ : ∃ w4, (w3.alloc (.cells #[.int .i64 q.sectors, .int .i64 q.size, .int .i64 q.regions, .int .i64 q.rs, .int .i64 q.log, .int .i64 q.depth, .int .i64 q.memory, .int .u64 (U q.seed), .int .i64 gen, .int .i64 (IntKind.i64.wrap x4), .int .i64 (IntKind.i64.wrap x0), .int .i64 (IntKind.i64.wrap y), .int .i64 (IntKind.i64.wrap x1), .int .i64 (IntKind.i64.wrap x2), .int .i64 (IntKind.i64.wrap x3)] 26)).drew = w4 := ⟨_, rfl⟩
              obtain ⟨H, hHe⟩ : ∃ H, w3.heap.size = H := ⟨_, rfl⟩
              rw [hw4] at hH hZ hB ⊢
              rw [hHe] at hH ⊢
              have HH4 := Lib.hid hH
              have HZ4 := Lib.hid hZ
              have HB4 := Lib.hid hB
              rw [hof] at HGD HOF HAG
              have HPK := Lib.hid (fun W => srefPack_any h W)
              have HFH : Hid (h.plan.fits = true) := by rw [hhq]; exact HFT.out
              have HCS := Lib.hid (fun W (hW : Below w.heap.size w W) => conv_str (HBY.out W hW))
              clear hH hZ hB hw4 hHe hh hcs hhq hof HZ3 HP3 HQ3 HX0 HX1 HX2 HX3 HX4 HY38 HM0 HM1 HM2 HM3 HM4 HBY
              by_cases hok : h.Ok
              · have hg : headGood gen bs := HGD.out.2 ⟨HFT.out, hok⟩
                have HE0 : Hid (headOf gen bs = h ∧ headErr gen bs = 0) := HOF.out hg
                have he : h.err = 0 := by unfold HeadP.err; rw [HFH.out, if_pos hok]; rfl
                have hld : h.load = bs := by unfold HeadP.load; rw [if_pos he]; exact HAG.out
                rw [he, hld] at HPK
                have hbe : ((strB bs).toList == (strB bs).toList) = true := by rw [strB_beq]; simp
                clear hg he hld hok HNG HOF HGD HE5
                go_wp2_with (first
                  | (refine wpList_load_row (o := ⟨some 71, _, _, _, _, _⟩) rfl 26 (.tmp 10) rfl H rfl 26 h.cells (0, 0) _ HH4.out Try.underlying26 rfl (khd_sz _) ?_)
                  | (go_at_call 7; (with_reducible refine (HPK.out _).mono ?_); rintro e w5 ⟨u5, rfl, hu5, hb5⟩; have hc5 := conv_str (BytesAt.of_owns hu5); have hc0 := HCS.out _ (HB4.out.trans (hb5.mono HB4.out.size)); have HB5 := Lib.hid hb5; have HH5 := Lib.hid ((hb5.block _ (blk_lt HH4.out)).trans HH4.out); have HZ5 := Lib.hid ((hb5.block _ (blk_lt HZ4.out)).trans HZ4.out); clear hu5 hb5)
                  | (refine wpList_load_row (o := ⟨some 85, _, _, _, _, _⟩) rfl 26 (.tmp 10) rfl H rfl 26 h.cells (0, 0) _ HH5.out Try.underlying26 rfl (khd_sz _) ?_)
                  | (refine wpList_store_row (o := ⟨none, _, _, _, _, _⟩) rfl 26 (.tmp 4) (.tmp 85) rfl w.heap.size h.cells rfl rfl 26 HeadP.zero.cells HZ5.out (khd_sz _) rfl ?_ ?_; exact kh_one _))
                exact bodyPost_ret (srefUnp_res _ w.heap.size h 0 _ (setRow_heap _ _ _ _ _ _ HZ5.out) rfl rfl) rfl ⟨by rw [HE0.out.1, HE0.out.2], below_setRow (HB4.out.trans (HB5.out.mono HB4.out.size)) (Nat.le_refl _) _⟩
              · have HNO : Hid (¬ headGood gen bs) := fun hg => hok (HGD.out.1 hg).2
                have he : h.err = 1 := by unfold HeadP.err; rw [HFH.out, if_neg hok]; rfl
                have hld : h.load = [] := by unfold HeadP.load; rw [he]; rfl
                rw [he, hld] at HPK
                clear he hld hok HNG HOF HGD
                go_wp2_with (first
                  | (refine wpList_load_row (o := ⟨some 71, _, _, _, _, _⟩) rfl 26 (.tmp 10) rfl H rfl 26 h.cells (0, 0) _ HH4.out Try.underlying26 rfl (khd_sz _) ?_)
                  | (go_at_call 7; (with_reducible refine (HPK.out _).mono ?_); rintro e w5 ⟨u5, rfl, hu5, hb5⟩; have HB5 := Lib.hid hb5; have HZ5 := Lib.hid ((hb5.block _ (blk_lt HZ4.out)).trans HZ4.out); clear hu5 hb5)
                  | (refine wpList_store_row (o := ⟨none, _, _, _, _, _⟩) rfl 26 (.tmp 4) (.tmp 84) rfl w.heap.size HeadP.zero.cells rfl rfl 26 HeadP.zero.cells HZ5.out (khd_sz _) rfl ?_ ?_; exact kh_one _))
                exact bodyPost_ret (srefUnp_res _ w.heap.size HeadP.zero 5 _ (setRow_heap _ _ _ _ _ _ HZ5.out) rfl rfl) rfl (HE5.out HNO.out _ (below_setRow (HB4.out.trans (HB5.out.mono HB4.out.size)) (Nat.le_refl _) _))
  · have HNO : Hid (¬ headGood gen bs) := fun h => hlen h.1
    have HNG : Hid (¬ headGood gen bs → headOf gen bs = HeadP.zero ∧ headErr gen bs = 5) := fun h => by
      unfold headOf headErr
      rw [if_neg h, if_neg h]
      exact ⟨rfl, rfl⟩
    have e1 : ((bs.length : Int) != 63) = true := by simp; omega
    have l1 : (bs.length : Int) ≤ 549755813888 := by omega
    clear hlen HV
    go_enter Try.func9, Try.ntmps9
    go_upto_region 1 with (fail)
    change (Code.region _ _ _).wp _ _ _ (w.alloc (.cells HeadP.zero.cells 26))
    generalize w.alloc (.cells HeadP.zero.cells 26) = w0 at HZ0 HB0 ⊢
    go_wp2_with (refine wpList_store_row (o := ⟨none, _, _, _, _, _⟩) rfl 26 (.tmp 4) (.tmp 15) rfl w.heap.size HeadP.zero.cells rfl rfl 26 HeadP.zero.cells HZ0.out (khd_sz _) rfl ?_ ?_; exact kh_one _)
    exact bodyPost_ret (srefUnp_res _ w.heap.size HeadP.zero 5 _ (setRow_heap _ _ _ _ _ _ HZ0.out) rfl rfl) rfl ⟨by rw [(HNG.out HNO.out).1, (HNG.out HNO.out).2], below_setRow HB0.out (Nat.le_refl _) _⟩
end Go.Proofs.Ytfdipeaddofjaaa

/-
  super.Heads of no device.
  Conditions: none.
-/
import Derived.Test.YthdnpomfjhehkaaJS2
import Derived.Test.YthdnpomfjhehkaaSupNil1
namespace Go.Proofs.Ythdnpomfjhehkaa
open Go.RowKit Go.Shelf
attribute [local go_sem] Oper.semAt_some

set_option maxRecDepth 100000 in
set_option maxHeartbeats 4000000 in
/-- The iterator of no device. -/
theorem headsOf1_nil (l Bp Bx n₀ : Nat) (W0 : World) (Rdy : World → Prop)
    (hBp : W0.heap[Bp]? = some (.cells #[.pointer none] 42 (0, 0))) (hBpx : Bp ≠ Bx) (hn0 : n₀ ≤ W0.heap.size)
    (hRdy : ∀ W W', Rdy W → Below W.heap.size W W' → Rdy W') (h0 : Rdy W0) (hB0 : Boxed W0 Bx 48 (.slice none 0 0)) (hBx : n₀ ≤ Bx)
    (hY : ∀ s x W, Rdy W → W0.heap.size ≤ W.heap.size → HPre n₀ Bx s W → YieldAt Fence.wide 1 Try.prog l #[.agg (x : HeadP × Int).1.cells, .int .i64 x.2] W fun e W' => e = .returned (.bool true) ∧ Rdy W' ∧ HBody n₀ Bx s x W W') :
    CallsIn Fence.wide 2 Try.prog 52 #[.func (.yield l) #[] #[], .pointer (some ⟨Bp, 0, none⟩)] W0 fun e W' => (∃ v, e = .returned v) ∧ Rdy W' ∧ HS n₀ Bx (([] : List HeadP)) W0 W' := by
  have HIN := Lib.hid (fun (i : Nat) W (_ : Below n₀ W0 W) => callsIn_wide (n := 1).2 (headIn_nil i W))
  have t1 : Fence.wide.fn 53 := trivial
  have HN := Lib.hid (show n₀ ≤ W0.heap.size ∧ n₀ ≤ Bx ∧ Bp ≠ Bx from ⟨hn0, hBx, hBpx⟩)
  have HR := Lib.hid hRdy
  have HY := Lib.hid hY
  have HBP := Lib.hid hBp
  have HP0 : Hid (HPre n₀ Bx ([], .slice none 0 0) W0) := ⟨hB0, World.ownsRow_nil _ _ _ _, by simp, hBx⟩
  clear hn0 hBx hBpx hRdy hY hBp hB0
  refine callsIn_of_wp Try.func52 rfl trivial ?_ rfl
  simp only [Try.ntmps52, List.size_toArray, List.length_cons, List.length_nil, Nat.reduceAdd, Nat.reduceSub, Array.replicate_succ, Array.replicate_zero, List.push_toArray, List.append_toArray, List.nil_append, List.cons_append]
  gi_wp2
  gi_loopw [4] (fun av wr => ∃ (m : Nat) (v : Value), av = .int .i64 m ∧ m ≤ 2 ∧ HPre n₀ Bx (([] : List HeadP), v) wr ∧ Below n₀ W0 wr ∧ Rdy wr ∧ wr.heap[Bp]? = some (.cells #[.pointer none] 42 (0, 0)) ∧ W0.heap.size ≤ wr.heap.size) (fun av _ => 2 - (intOf av).toNat)
  case atStart => exact ⟨0, _, rfl, by decide, HP0.out, Below.refl _ _, h0, HBP.out, Nat.le_refl _⟩
  case round =>
    obtain ⟨m, v, rfl, hm, hP, hb, hR, hbp, hsz⟩ := hrel
    have cBp : wr.cell? ⟨Bp, 0, none⟩ = some (.pointer none) := blk_cell hbp 0
    have HP := Lib.hid hP
    have HB := Lib.hid hb
    have HRW := Lib.hid hR
    have HBW := Lib.hid hbp
    have HSZ := Lib.hid hsz
    by_cases hlt : m < 2
    · have m1 : (m : Int) < 2 := by omega
      have HI := Lib.hid (HIN.out m wr hb)
      have HM := Lib.hid hlt
      obtain ⟨x, hx⟩ : ∃ x, HeadP.zero = x := ⟨_, rfl⟩
      obtain ⟨er, her⟩ : ∃ er : Int, 1 = er := ⟨_, rfl⟩
      have HNX : Hid (([] : List HeadP) = hNext [] (x, er)) := by unfold Hid hNext; rw [← her]; rfl
      have HI : Hid (CallsIn Fence.wide 1 Try.prog 53 #[.pointer none, .int .i64 m] wr fun e W' => e = .returned (.tuple #[.agg x.cells, .int .i64 er]) ∧ Below wr.heap.size wr W') := by
        have := HI.out
        rw [hx, her] at this
        exact this
      clear hP hb hR hbp hsz h0 HP0 hx her hlt
      gi_wp2_with (gi_at_call 53; (with_reducible refine HI.out.mono ?_); rintro e w1 ⟨rfl, hb1⟩; have HB1 := Lib.hid hb1; obtain ⟨fn, tmps, assign, body, hy, hRR⟩ := HY.out (([] : List HeadP), v) (x, er) w1 (HR.out _ _ HRW.out hb1) (Nat.le_trans HSZ.out hb1.size) ⟨(hb1.block _ (HP.out.1.lt)).trans HP.out.1, ownsRow_below HP.out.2.1 hb1, HP.out.2.2.1, HP.out.2.2.2⟩; have HRR := Lib.hid hRR; clear hb1 hRR)
      refine HRR.out.mono ?_
      rintro e W3 ⟨rfl, hr3, v', q1, q2, q3, q4⟩
      have hpre1 : Below n₀ wr w1 := HB1.out.mono (Nat.le_trans HN.out.1 HSZ.out)
      have HB3 := Lib.hid ((HB.out.trans hpre1).trans q3)
      have hbp1 := (HB1.out.block _ (blk_lt HBW.out)).trans HBW.out
      have HBP3 := Lib.hid (q4 Bp ⟨HN.out.2.2, own_ne (ownsRow_below HP.out.2.1 HB1.out) hbp1 (by decide)⟩ _ _ _ hbp1)
      have HS3 := Lib.hid (Nat.le_trans HSZ.out (Nat.le_trans HB1.out.size q3.size))
      have HR3 := Lib.hid hr3
      have HP3 : Hid (HPre n₀ Bx (([] : List HeadP), v') W3) := by
        refine ⟨q1, ?_, ?_, HN.out.2.1⟩
        · rw [HNX.out]; exact q2
        · show ([] : List HeadP).length ≤ 2; decide
      clear hr3 q1 q2 q3 q4 hpre1 hbp1
      gi_wp2
      go_roundw
      case rel => exact ⟨m + 1, v', by go_num, by have := HM.out; omega, HP3.out, HB3.out, HR3.out, HBP3.out, HS3.out⟩
      case measure => have := HM.out; simp [intOf]; omega
    · obtain rfl : m = 2 := by omega
      have HF : Hid (HS n₀ Bx (([] : List HeadP)) W0 wr) := ⟨v, hP.1, hP.2.1, hb⟩
      clear hP hb hbp hsz
      gi_wp2
      go_end0
      exact ⟨⟨_, rfl⟩, HRW.out, HF.out⟩
/-- What Heads leaves of no device. -/
def HeadsNil (W : World) (e : Ending) (W' : World) : Prop := ∃ v, e = .returned v ∧ W'.ownsRow W.heap.size 35 15 v ([] : List HeadP).length (rowsH (sortH [])) ∧ Below W.heap.size W W'

set_option maxRecDepth 100000 in
set_option maxHeartbeats 8000000 in
theorem heads_nil (w : World) : Calls Try.prog 16 #[.pointer none] w (HeadsNil w) := by
  obtain ⟨i0, hi, hz0, hz1, hz2⟩ := info_partsH infoHead
  refine (callsIn_wide (n := 3)).1 ?_
  refine callsIn_of_wp_marks Try.func16 rfl trivial ?_ rfl
  simp only [Try.ntmps16, List.size_toArray, List.length_cons, List.length_nil, Nat.reduceAdd, Nat.reduceSub, Array.replicate_succ, Array.replicate_zero, List.push_toArray, List.append_toArray, List.nil_append, List.cons_append]
  refine wpIn_wide.2 ?_
  go_wp2
  go_step3
  go_wp2
  go_step3
  go_wp2_with (go_at_call 37; (with_reducible refine (headsOf_any _ _).mono ?_); rintro e w' ⟨rfl, rfl⟩)
  obtain ⟨w2, hw2⟩ : ∃ w2, (w.alloc (.cells #[.slice none 0 0] 48)).alloc (.cells #[.pointer none] 42) = w2 := ⟨_, rfl⟩
  have z2 : w2.heap.size = w.heap.size + 2 := by rw [← hw2]; simp
  have b2 : Below w.heap.size w w2 := by rw [← hw2]; exact ((Below.refl _ w).alloc (Nat.le_refl _) _).alloc (by simp) _
  have hbx : Boxed w2 w.heap.size 48 (.slice none 0 0) := by rw [← hw2]; exact (Boxed.new w _ _).alloc _
  have hbp : w2.heap[w.heap.size + 1]? = some (.cells #[.pointer none] 42 (0, 0)) := by
    rw [← hw2]
    have := Boxed.new (w.alloc (.cells #[.slice none 0 0] 48)) 42 (.pointer none)
    rw [World.size_alloc] at this
    exact this
  rw [hw2]
  clear hw2
  have hn2 : w.heap.size ≤ w2.heap.size := by omega
  have HGS := Lib.hid (fun (v : Value) W (hr : W.ownsRow w.heap.size 35 15 v ([] : List HeadP).length (rowsH ([] : List HeadP))) => greatest_any w.heap.size [] (by decide) v W hr)
  have HB2 := Lib.hid b2
  refine (wpIn_wide (n := 3)).1 ?_
  refine rangeFunc_seen (F := Fence.wide) (γ := List HeadP × Value) rfl (by decide) (gf := 52) (lb := #[.pointer (some ⟨w.heap.size + 1, 0, none⟩)]) rfl trivial (enters_of Try.func52 (by kernel_rfl) rfl)
    (encs := fun x : HeadP × Int => #[.agg x.1.cells, .int .i64 x.2]) (fun _ => rfl) 35 (fun x => x.1.cells) (fun x b => { tmps := #[.pointer none, undef, .slice none 0 0, .pointer (some ⟨w.heap.size, 0, none⟩), .pointer (some ⟨b, 0, none⟩), .int .i64 x.2, .pointer none, .func (.func 52) #[] #[.pointer (some ⟨w.heap.size + 1, 0, none⟩)], .agg x.1.cells, .int .i64 x.2, undef, undef, undef, undef, undef, undef, undef, undef, undef], defers := [] }) (HPre w.heap.size w.heap.size) (HBody w.heap.size w.heap.size) (HS w.heap.size w.heap.size ([] : List HeadP) w2)
    (fun s W l o o' v _ hl ho h => h.turn hl ho)
    (fun s x W W' l o o1 o2 o' hn hl ho hl' ho1 h => h.turn (Nat.le_trans hn2 hn) hl ho hl' ho1)
    (fun W l o o' hn hl ho h => h.turn (Nat.le_trans hn2 hn) hl ho) ?ass ?body ?call ?done
  case ass =>
    intro l x W K hK
    unfold HeadP.cells at hK ⊢
    gi_wp2
    exact hK
  case body =>
    rintro l ⟨hs, lv⟩ x b W ⟨hv, hrow, hlen, hBx⟩ hle hbk
    have hv : Boxed W w.heap.size 48 lv := hv
    have hrow : W.ownsRow w.heap.size 35 15 lv hs.length (rowsH hs) := hrow
    have hlen : hs.length ≤ 2 := hlen
    have hbk : W.heap[b]? = some (.cells x.1.cells 35 (0, 0)) := hbk
    by_cases hx : x.2 = 0
    · have hnx : hNext hs x = hs ++ [x.1] := if_pos hx
      have e1 : (x.2 != 0) = false := by simpa using hx
      obtain ⟨d0, d1, d2, d3, d4, d5, d6, d7, d8, d9, d10, d11, d12, d13, d14⟩ := head_all (h := x.1) hbk (Below.refl _ _)
      have cB := hv.cell
      have hnew : ∀ (j : Nat) (u : Value), x.1.cells.toList[j]? = some u → (W.alloc (.cells #[.int .i64 x.1.plan.sectors, .int .i64 x.1.plan.size, .int .i64 x.1.plan.regions, .int .i64 x.1.plan.rs, .int .i64 x.1.plan.log, .int .i64 x.1.plan.depth, .int .i64 x.1.plan.memory, .int .u64 (U x.1.plan.seed), .int .i64 x.1.gen, .int .i64 x.1.page, .int .i64 x.1.stamp, .int .i64 x.1.depth, .int .i64 x.1.log, .int .i64 x.1.region, .int .i64 x.1.time] 35)).cell? ((⟨W.heap.size, 0, none⟩ : Addr).add j) = some u := by
        intro j u hj
        rw [add_plain, Nat.zero_add, blk_cell (heap_alloc_new _ _)]
        rw [Array.getElem?_toList] at hj
        exact hj
      have HROW := Lib.hid hrow
      have HBX := Lib.hid hv
      have HLE := Lib.hid (show w.heap.size ≤ W.heap.size from Nat.le_trans hn2 hle)
      have HLN := Lib.hid hlen
      have HNEW := Lib.hid hnew
      have HNX := Lib.hid hnx
      clear hv hrow hlen hBx hle hbk hnew hbx hbp b2 z2 hx hnx
      gi_wp2_with (gi_at_builtin; (refine wpListIn_append_own_at _ rfl _ _ 48 rfl w.heap.size 35 i0 _ 15 120 Try.underlying48 hi hz0 hz1 hz2 rfl (by decide) lv hs.length (rowsH hs) rfl (HROW.out.alloc _) ⟨W.heap.size, 0, none⟩ 1 1 x.1.cells.toList rfl rfl HNEW.out x.1.one (by have := HLN.out; unfold maxLen; omega) (by have := HLN.out; omega) (by have := HLE.out; simp; omega) ?_); intro v' w1 hown hgrow hnil hat; obtain ⟨g, cc, rfl⟩ := ownsRow_succ hown; obtain ⟨r1, r2, r3, r4, r5⟩ := Boxed.appended HBX.out (by decide) HROW.out HLE.out (Nat.le_refl _) hown hgrow; have cB1 := r1.cell; have fB1 := r1.frozen; have HR2 := Lib.hid r2; have HR3 := Lib.hid r3; have HR4 := Lib.hid r4; have HR5 := Lib.hid r5; have HGR := Lib.hid hgrow; clear hown hgrow hnil hat r1 r2 r3 r4 r5)
      refine ⟨HR4.out.from _, ⟨_, HR2.out, ?_, HR5.out, ((KeepsAt.alloc W _).trans (KeepsAt.grown HGR.out (fun k e h => h.2 e))).trans (KeepsAt.setCell _ _ _ (fun h => h.1 rfl))⟩⟩
      show World.ownsRow _ _ _ _ _ (hNext hs x).length (rowsH (hNext hs x))
      rw [HNX.out, rowsH_snoc, List.length_append, List.length_singleton]
      exact HR3.out
    · have hnx : hNext hs x = hs := if_neg hx
      have e1 : (x.2 != 0) = true := by simpa using hx
      have HF : Hid (KeepsFrom w2.heap.size W W ∧ HBody w.heap.size w.heap.size (hs, lv) x W W) := ⟨KeepsFrom.refl _ _, lv, hv, by show W.ownsRow _ _ _ _ (hNext hs x).length (rowsH (hNext hs x)); rw [hnx]; exact hrow, Below.refl _ _, KeepsAt.refl _ _⟩
      clear hv hrow hlen hBx hle hbk hbx hbp b2 z2 hx hnx
      gi_wp2
      exact HF.out
  case call =>
    intro l Rdy W0 hB hR h0 hY
    have hlt : w.heap.size + 1 < w2.heap.size := by omega
    refine (headsOf1_nil l (w.heap.size + 1) w.heap.size w.heap.size W0 Rdy ((hB.block _ hlt).trans hbp) (by omega) (Nat.le_trans hn2 hB.size) hR h0 ((hB.block _ (by omega)).trans hbx) (Nat.le_refl _) (fun s x W hr hle hp => hY s x W hr (Nat.le_trans hB.size hle) hp)).mono ?_
    rintro e W' ⟨he, hr, v, h2, h3, h5⟩
    exact ⟨he, hr, v, h2, h3, (hB.mono hn2).trans h5⟩
  case done =>
    rintro D2 W hD ⟨v, h2, h3, h5⟩ hK
    have hc := h2.cell
    have hne := own_ne h3 h2 (by decide)
    have hnd : v.ownBlock ≠ some D2 := by
      intro e
      rcases h3.2 with ⟨rfl, _⟩ | ⟨g, cap, cur, rfl, _, hg, _⟩
      · cases e
      · obtain rfl : g = D2 := by simpa [Value.ownBlock] using e
        rw [hg] at hK; cases hK
    have HC := Lib.hid (HGS.out v W h3)
    have HX : Hid (∀ w4, Moves (fun k => v.ownBlock = some k) W w4 → w4.cell? ⟨w.heap.size, 0, none⟩ = some v ∧ w4.heap[D2]? = some (.deferred (some [])) ∧ Below w.heap.size W w4) := fun w4 hm =>
      ⟨(hm.cell (p := ⟨w.heap.size, 0, none⟩) (blk_lt h2) hne).trans hc, (hm.block D2 (blk_lt hK) hnd).trans hK, hm.below (fun i e => (h3.lt i e).1) (by have := h5.size; omega)⟩
    have HH5 := Lib.hid h5
    have HB := Lib.hid b2
    have HDD := Lib.hid hD
    clear h2 h3 h5 hK hne hnd hbx hbp b2 z2 hD
    go_wp2_with (go_at_call 38; (with_reducible refine HC.out.mono ?_); rintro e w4 ⟨rfl, hr, hm⟩; obtain ⟨c4, hk4, hb4⟩ := HX.out _ hm; have HR := Lib.hid hr; have HK4 := Lib.hid hk4; have HB4 := Lib.hid hb4; clear hr hm hk4 hb4)
    rw [Exit.noGoto_ret]
    refine ⟨by simp, .inl ⟨_, _, rfl, run_takeDeferred HK4.out, ?_⟩⟩
    refine ⟨_, results_tmp rfl _ _ _, v, rfl, ownsRow_putObj HR.out _ HK4.out rfl, ?_⟩
    exact (HB.out.trans (HH5.out.trans HB4.out)).trans ((Below.refl _ w4).grown (grownBy_putObj' _ D2 _) (by have := blk_lt HK4.out; have := HDD.out; omega) (fun k e => by cases e; have := HDD.out; omega))
end Go.Proofs.Ythdnpomfjhehkaa

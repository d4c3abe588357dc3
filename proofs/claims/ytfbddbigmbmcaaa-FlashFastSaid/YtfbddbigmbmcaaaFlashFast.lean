/-
  Proved: what is fast in a sector is never lost by a crash: behind a sync, whatever was done to other sectors since and whatever the fates, it tells what it told. Whatever acts and fates come in, the law FlashFast answers true and the arguments read as they did.
  Conditions: none.
-/
import Derived.Test.YtfbddbigmbmcaaaDid04b
import Derived.Test.YtfbddbigmbmcaaaOpenSince
namespace Go.Proofs.Ytfbddbigmbmcaaa
open Go.ChangeShapes Go.WideShapes Go.ChangeAt Go.RowKit

theorem ActsAt4.below {n₀ : Nat} {w w' : World} {v : Value} {l : List Act4} (h : ActsAt4 n₀ w v l) (hb : Below n₀ w w') : ActsAt4 n₀ w' v l := by
  obtain ⟨a, cap, rfl, hc, hw, h⟩ := h
  refine ⟨a, cap, rfl, hc, hw, h.imp id ?_⟩
  rintro ⟨g, off, rfl, hg, hx⟩
  exact ⟨g, off, rfl, hg, fun i hi => (hx i hi).below hb hg⟩
theorem IntsIn.mono {n₀ n₁ : Nat} {W : World} {v : Value} {fs : List Int} (h : IntsIn n₀ W v fs) (hn : n₀ ≤ n₁) : IntsIn n₁ W v fs := by
  obtain ⟨a, cap, rfl, h⟩ := h
  refine ⟨a, cap, rfl, h.imp id ?_⟩
  rintro ⟨g, off, rfl, hg, hc⟩
  exact ⟨g, off, rfl, by omega, hc⟩
theorem light4_of {l : List Act4} (h : light4B l = true) : l.length ≤ 40 ∧ ∀ x ∈ l, x.fates.length ≤ 60 := by
  unfold light4B at h
  rw [Bool.and_eq_true, List.all_eq_true] at h
  exact ⟨by simpa using h.1, fun x hx => by simpa using h.2 x hx⟩
/-- An act of a row, done. -/
theorem did_row {w w1 W : World} {Q : Foot} {D : Nat} {d : Dev} (h : DevApart w1 Q D d W) (hw : w.heap.size ≤ w1.heap.size) (hb : Below w.heap.size w W) {k : Nat} (hi : d.Is 6 96 k) (hk : k ≤ 200) {l : List Act4} (hl : ∀ x ∈ l, x.fates.length ≤ 60) {v : Value} (hv : ActsAt4 w.heap.size w v l) {g off i : Nat} {a : Option Addr} {n c : Nat} (hv2 : v = .slice a n c) (ha : a = some ⟨g, off, none⟩) (hil : i < l.length) :
    ∃ (x : Act4) (u : Value), x ∈ l ∧ l[i]? = some x ∧ x.wf ∧ W.cell? ⟨g, off + i * 5, none⟩ = some (.int .i64 x.kind) ∧ W.cell? ⟨g, off + i * 5 + 1, none⟩ = some (.int .i64 x.at_) ∧ W.cell? ⟨g, off + i * 5 + 2, none⟩ = some (.int .i64 x.len) ∧ W.cell? ⟨g, off + i * 5 + 3, none⟩ = some (.int .u8 (U x.b)) ∧ W.cell? ⟨g, off + i * 5 + 4, none⟩ = some u ∧
      Hid (Calls Try.prog 30 #[.pointer (some ⟨D, 0, none⟩), .agg #[.int .i64 x.kind, .int .i64 x.at_, .int .i64 x.len, .int .u8 (U x.b), u]] W (DidAct w1 Q D (d.doing x) W)) := by
  obtain ⟨a', cap, hv3, _, hwf, hx⟩ := hv
  subst hv2
  simp only [Value.slice.injEq] at hv3
  obtain ⟨rfl, _, _⟩ := hv3
  rcases hx with hx | ⟨g', off', hg', hgl, hx⟩
  · subst hx; simp at hil
  · rw [ha] at hg'
    simp only [Option.some.injEq, Addr.mk.injEq] at hg'
    obtain ⟨rfl, rfl, _⟩ := hg'
    obtain ⟨c0, c1, c2, c3, u, c4, hu⟩ := (hx i hil).below hb hgl
    have e : l[i]?.getD default = l[i] := by simp [hil]
    rw [e] at c0 c1 c2 c3 hu
    exact ⟨l[i], u, List.getElem_mem hil, by simp [hil], hwf _ (List.getElem_mem hil), c0, c1, c2, c3, c4, did_any h hi hk l[i] (hl _ (List.getElem_mem hil)) u (hu.mono hw)⟩

theorem acts_addr {n₀ : Nat} {w : World} {a : Option Addr} {n c : Nat} {l : List Act4} (h : ActsAt4 n₀ w (.slice a n c) l) {i : Nat} (hi : i < l.length) : ∃ g off, a = some ⟨g, off, none⟩ ∧ g < n₀ := by
  obtain ⟨a', cap, hv, _, _, hx⟩ := h
  simp only [Value.slice.injEq] at hv
  obtain ⟨rfl, _, _⟩ := hv
  rcases hx with hx | ⟨g, off, rfl, hg, _⟩
  · subst hx; simp at hi
  · exact ⟨g, off, rfl, hg⟩
set_option maxRecDepth 100000 in
set_option maxHeartbeats 8000000 in
theorem flashFast_walk (q : SinceV) (w : World) (hq : q.At w) : Calls Try.prog 4 #[.agg q.cells] w (Good w) := by
  obtain ⟨h0, n0, h1, n1, h3, n3⟩ := hq
  obtain ⟨v0, v1, at_, v3, l0, l1, fs⟩ := q
  change ActsAt4 w.heap.size w v0 l0 at h0
  change ActsAt4 w.heap.size w v1 l1 at h1
  change IntsIn w.heap.size w v3 fs at h3
  change l0.length ≤ maxLen at n0
  change l1.length ≤ maxLen at n1
  change fs.length ≤ maxLen at n3
  change Calls _ _ #[.agg #[v0, v1, .int .u8 (U at_), v3]] _ _
  have hX : (w.alloc (.cells #[v0, v1, .int .u8 (U at_), v3] 60)).heap[w.heap.size]? = some (.cells #[v0, v1, .int .u8 (U at_), v3] 60 (0, 0)) := heap_alloc_new _ _
  have hB : Below w.heap.size w (w.alloc (.cells #[v0, v1, .int .u8 (U at_), v3] 60)) := (Below.refl _ _).alloc (Nat.le_refl _) _
  obtain ⟨w1, hW1⟩ : ∃ w1, w.alloc (.cells #[v0, v1, .int .u8 (U at_), v3] 60) = w1 := ⟨_, rfl⟩
  rw [hW1] at hX hB
  have HX := Lib.hid hX
  have HB := Lib.hid hB
  have HL0 := Lib.hid (light4_any l0 v0 w.heap.size w1 (h0.below hB) n0)
  have HL1 := Lib.hid (light4_any l1 v1 w.heap.size w1 (h1.below hB) n1)
  have c0 : w1.cell? ⟨w.heap.size, 0, none⟩ = some v0 := blk_cell hX 0
  have c1 : w1.cell? ⟨w.heap.size, 1, none⟩ = some v1 := blk_cell hX 1
  have c2 : w1.cell? ⟨w.heap.size, 2, none⟩ = some (.int .u8 (U at_)) := blk_cell hX 2
  have c3 : w1.cell? ⟨w.heap.size, 3, none⟩ = some v3 := blk_cell hX 3
  have H0 := Lib.hid h0
  have H1 := Lib.hid h1
  have H3 := Lib.hid h3
  obtain ⟨a0, p0, rfl, _, _, _⟩ := id h0
  obtain ⟨a1, p1, rfl, _, _, _⟩ := id h1
  obtain ⟨a3, p3, rfl⟩ := h3.arg
  unfold maxLen at n0 n1 n3
  clear hX hB h0 h1 h3
  by_cases hbig : light4B l0 = true ∧ light4B l1 = true ∧ fs.length ≤ 60
  · obtain ⟨e0, e1, e3⟩ := hbig
    rw [e0] at HL0
    rw [e1] at HL1
    have HF0 := Lib.hid (light4_of e0)
    have HF1 := Lib.hid (light4_of e1)
    have t3 : (fs.length : Int) ≤ 60 := by omega
    have HNEW : Hid (Calls Try.prog 7 #[.int .i64 6, .int .i64 96] w1 fun e W' => ∃ D, e = .returned (.pointer (some ⟨D, 0, none⟩)) ∧ DevHere w1 D (Dev.new 6 96) W' ∧ Below w1.heap.size w1 W') := here_new 6 96 (by decide) (Below.refl _ _)
    clear e0 e1
    go_enter Try.func4, Try.ntmps4
    go_upto_region 1 with (fail)
    clear hW1
    go_wp2_with (first
      | (go_at_call 6; (with_reducible refine HL0.out.mono ?_); rintro e w' ⟨rfl, rfl⟩)
      | (go_at_call 6; (with_reducible refine HL1.out.mono ?_); rintro e w' ⟨rfl, rfl⟩)
      | (go_at_call 7; (with_reducible refine HNEW.out.mono ?_); rintro e w2 ⟨D, rfl, hd, hb⟩; have HD := Lib.hid hd; clear hd hb))
    have t0 : (l0.length : Int) ≤ 40 := by have := HF0.out.1; omega
    have t1 : (l1.length : Int) ≤ 40 := by have := HF1.out.1; omega
    have hstart := apart_of (Q := fun _ => False) HD.out (Below.refl _ _) (fun _ h => h.elim) (fun _ h => h.elim)
    have HST := Lib.hid hstart
    have hb2 := HD.out.below
    have HB2 := Lib.hid hb2
    clear hstart hb2 c0 c1 c2 c3
    go_loopw [4] (fun iv wr => ∃ (i : Nat) (d : Dev), i ≤ l0.length ∧ iv = .int .i64 i ∧ d.Is 6 96 i ∧ DevApart w1 (fun _ => False) D d wr) (fun iv _ => l0.length - (intOf iv).toNat)
    case atStart => exact ⟨0, Dev.new 6 96, Nat.zero_le _, rfl, ⟨rfl, rfl, small_new 6 96⟩, HST.out⟩
    case round =>
      obtain ⟨i, d, hi, rfl, hid, hd⟩ := hrel
      have hbel := hd.here.below
      have d0 := blk_cell ((hbel.block _ (blk_lt HX.out)).trans HX.out) 0
      by_cases hlt : i < l0.length
      · obtain ⟨g, off, rfl, hg⟩ := acts_addr H0.out hlt
        obtain ⟨x, u, hmem, hx, hwf, x0, x1, x2, x3, x4, HDD⟩ := did_row hd HB.out.size (HB.out.trans (hbel.mono HB.out.size)) hid (by omega) HF0.out.2 H0.out rfl rfl hlt
        have HIS := Lib.hid (doing_is hid x hwf)
        have i1 : (i : Int) < l0.length := by omega
        clear hbel hid hd hmem hx hwf hg
        go_wp2_with (go_at_call 30; (with_reducible refine HDD.out.mono ?_); rintro e w3 ⟨rfl, hd3, _⟩; have H3' := Lib.hid hd3; clear hd3)
        go_roundw
        case rel => exact ⟨i + 1, _, by omega, by go_num, HIS.out, H3'.out⟩
        case measure => simp [intOf]; omega
      · obtain rfl : i = l0.length := by omega
        obtain ⟨k, hk⟩ : ∃ k : Nat, U at_ % 6 = (k : Int) := ⟨(U at_ % 6).toNat, by have := U_nonneg at_; omega⟩
        have k6 : k < 6 := by omega
        have d2 := blk_cell ((hbel.block _ (blk_lt HX.out)).trans HX.out) 2
        have HSY := apart_sync hd hid.small (by omega)
        have HIS : Hid (d.sync.Is 6 96 (l0.length + 1)) := ⟨(sync_same d).1.trans hid.sectors, (sync_same d).2.trans hid.size, hid.small.sync⟩
        have u0 := U_nonneg at_
        have u1 := U_lt at_
        rcases sync_err d with hs | hs
        · have hfa := sync_fast hs k
          rw [hs] at HSY
          have HSY := Lib.hid HSY
          obtain ⟨hfa, hdn⟩ := hfa
          obtain ⟨d2', hd2'⟩ : ∃ d2', d.sync = d2' := ⟨_, rfl⟩
          rw [hd2'] at HSY HIS hfa hdn
          obtain ⟨F, hF⟩ : ∃ F, d2'.cur k = F := ⟨_, rfl⟩
          rw [hF] at hfa
          have HRD : Hid (∀ W, DevApart w1 (fun _ => False) D d2' W → Calls Try.prog 15 #[.pointer (some ⟨D, 0, none⟩), .int .i64 k] W fun e W' => ∃ g c, e = .returned (.tuple #[.slice (some ⟨g, 0, none⟩) 96 c, .int .i64 0]) ∧ W'.ownsRow W.heap.size 5 1 (.slice (some ⟨g, 0, none⟩) 96 c) F.length (cellsOf F) ∧ F.length = 96 ∧ Below w1.heap.size w1 W' ∧ DevApart w1 (fun j => False ∨ j = g) D d2' W') := fun W hh => by
            refine (apart_read hh k).mono ?_
            rintro e W' ⟨⟨hh2, hb2, v, he, hv⟩, _⟩
            have ha : askErr d2'.sectors d2'.down k = 0 := by rw [HIS.out.sectors, hdn]; simp [askErr]; omega
            rw [ha] at he hv
            rcases hv with hv | ⟨_, hv, hl⟩
            · exact absurd rfl hv.1
            · rw [Int.toNat_natCast, hF] at hv hl
              rw [HIS.out.size] at hl
              rw [HIS.out.size] at hv
              obtain ⟨g, c, rfl, _⟩ := slice_cells hv (by decide)
              have hg := hv.lt g rfl
              have hv2 : W'.ownsRow W.heap.size 5 1 (.slice (some ⟨g, 0, none⟩) 96 c) F.length (cellsOf F) := by rw [hl]; exact hv
              exact ⟨g, c, he, hv2, hl, hh2.below, hh.more hb2 hg.1 hg.2⟩
          have HFA := Lib.hid hfa
          clear hs hfa hdn hd2' hF hid hd hbel hlt
          go_wp2_with (first
            | (go_at_call 13; (with_reducible refine HSY.out.mono ?_); rintro e w3 ⟨rfl, hd3, _⟩; have H3' := Lib.hid hd3; clear hd3)
            | (go_at_call 15; (with_reducible refine (HRD.out _ H3'.out).mono ?_); rintro e w4 ⟨g4, c4, rfl, hr4, hl4, hb4, hd4⟩; have HR4 := Lib.hid hr4; have HL4 := Lib.hid hl4; have HB4 := Lib.hid hb4; have H4 := Lib.hid hd4; clear hr4 hl4 hb4 hd4))
          have HQ4 : Hid (Same (fun j => False ∨ j = g4) w4 w4) := Same.refl _ _
          clear HRD d0 d2 HSY HST
          go_loopw [8] (fun iv wr => ∃ (i : Nat) (d : Dev), i ≤ l1.length ∧ iv = .int .i64 i ∧ d.Is 6 96 (l0.length + 1 + i) ∧ d.Fast k F ∧ DevApart w1 (fun j => False ∨ j = g4) D d wr ∧ Same (fun j => False ∨ j = g4) w4 wr) (fun iv _ => l1.length - (intOf iv).toNat)
          case atStart => exact ⟨0, d2', Nat.zero_le _, rfl, HIS.out, HFA.out, H4.out, HQ4.out⟩
          case round =>
            obtain ⟨i, d, hi, rfl, hid, hfa, hd, hsm⟩ := hrel
            have hbel := hd.here.below
            have d1 := blk_cell ((hbel.block _ (blk_lt HX.out)).trans HX.out) 1
            by_cases hlt : i < l1.length
            · obtain ⟨g, off, rfl, hg⟩ := acts_addr H1.out hlt
              obtain ⟨x, u, hmem, hx, hwf, x0, x1, x2, x3, x4, HDD⟩ := did_row hd HB.out.size (HB.out.trans (hbel.mono HB.out.size)) hid (by omega) HF1.out.2 H1.out rfl rfl hlt
              have HIS2 := Lib.hid (doing_is hid x hwf)
              have HIS3 := Lib.hid (hid.mono (Nat.le_succ _))
              have i1 : (i : Int) < l1.length := by omega
              have HHD := Lib.hid hd
              have HSM := Lib.hid hsm
              have HFD := Lib.hid hfa
              by_cases hat : x.at_ = k
              · have e1 : (x.at_ != (k : Int)) = false := by simpa using hat
                clear hbel hid hd hmem hx hwf hg hfa hsm hat HDD
                go_wp2
                go_roundw
                case rel => exact ⟨i + 1, d, by omega, by go_num, HIS3.out, HFD.out, HHD.out, HSM.out⟩
                case measure => simp [intOf]; omega
              · have e1 : (x.at_ != (k : Int)) = true := by simpa using hat
                have HFD2 := Lib.hid (hfa.doing x hat)
                clear hbel hid hd hmem hx hwf hg hfa hsm hat
                go_wp2_with (go_at_call 30; (with_reducible refine HDD.out.mono ?_); rintro e w5 ⟨rfl, hd5, hs5⟩; have H5 := Lib.hid hd5; have HS5 := Lib.hid hs5; clear hd5 hs5)
                go_roundw
                case rel => exact ⟨i + 1, _, by omega, by go_num, HIS2.out, HFD2.out, H5.out, HSM.out.tr HS5.out⟩
                case measure => simp [intOf]; omega
            · obtain rfl : i = l1.length := by omega
              have d3 := blk_cell ((hbel.block _ (blk_lt HX.out)).trans HX.out) 3
              have HCR := Lib.hid (apart_crash hd ((H3.out.below (HB.out.trans (hbel.mono HB.out.size))).mono HB.out.size) hid.small (by omega) (by omega))
              obtain ⟨hcu, hcd⟩ := crash_reads hfa fs
              have hcs := crash_same d fs
              rw [hid.sectors, hid.size] at hcs
              obtain ⟨dc, hdc⟩ : ∃ dc, d.crash fs = dc := ⟨_, rfl⟩
              rw [hdc] at HCR hcu hcd hcs
              have HRD : Hid (∀ W, DevApart w1 (fun j => False ∨ j = g4) D dc W → Calls Try.prog 15 #[.pointer (some ⟨D, 0, none⟩), .int .i64 k] W fun e W' => ∃ a c, e = .returned (.tuple #[.slice a F.length c, .int .i64 0]) ∧ BytesAt W'.heap.size W' (.slice a F.length c) F ∧ Below w1.heap.size w1 W' ∧ Below W.heap.size W W') := fun W hh => by
                refine (apart_read hh k).mono ?_
                rintro e W' ⟨⟨hh2, hb2, v, he, hv⟩, _⟩
                have ha : askErr dc.sectors dc.down k = 0 := by rw [hcs.1, hcd]; simp [askErr]; omega
                rw [ha] at he hv
                rcases hv with hv | ⟨_, hv, hl⟩
                · exact absurd rfl hv.1
                · rw [Int.toNat_natCast, hcu] at hv hl
                  rw [← hl] at hv
                  obtain ⟨a, c, rfl⟩ := owns_slice hv
                  exact ⟨a, c, he, BytesAt.of_owns hv, hh2.below, hb2⟩
              have HSM := Lib.hid hsm
              have HL := HL4
              clear hcu hcd hcs hdc hbel hid hd hfa hsm
              go_upto_region 19 with (first
                | (go_at_call 18; (with_reducible refine HCR.out.mono ?_); rintro e w5 ⟨rfl, hd5, hs5⟩; have H5 := Lib.hid hd5; have HS5 := Lib.hid (HSM.out.tr hs5); clear hd5 hs5)
                | (go_at_call 15; (with_reducible refine (HRD.out _ H5.out).mono ?_); rintro e w6 ⟨a6, c6, rfl, hb6, hbel6, hbel5⟩; have HB6 := Lib.hid hb6; have HE6 := Lib.hid hbel6; have HE5 := Lib.hid hbel5; clear hb6 hbel6 hbel5))
              have hcv1 : (convert 42 9 (.slice (some ⟨g4, 0, none⟩) 96 c4)).run Try.prog w6 = .ok (.string (strB F)) w6 := conv_str ((BytesAt.of_owns (HS5.out.row HR4.out (fun j e => .inr (by have e : g4 = j := (by simpa [Value.ownBlock] using e); exact e.symm)))).below HE5.out)
              have hcv2 : (convert 42 9 (.slice a6 F.length c6)).run Try.prog w6 = .ok (.string (strB F)) w6 := conv_str HB6.out
              go_wp2_with (go_at_call 11; (with_reducible refine (awake04 _).mono ?_); rintro e w7 ⟨rfl, hb7⟩)
              go_ret
              exact ⟨rfl, HB.out.trans ((HE6.out.trans (hb7.mono HE6.out.size)).mono HB.out.size)⟩
        · have hdn := sync_down (d := d) (by rw [hs]; decide)
          rw [hs] at HSY
          have HSY := Lib.hid HSY
          have HDW : Hid (∀ W, DevApart w1 (fun _ => False) D d.sync W → Calls Try.prog 25 #[.pointer (some ⟨D, 0, none⟩)] W fun e W' => e = .returned (.bool true) ∧ W = W') := fun W hh => by
            have := here_down hh.here
            rwa [hdn] at this
          clear hs hdn hid hd hbel hlt HIS
          go_wp2_with (first
            | (go_at_call 13; (with_reducible refine HSY.out.mono ?_); rintro e w3 ⟨rfl, hd3, _⟩; have H3' := Lib.hid hd3; clear hd3)
            | (go_at_call 25; (with_reducible refine (HDW.out _ H3'.out).mono ?_); rintro e w4 ⟨rfl, rfl⟩)
            | (go_at_call 11; (with_reducible refine (awake04 _).mono ?_); rintro e w6 ⟨rfl, hb6⟩))
          go_ret
          exact ⟨rfl, HB.out.trans ((H3'.out.here.below.trans (hb6.mono H3'.out.here.size)).mono HB.out.size)⟩
  · by_cases e0 : light4B l0 = true
    · by_cases e1 : light4B l1 = true
      · have t3 : (60 : Int) < fs.length := by
          have : ¬ fs.length ≤ 60 := fun h => hbig ⟨e0, e1, h⟩
          omega
        rw [e0] at HL0
        rw [e1] at HL1
        clear e0 e1 hbig
        go_enter Try.func4, Try.ntmps4
        go_upto_region 1 with (fail)
        clear hW1
        go_wp2_with (first
          | (go_at_call 6; (with_reducible refine HL0.out.mono ?_); rintro e w' ⟨rfl, rfl⟩)
          | (go_at_call 6; (with_reducible refine HL1.out.mono ?_); rintro e w' ⟨rfl, rfl⟩))
        go_ret
        exact ⟨rfl, HB.out⟩
      · have e1 : light4B l1 = false := by simpa using e1
        rw [e0] at HL0
        rw [e1] at HL1
        clear e0 e1 hbig
        go_enter Try.func4, Try.ntmps4
        go_upto_region 1 with (fail)
        clear hW1
        go_wp2_with (first
          | (go_at_call 6; (with_reducible refine HL0.out.mono ?_); rintro e w' ⟨rfl, rfl⟩)
          | (go_at_call 6; (with_reducible refine HL1.out.mono ?_); rintro e w' ⟨rfl, rfl⟩))
        go_ret
        exact ⟨rfl, HB.out⟩
    · have e0 : light4B l0 = false := by simpa using e0
      rw [e0] at HL0
      clear e0 hbig
      go_enter Try.func4, Try.ntmps4
      go_upto_region 1 with (fail)
      clear hW1
      go_wp2_with (first
        | (go_at_call 6; (with_reducible refine HL0.out.mono ?_); rintro e w' ⟨rfl, rfl⟩))
      go_ret
      exact ⟨rfl, HB.out⟩

set_option maxRecDepth 100000 in
theorem flashFast_lifted (os : Os) (started : os.Started) (H : Type) (enc : TypeId × Value → H) :
    ReturnsInHanded {} Try.checked os 4 .any (Rows.flashFastSpec.pre6 enc Try.prog Try.f4 Rows.flashFastRow.domain false) (Rows.flashFastSpec.post enc Try.prog Try.f4 false true false false) :=
  law_lifted 4 Try.f4 Rows.flashFastSpec Try.func4 (by kernel_rfl) rfl rfl
    (fun ds h => by match ds, h with | [_], _ => rfl) (by kernel_rfl) os started
    (ChangeSpec.witness6 (enc := enc) (C := Try.checked) false ⟨#[], #[.agg #[.slice none 0 0, .slice none 0 0, .int .u8 0, .slice none 0 0]], []⟩ 8 (by kernel_rfl) (by kernel_rfl) (by kernel_rfl) (by kernel_rfl))
    fun W args ds ps hval hA => by
      rw [Try.params4] at hA hval
      obtain ⟨v0, vs0, d0, ds0, p0, q0, hargs, rfl, rfl, h0, r0⟩ := trodAll_cons hA
      obtain ⟨rfl, rfl, rfl⟩ := trodAll_nil r0
      obtain rfl : args = #[v0] := by cases args; simp_all
      obtain ⟨b0, o0⟩ := hval 0 _ v0 rfl rfl
      obtain ⟨q0, rfl, hq0⟩ := open_since o0 h0
      exact flashFast_walk q0 W hq0

/-- The statement. -/
theorem flashFast_holds : Rows.FlashFastSaid :=
  OpenClaim.holds_of_wide 4 Try.f4 rfl rfl rfl rfl rfl rfl rfl ⟨rfl, rfl, rfl, rfl, rfl⟩ rfl rfl rfl rfl rfl (by kernel_rfl) Try.func4 (by kernel_rfl)
    (of_decide_eq_true (by kernel_rfl)) (by unfold Func.isWrapper; first | (rw [if_pos (by decide +kernel)]; kernel_rfl) | (rw [if_neg (by decide +kernel)]; exact ⟨rfl, rfl⟩))
    (fun os started H enc _ => flashFast_lifted os started H enc)
#print axioms flashFast_holds

end Go.Proofs.Ytfbddbigmbmcaaa

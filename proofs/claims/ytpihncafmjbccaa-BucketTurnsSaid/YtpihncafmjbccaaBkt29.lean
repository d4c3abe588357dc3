/-
  sgraffitoref14.Elder.
  Conditions: none.
-/
import Derived.Test.YtpihncafmjbccaaJE
import Derived.Test.YtpihncafmjbccaaBkt8
namespace Go.Proofs.Ytpihncafmjbccaa
open Go.RowKit
attribute [local go_sem] Oper.semAt_some

/-- Where the eldest of the first k stands. -/
def BestAt (es : List Ent) (k : Nat) (v : Int) : Prop := (k = 0 ∧ v = -1) ∨ ∃ n : Nat, n < k ∧ v = n ∧ es[n]?.getD default = minUp es k ∧ ∀ j, j < n → es[j]?.getD default ≠ minUp es k
theorem BestAt.first {es : List Ent} : BestAt es 1 0 := .inr ⟨0, by omega, rfl, (minUp_one es).symm, fun j hj => by omega⟩
theorem BestAt.less {es : List Ent} {k : Nat} (h1 : 1 ≤ k) (hk : k < es.length) (h : ltA (es[k]?.getD default) (minUp es k)) : BestAt es (k + 1) k := by
  have hm : minUp es (k + 1) = es[k]?.getD default := by
    rw [minUp_succ es k h1 hk]; unfold minStep; rw [if_pos ((age_lt _ _).2 h)]
  refine .inr ⟨k, by omega, rfl, hm.symm, fun j hj e => ?_⟩
  rw [hm] at e
  have := minUp_least es k h1 (by omega) j hj
  rw [e] at this
  exact this h
theorem BestAt.stay {es : List Ent} {k : Nat} {v : Int} (h1 : 1 ≤ k) (hk : k < es.length) (hB : BestAt es k v) (h : ¬ ltA (es[k]?.getD default) (minUp es k)) : BestAt es (k + 1) v := by
  have hm : minUp es (k + 1) = minUp es k := by
    rw [minUp_succ es k h1 hk]; unfold minStep; rw [if_neg (fun e => h ((age_lt _ _).1 e))]
  rcases hB with ⟨h0, _⟩ | ⟨n, hn, hv, he, hno⟩
  · omega
  · exact .inr ⟨n, by omega, hv, by rw [hm]; exact he, fun j hj => by rw [hm]; exact hno j hj⟩
theorem BestAt.last {es : List Ent} {v : Int} (h : BestAt es es.length v) : ElderIs es v := by
  rcases h with ⟨h0, hv⟩ | ⟨n, hn, hv, he, hno⟩
  · exact .inl ⟨List.eq_nil_of_length_eq_zero h0, hv⟩
  · exact .inr ⟨n, hn, he, hv, hno⟩
theorem ElderIs.one {es : List Ent} {v u : Int} (h : ElderIs es v) (h' : ElderIs es u) : v = u := by
  rcases h with ⟨h0, hv⟩ | ⟨n, hn, he, hv, hno⟩
  · rcases h' with ⟨_, hu⟩ | ⟨n, hn, _⟩
    · rw [hv, hu]
    · rw [h0] at hn; exact absurd hn (by simp)
  · rcases h' with ⟨h0, _⟩ | ⟨m, hm, he', hu, hno'⟩
    · rw [h0] at hn; exact absurd hn (by simp)
    · have : n = m := by
        rcases Nat.lt_trichotomy n m with h9 | h9 | h9
        · exact absurd he (hno' n h9)
        · exact h9
        · exact absurd he' (hno m h9)
      rw [hv, hu, this]
set_option maxRecDepth 100000 in
set_option maxHeartbeats 4000000 in
theorem refElder_any (d p : Int) (a : Option Addr) (m c : Nat) (es : List Ent) (w : World) (hE : EntsAt w.heap.size w (.slice a m c) es) (hlen : es.length ≤ 100000) :
    Calls Try.prog 20 #[.agg #[.int .i64 d, .int .i64 p, .slice a m c]] w (ElderRet es w) := by
  obtain ⟨_, _, e0, hc0⟩ := hE.slice
  cases e0
  have hb1 : Below w.heap.size w (w.alloc (.cells #[.int .i64 d, .int .i64 p, .slice a es.length c] 24)) := (Below.refl _ w).alloc (Nat.le_refl _) _
  have hg1 : (w.alloc (.cells #[.int .i64 d, .int .i64 p, .slice a es.length c] 24)).heap[w.heap.size]? = some (.cells #[.int .i64 d, .int .i64 p, .slice a es.length c] 24 (0, 0)) := heap_alloc_new _ _
  obtain ⟨w1, hw1⟩ : ∃ w1, w.alloc (.cells #[.int .i64 d, .int .i64 p, .slice a es.length c] 24) = w1 := ⟨_, rfl⟩
  rw [hw1] at hb1 hg1
  have HE := Lib.hid (hE.next hb1)
  have HB := Lib.hid hb1
  have HG := Lib.hid hg1
  have HW1 := Lib.hid hw1
  have hl1 : (es.length : Int) ≤ 100000 := by omega
  clear hE hb1 hg1 hw1 hlen
  go_enter Try.func20, Try.ntmps20
  go_upto_region 1 with (fail)
  rw [HW1.out]
  clear HW1
  go_wp2
  go_loopw [3, 4] (fun b i wr => ∃ k : Nat, k ≤ es.length ∧ i = .int .i64 k ∧ ∃ v : Int, b = .int .i64 v ∧ BestAt es k v ∧ Below w1.heap.size w1 wr) (fun _ i _ => es.length - (intOf i).toNat)
  case atStart => exact ⟨0, Nat.zero_le _, rfl, -1, rfl, .inl ⟨rfl, rfl⟩, Below.refl _ _⟩
  case round =>
    obtain ⟨k, hk, rfl, v, rfl, hBest, hB⟩ := hrel
    have c2 : wr.cell? ⟨w.heap.size, 2, none⟩ = some (.slice a es.length c) := blk_cell ((hB.block _ (blk_lt HG.out)).trans HG.out) 2
    by_cases hlt : k < es.length
    · obtain ⟨g, off, rfl, hg, e4⟩ := HE.out.get hlt
      have k1 : (k : Int) < es.length := by omega
      have HLT := Lib.hid hlt
      have HG2 := Lib.hid hg
      have d0 := (hB.cell (p := ⟨g, _, none⟩) hg).trans e4.1
      have d1 := (hB.cell (p := ⟨g, _, none⟩) hg).trans e4.2.1
      have d2 := (hB.cell (p := ⟨g, _, none⟩) hg).trans e4.2.2.1
      have d3 := (hB.cell (p := ⟨g, _, none⟩) hg).trans e4.2.2.2
      obtain ⟨x, hx⟩ : ∃ x, (es[k]?.getD default) = x := ⟨_, rfl⟩
      rw [hx] at d0 d1 d2 d3
      have HX := Lib.hid hx
      have hb5 : Below wr.heap.size wr (wr.alloc (.cells #[.int .u64 (U x.hash), .int .i64 x.reg, .int .i64 x.at_, .int .i64 x.size] 27)) := (Below.refl _ wr).alloc (Nat.le_refl _) _
      have hn5 : (wr.alloc (.cells #[.int .u64 (U x.hash), .int .i64 x.reg, .int .i64 x.at_, .int .i64 x.size] 27)).heap[wr.heap.size]? = some (.cells x.cells 27 (0, 0)) := heap_alloc_new _ _
      obtain ⟨W5, hW5⟩ : ∃ W5, wr.alloc (.cells #[.int .u64 (U x.hash), .int .i64 x.reg, .int .i64 x.at_, .int .i64 x.size] 27) = W5 := ⟨_, rfl⟩
      rw [hW5] at hb5 hn5
      have HW5 := Lib.hid hW5
      have HB5 := Lib.hid hb5
      have HN5 := Lib.hid hn5
      have HBW := Lib.hid hB
      have HBEST := Lib.hid hBest
      clear hx e4 hlt hg hW5 hb5 hn5 hB hBest hk
      go_upto_region 6 with (fail)
      rw [HW5.out]
      clear HW5 c2 d0 d1 d2 d3
      have y1 : ∀ p : After W5, p.v.cell? ⟨wr.heap.size, 1, none⟩ = some (.int .i64 x.reg) := after_cell (blk_cell HN5.out 1)
      have y2 : ∀ p : After W5, p.v.cell? ⟨wr.heap.size, 2, none⟩ = some (.int .i64 x.at_) := after_cell (blk_cell HN5.out 2)
      have hBW5 : Below w1.heap.size w1 W5 := HBW.out.trans (HB5.out.mono HBW.out.size)
      have c3 : ∀ p : After W5, p.v.cell? ⟨w.heap.size, 2, none⟩ = some (.slice (some ⟨g, off, none⟩) es.length c) := after_cell (blk_cell ((hBW5.block _ (blk_lt HG.out)).trans HG.out) 2)
      have HBW5 := Lib.hid hBW5
      clear hBW5
      rcases HBEST.out with ⟨h0, hv⟩ | ⟨n, hn, hv, he, hno⟩
      · subst h0
        subst hv
        refine wp_region_after (by kernel_rfl) (by kernel_rfl) ?_
        repeat (go_big_quiet_step ((fail)))
        refine wpQuiet_nil ?_
        rintro W9 ⟨⟨_, hW9⟩, rfl⟩
        have HW9 := Lib.hid (HBW5.out.trans (hW9.mono HBW5.out.size))
        clear hW9
        go_wp2
        go_roundw
        case rel => exact ⟨0 + 1, HLT.out, by go_num, _, rfl, BestAt.first, HW9.out⟩
        case measure => simp [intOf]; omega
      · subst hv
        obtain ⟨mn, hmn⟩ : ∃ mn, minUp es k = mn := ⟨_, rfl⟩
        have e4 := (HE.out.get (i := n) (by have := HLT.out; omega))
        obtain ⟨g', off', e', _, e4⟩ := e4
        cases e'
        rw [he, hmn] at e4
        have n1 : ∀ p : After W5, p.v.cell? ⟨g, off + n * 4 + 1, none⟩ = some (.int .i64 mn.reg) := after_cell ((HBW5.out.cell (p := ⟨g, _, none⟩) HG2.out).trans e4.2.1)
        have n2 : ∀ p : After W5, p.v.cell? ⟨g, off + n * 4 + 2, none⟩ = some (.int .i64 mn.at_) := after_cell ((HBW5.out.cell (p := ⟨g, _, none⟩) HG2.out).trans e4.2.2.1)
        have nk : (n : Int) < es.length := by have := HLT.out; omega
        have nn : decide ((n : Int) < 0) = false := by simp
        have H1K : Hid (1 ≤ k) := by unfold Hid; omega
        have HMN := Lib.hid hmn
        clear hno he hn hmn e4
        by_cases hr : x.reg < mn.reg
        · have g1 : decide (x.reg < mn.reg) = true := decide_eq_true hr
          have HL : Hid (ltA x mn) := .inl hr
          clear hr
          refine wp_region_after (by kernel_rfl) (by kernel_rfl) ?_
          repeat (go_big_quiet_step ((fail)))
          refine wpQuiet_nil ?_
          rintro W9 ⟨⟨_, hW9⟩, rfl⟩
          have HW9 := Lib.hid (HBW5.out.trans (hW9.mono HBW5.out.size))
          clear hW9
          go_wp2
          go_roundw
          case rel => exact ⟨k + 1, HLT.out, by go_num, _, rfl, BestAt.less H1K.out HLT.out (by rw [HX.out, HMN.out]; exact HL.out), HW9.out⟩
          case measure => simp [intOf]; omega
        · by_cases hq : x.reg = mn.reg
          · by_cases ha : x.at_ < mn.at_
            · have HL : Hid (ltA x mn) := .inr ⟨hq, ha⟩
              have g1 : decide (x.reg < mn.reg) = false := decide_eq_false hr
              have g2 : (x.reg == mn.reg) = true := by simpa using hq
              have g3 : decide (x.at_ < mn.at_) = true := decide_eq_true ha
              clear hr hq ha
              refine wp_region_after (by kernel_rfl) (by kernel_rfl) ?_
              repeat (go_big_quiet_step ((fail)))
              refine wpQuiet_nil ?_
              rintro W9 ⟨⟨_, hW9⟩, rfl⟩
              have HW9 := Lib.hid (HBW5.out.trans (hW9.mono HBW5.out.size))
              clear hW9
              go_wp2
              go_roundw
              case rel => exact ⟨k + 1, HLT.out, by go_num, _, rfl, BestAt.less H1K.out HLT.out (by rw [HX.out, HMN.out]; exact HL.out), HW9.out⟩
              case measure => simp [intOf]; omega
            · have HL : Hid (¬ ltA x mn) := fun h => by rcases h with h | ⟨_, h⟩ <;> omega
              have g1 : decide (x.reg < mn.reg) = false := decide_eq_false hr
              have g2 : (x.reg == mn.reg) = true := by simpa using hq
              have g3 : decide (x.at_ < mn.at_) = false := decide_eq_false ha
              clear hr hq ha
              refine wp_region_after (by kernel_rfl) (by kernel_rfl) ?_
              repeat (go_big_quiet_step ((fail)))
              refine wpQuiet_nil ?_
              rintro W9 ⟨⟨_, hW9⟩, rfl⟩
              have HW9 := Lib.hid (HBW5.out.trans (hW9.mono HBW5.out.size))
              clear hW9
              go_wp2
              go_roundw
              case rel => exact ⟨k + 1, HLT.out, by go_num, _, rfl, BestAt.stay H1K.out HLT.out HBEST.out (by rw [HX.out, HMN.out]; exact HL.out), HW9.out⟩
              case measure => simp [intOf]; omega
          · have HL : Hid (¬ ltA x mn) := fun h => by rcases h with h | ⟨h, _⟩ <;> omega
            have g1 : decide (x.reg < mn.reg) = false := decide_eq_false hr
            have g2 : (x.reg == mn.reg) = false := by simpa using hq
            clear hr hq
            refine wp_region_after (by kernel_rfl) (by kernel_rfl) ?_
            repeat (go_big_quiet_step ((fail)))
            refine wpQuiet_nil ?_
            rintro W9 ⟨⟨_, hW9⟩, rfl⟩
            have HW9 := Lib.hid (HBW5.out.trans (hW9.mono HBW5.out.size))
            clear hW9
            go_wp2
            go_roundw
            case rel => exact ⟨k + 1, HLT.out, by go_num, _, rfl, BestAt.stay H1K.out HLT.out HBEST.out (by rw [HX.out, HMN.out]; exact HL.out), HW9.out⟩
            case measure => simp [intOf]; omega
    · obtain rfl : k = es.length := by omega
      have HBEST := Lib.hid hBest
      have HBW := Lib.hid hB
      clear hBest hB
      go_wp2
      go_ret
      exact ⟨v, HBEST.out.last, rfl, HB.out.trans (HBW.out.mono HB.out.size)⟩
end Go.Proofs.Ytpihncafmjbccaa

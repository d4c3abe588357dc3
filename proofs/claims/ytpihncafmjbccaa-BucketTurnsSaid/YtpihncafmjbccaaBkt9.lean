/-
  sgraffitoref14's Right: its loops.
  Conditions: none.
-/
import Derived.Test.YtpihncafmjbccaaBkt9c
namespace Go.Proofs.Ytpihncafmjbccaa
open Go.RowKit

set_option maxRecDepth 1000000 in
set_option maxHeartbeats 16000000 in
theorem refRight_in (d p s : Int) (a : Option Addr) (m c : Nat) (es : List Ent) (w : World) (hE : EntsAt w.heap.size w (.slice a m c) es) (hh : Head14 d p s es.length) :
    Calls Try.prog 4 #[.agg #[.int .i64 d, .int .i64 p, .slice a m c], .int .i64 s] w (RightRet d p s es w) := by
  obtain ⟨_, _, e0, hc0⟩ := hE.slice
  cases e0
  obtain ⟨D, hD⟩ := Int.eq_ofNat_of_zero_le hh.d0
  subst hD
  have HB := Lib.hid ((Below.refl _ w).alloc (Nat.le_refl _) (.cells #[.int .i64 D, .int .i64 p, .slice a es.length c] 24))
  have HK := Lib.hid (heap_alloc_new w (.cells #[.int .i64 D, .int .i64 p, .slice a es.length c] 24))
  have h1 := hh.s1
  have h2 := hh.s2
  have h3 := hh.len
  have h4 := hh.d0
  have h5 := hh.d1
  have HE := Lib.hid hE
  have HH := Lib.hid hh
  clear hE hh
  obtain ⟨w1, hw1⟩ : ∃ w1, w.alloc (.cells #[.int .i64 D, .int .i64 p, .slice a es.length c] 24) = w1 := ⟨_, rfl⟩
  rw [hw1] at HB HK
  have HW1 := Lib.hid hw1
  clear hw1
  have c0 : w1.cell? ⟨w.heap.size, 0, none⟩ = some (.int .i64 D) := blk_cell HK.out 0
  have c1 : w1.cell? ⟨w.heap.size, 1, none⟩ = some (.int .i64 p) := blk_cell HK.out 1
  have c2 : w1.cell? ⟨w.heap.size, 2, none⟩ = some (.slice a es.length c) := blk_cell HK.out 2
  go_enter Try.func4, Try.ntmps4
  go_wp2
  rw [HW1.out]
  go_loopw [5, 6] (fun v i wr => ∃ k : Nat, k ≤ D ∧ i = .int .i64 k ∧ v = .int .i64 ((2 ^ k : Nat) : Int) ∧ wr = w1) (fun _ i _ => D - (intOf i).toNat)
  case atStart => exact ⟨0, Nat.zero_le _, rfl, rfl, rfl⟩
  case round =>
    obtain ⟨k, hk, rfl, rfl, hww⟩ := hrel
    have hww2 := hww.symm
    subst hww2
    clear hww
    by_cases hlt : k < D
    · obtain ⟨M, hM⟩ : ∃ M : Nat, 2 ^ k = M := ⟨_, rfl⟩
      have hpw := pow_wrap k (by omega)
      rw [hM] at hpw ⊢
      have HPW := Lib.hid hpw
      clear hpw hM
      have k1 : (k : Int) < D := by omega
      go_wp2
      go_roundw
      case rel => exact ⟨k + 1, by omega, by go_num, by rw [HPW.out], trivial⟩
      case measure => simp [intOf]; omega
    · obtain rfl : k = D := by omega
      have hD8 : k ≤ 8 := by omega
      have hpw : (2 : Nat) ^ k ≤ 256 := Nat.pow_le_pow_right (by decide) hD8
      have HP2 : Hid ((2 : Int) ^ ((k : Int).toNat) = ((2 ^ k : Nat) : Int)) := by unfold Hid; simp
      obtain ⟨M, hM⟩ : ∃ M : Nat, 2 ^ k = M := ⟨_, rfl⟩
      rw [hM] at HP2 hpw
      rw [hM]
      clear hM
      have k0 : ¬ ((k : Int) < k) := by omega
      by_cases hp0 : p < 0
      · have HN : Hid (¬ Right14 k p s es) := fun h => by have := h.p0; omega
        go_wp2
        go_ret
        exact ⟨false, rfl, ⟨fun h => (by cases h), fun h => (HN.out h).elim⟩, HB.out⟩
      by_cases hp1 : (M : Int) ≤ p
      · have HN : Hid (¬ Right14 k p s es) := fun h => by have := h.p1; rw [HP2.out] at this; omega
        go_wp2
        go_ret
        exact ⟨false, rfl, ⟨fun h => (by cases h), fun h => (HN.out h).elim⟩, HB.out⟩
      have hp2 : p < M := by omega
      have hp3 : 0 ≤ p := by omega
      have HP1 := Lib.hid (show p < 2 ^ (k : Int).toNat from by rw [HP2.out]; exact hp2)
      go_wp2
      go_loopw [7] (fun i wr => ∃ j : Nat, j ≤ es.length ∧ i = .int .i64 j ∧ Below w1.heap.size w1 wr ∧ ∀ q, q < j → OkE k p es q) (fun i _ => es.length - (intOf i).toNat)
      case atStart => exact ⟨0, Nat.zero_le _, rfl, Below.refl _ _, fun q hq => absurd hq (by omega)⟩
      case round =>
        obtain ⟨j, hj, rfl, hB1, hok⟩ := hrel
        have d0 : wr.cell? ⟨w.heap.size, 0, none⟩ = some (.int .i64 k) := (hB1.cell (p := ⟨w.heap.size, 0, none⟩) (blk_lt HK.out)).trans (blk_cell HK.out 0)
        have d1 : wr.cell? ⟨w.heap.size, 1, none⟩ = some (.int .i64 p) := (hB1.cell (p := ⟨w.heap.size, 1, none⟩) (blk_lt HK.out)).trans (blk_cell HK.out 1)
        have d2 : wr.cell? ⟨w.heap.size, 2, none⟩ = some (.slice a es.length c) := (hB1.cell (p := ⟨w.heap.size, 2, none⟩) (blk_lt HK.out)).trans (blk_cell HK.out 2)
        clear c0 c1 c2
        have HOK := Lib.hid hok
        have HBR := Lib.hid hB1
        by_cases hjl : j < es.length
        · obtain ⟨g, off, rfl, hg, e4⟩ := HE.out.get hjl
          have hgw : g < w1.heap.size := by have := HB.out.size; omega
          have j1 : (j : Int) < es.length := by omega
          have hbx : wr.heap.size < (wr.alloc (.cells (es[j]?.getD default).cells 27)).heap.size := by simp
          have q0 := (hB1.cell (p := ⟨g, off + j * 4, none⟩) hgw).trans ((HB.out.cell (p := ⟨g, off + j * 4, none⟩) hg).trans e4.1)
          have q1 := (hB1.cell (p := ⟨g, off + j * 4 + 1, none⟩) hgw).trans ((HB.out.cell (p := ⟨g, off + j * 4 + 1, none⟩) hg).trans e4.2.1)
          have q2 := (hB1.cell (p := ⟨g, off + j * 4 + 2, none⟩) hgw).trans ((HB.out.cell (p := ⟨g, off + j * 4 + 2, none⟩) hg).trans e4.2.2.1)
          have q3 := (hB1.cell (p := ⟨g, off + j * 4 + 3, none⟩) hgw).trans ((HB.out.cell (p := ⟨g, off + j * 4 + 3, none⟩) hg).trans e4.2.2.2)
          have HO1 : Hid (OkE k p es j → ∀ x, (es[j]?.getD default) = x → (0 ≤ x.reg ∧ x.reg ≤ 1099511627776 ∧ 0 ≤ x.at_ ∧ x.at_ ≤ 65535 ∧ 0 ≤ x.size ∧ x.size ≤ 65535) ∧ preI x.hash k = p ∧ (0 < j → U (es[j - 1]?.getD default).hash < U x.hash)) := fun h x hx => by
            subst hx
            exact ⟨⟨h.r0, h.r1, h.a0, h.a1, h.s0, h.s1⟩, h.pre, h.ord⟩
          have HO2 : Hid (∀ x, (es[j]?.getD default) = x → (0 ≤ x.reg ∧ x.reg ≤ 1099511627776 ∧ 0 ≤ x.at_ ∧ x.at_ ≤ 65535 ∧ 0 ≤ x.size ∧ x.size ≤ 65535) → preI x.hash k = p → (0 < j → U (es[j - 1]?.getD default).hash < U x.hash) → OkE k p es j) := fun x hx h1 h2 h3 => by
            subst hx
            exact ⟨h1.1, h1.2.1, h1.2.2.1, h1.2.2.2.1, h1.2.2.2.2.1, h1.2.2.2.2.2, h2, h3⟩
          have HPV : Hid (0 < j → wr.cell? ⟨g, off + (j - 1) * 4, none⟩ = some (.int .u64 (U (es[j - 1]?.getD default).hash))) := fun h0 => by
            obtain ⟨g', off', e', _, f4⟩ := HE.out.get (show j - 1 < es.length by omega)
            cases e'
            exact (hB1.cell (p := ⟨g, _, none⟩) hgw).trans ((HB.out.cell (p := ⟨g, _, none⟩) hg).trans f4.1)
          obtain ⟨x, hx⟩ : ∃ x, (es[j]?.getD default) = x := ⟨_, rfl⟩
          rw [hx] at q0 q1 q2 q3
          have HX := Lib.hid hx
          clear hx e4 hok hB1 hbx
          go_upto_region 14 with (fail)
          have HBX := Lib.hid (heap_alloc_new wr (.cells #[.int .u64 (U x.hash), .int .i64 x.reg, .int .i64 x.at_, .int .i64 x.size] 27))
          have HBA := Lib.hid (HBR.out.alloc (by have := HBR.out.size; omega) (.cells #[.int .u64 (U x.hash), .int .i64 x.reg, .int .i64 x.at_, .int .i64 x.size] 27))
          obtain ⟨wa, hwa⟩ : ∃ wa, wr.alloc (.cells #[.int .u64 (U x.hash), .int .i64 x.reg, .int .i64 x.at_, .int .i64 x.size] 27) = wa := ⟨_, rfl⟩
          have hbw : Below wr.heap.size wr wa := by rw [← hwa]; exact (Below.refl _ wr).alloc (Nat.le_refl _) _
          rw [hwa] at HBX HBA ⊢
          clear hwa
          have b0 : ∀ p : After wa, p.v.cell? ⟨wr.heap.size, 0, none⟩ = some (.int .u64 (U x.hash)) := after_cell (blk_cell HBX.out 0)
          have b1 : ∀ p : After wa, p.v.cell? ⟨wr.heap.size, 1, none⟩ = some (.int .i64 x.reg) := after_cell (blk_cell HBX.out 1)
          have b2 : ∀ p : After wa, p.v.cell? ⟨wr.heap.size, 2, none⟩ = some (.int .i64 x.at_) := after_cell (blk_cell HBX.out 2)
          have b3 : ∀ p : After wa, p.v.cell? ⟨wr.heap.size, 3, none⟩ = some (.int .i64 x.size) := after_cell (blk_cell HBX.out 3)
          have z0 : ∀ p : After wa, p.v.cell? ⟨w.heap.size, 0, none⟩ = some (.int .i64 k) := after_cell ((hbw.cell (p := ⟨w.heap.size, 0, none⟩) (World.block_lt_of_cell? _ _ d0)).trans d0)
          have z1 : ∀ q : After wa, q.v.cell? ⟨w.heap.size, 1, none⟩ = some (.int .i64 p) := after_cell ((hbw.cell (p := ⟨w.heap.size, 1, none⟩) (World.block_lt_of_cell? _ _ d1)).trans d1)
          have z2 : ∀ p : After wa, p.v.cell? ⟨w.heap.size, 2, none⟩ = some (.slice (some ⟨g, off, none⟩) es.length c) := after_cell ((hbw.cell (p := ⟨w.heap.size, 2, none⟩) (World.block_lt_of_cell? _ _ d2)).trans d2)
          have HZ3 : Hid (0 < j → ∀ p : After wa, p.v.cell? ⟨g, off + (j - 1) * 4, none⟩ = some (.int .u64 (U (es[j - 1]?.getD default).hash))) := fun h0 => after_cell ((hbw.cell (p := ⟨g, _, none⟩) (World.block_lt_of_cell? _ _ (HPV.out h0))).trans (HPV.out h0))
          clear d0 d1 d2 q0 q1 q2 q3 hbw
          by_cases hj0 : j = 0
          · subst hj0
            refine reg14_first w.heap.size wr.heap.size 0 es.length c k p x g off wa _ _ _ _ _ _ _ _ _ _ _ _ _ _ _ _ _ _ _ _ _ _ _ _ _ _ _ _ _ _ _ _ _ _ _ _ _ _ _ _ _ _ _ _ _ _ _ _ _ _ _ _ _ _ _ _ _ _ _ _ _ _ _ _ _ _ _ _ _ _ _ _ _ _ _ _ _ _ _ _ _ _ _ _ _ _ _ _ _ _ _ _ _ _ _ _ _ _ _ _ _ _ _ _ _ _ _ _ _ _ _ _ b0 b1 b2 b3 z0 z1 z2 rfl ?_
            intro r u61 u62 u63 u64 u65 u66 u67 u68 u69 u70 u71 u72 u73 u74 u75 u76 u77 u78 u79 u80 u81 u82 u83 u84 u85 u86 u87 u88 u89 u90 u91 u92 u93 u94 u95 u96 u97 u98 u99 u100 u101 u102 u103 u104 u105 u106 u107 u108 u109 u110 u111 u112 u113 W9 hr hW9
            have HW9 := Lib.hid hW9
            have HR := Lib.hid hr
            clear hW9 b0 b1 b2 b3 z0 z1 z2 HZ3 hr
            cases r with
            | true =>
              have hno : Hid (¬ Right14 k p s es) := fun h => by
                have := HR.out.2 ⟨(HO1.out (h.all 0 hjl) x HX.out).1, (HO1.out (h.all 0 hjl) x HX.out).2.1⟩
                cases this
              clear HO1 HO2 HOK HR
              go_wp2
              go_ret
              exact ⟨false, rfl, ⟨fun h => (by cases h), fun h => (hno.out h).elim⟩, HB.out.trans ((HBA.out.trans (HW9.out.mono HBA.out.size)).mono HB.out.size)⟩
            | false =>
              have hq := HR.out.1 rfl
              have HNX : Hid (∀ q, q < 0 + 1 → OkE k p es q) := fun q hq2 => by
                obtain rfl : q = 0 := by omega
                exact HO2.out x HX.out hq.1 hq.2 (fun h => absurd h (Nat.lt_irrefl 0))
              clear HO1 HO2 HOK HR hq
              go_wp2
              go_roundw
              case rel => exact ⟨0 + 1, by omega, by go_num, HBA.out.trans (HW9.out.mono HBA.out.size), HNX.out⟩
              case measure => simp [intOf]; omega
          · obtain ⟨i, rfl⟩ : ∃ i, j = i + 1 := ⟨j - 1, by omega⟩
            have z3 := HZ3.out (Nat.succ_pos i)
            have HO2' := Lib.hid (HO2.out x HX.out)
            have HO1' := Lib.hid (fun h => HO1.out h x HX.out)
            rw [Nat.add_sub_cancel] at z3 HO2' HO1'
            generalize (es[i]?.getD default).hash = y at z3 HO2' HO1'
            refine reg14_next w.heap.size wr.heap.size (i + 1) es.length c k p x g off wa _ _ _ _ _ _ _ _ _ _ _ _ _ _ _ _ _ _ _ _ _ _ _ _ _ _ _ _ _ _ _ _ _ _ _ _ _ _ _ _ _ _ _ _ _ _ _ _ _ _ _ _ _ _ _ _ _ _ _ _ _ _ _ _ _ _ _ _ _ _ _ _ _ _ _ _ _ _ _ _ _ _ _ _ _ _ _ _ _ _ _ _ _ _ _ _ _ _ _ _ _ _ _ _ _ _ _ _ _ _ _ _ b0 b1 b2 b3 z0 z1 z2 y i (by omega) (by omega) (by omega) z3 ?_
            intro r u61 u62 u63 u64 u65 u66 u67 u68 u69 u70 u71 u72 u73 u74 u75 u76 u77 u78 u79 u80 u81 u82 u83 u84 u85 u86 u87 u88 u89 u90 u91 u92 u93 u94 u95 u96 u97 u98 u99 u100 u101 u102 u103 u104 u105 u106 u107 u108 u109 u110 u111 u112 u113 W9 hr hW9
            have HW9 := Lib.hid hW9
            have HR := Lib.hid hr
            clear hW9 b0 b1 b2 b3 z0 z1 z2 HZ3 hr z3
            cases r with
            | true =>
              have hno : Hid (¬ Right14 k p s es) := fun h => by
                have := HR.out.2 ⟨(HO1'.out (h.all (i + 1) hjl)).1, (HO1'.out (h.all (i + 1) hjl)).2.1, (HO1'.out (h.all (i + 1) hjl)).2.2 (Nat.succ_pos i)⟩
                cases this
              clear HO1 HO2 HOK HR HO1' HO2'
              go_wp2
              go_ret
              exact ⟨false, rfl, ⟨fun h => (by cases h), fun h => (hno.out h).elim⟩, HB.out.trans ((HBA.out.trans (HW9.out.mono HBA.out.size)).mono HB.out.size)⟩
            | false =>
              have hq := HR.out.1 rfl
              have HNX : Hid (∀ q, q < i + 1 + 1 → OkE k p es q) := fun q hq2 => by
                by_cases hqi : q < i + 1
                · exact HOK.out q hqi
                · obtain rfl : q = i + 1 := by omega
                  exact HO2'.out hq.1 hq.2.1 (fun _ => hq.2.2)
              clear HO1 HO2 HOK HR HO1' HO2' hq
              go_wp2
              go_roundw
              case rel => exact ⟨i + 1 + 1, by omega, by go_num, HBA.out.trans (HW9.out.mono HBA.out.size), HNX.out⟩
              case measure => simp [intOf]; omega
        · obtain rfl : j = es.length := by omega
          have HR : Hid (Right14 k p s es) := ⟨HH.out, hp3, HP1.out, HOK.out⟩
          clear hok hB1
          go_wp2
          go_ret
          exact ⟨true, rfl, ⟨fun _ => HR.out, fun _ => rfl⟩, HB.out.trans (HBR.out.mono HB.out.size)⟩
theorem refRight_any (d p s : Int) (a : Option Addr) (m c : Nat) (es : List Ent) (w : World) (hE : EntsAt w.heap.size w (.slice a m c) es) :
    Calls Try.prog 4 #[.agg #[.int .i64 d, .int .i64 p, .slice a m c], .int .i64 s] w (RightRet d p s es w) := by
  by_cases h : Head14 d p s es.length
  · exact refRight_in d p s a m c es w hE h
  · exact refRight_out d p s a m c es w hE h
end Go.Proofs.Ytpihncafmjbccaa

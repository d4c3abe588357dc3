/-
  bucket: the document's load of a bucket.
  Conditions: none.
-/
import Derived.Test.YtlpfjmahinfeoaaBkt13
import Derived.Test.YtlpfjmahinfeoaaRAt
import Derived.Test.YtlpfjmahinfeoaaBkt9
import Derived.Laws.OwnMore
namespace Go.Proofs.Ytlpfjmahinfeoaa
open Go.RowKit
attribute [local go_sem] Oper.semAt_some

theorem byte1 {i : Int} (h0 : 0 ≤ i) (h1 : i < 256) : leI 1 i = [BitVec.ofInt 8 i] ∧ U (BitVec.ofInt 8 i) = i := by
  obtain ⟨n, rfl⟩ := Int.eq_ofNat_of_zero_le h0
  have hn : n < 256 := by omega
  constructor
  · unfold leI leB
    simp
  · unfold U
    simp
    omega
theorem cells2 (a b : BitVec 8) : cellsOf [a, b] = [.int .u8 (U a), .int .u8 (U b)] := rfl
theorem two_own (W : World) {d n : Int} (hd0 : 0 ≤ d) (hd1 : d < 256) (hn0 : 0 ≤ n) (hn1 : n < 256) : RAt W (.slice (some ⟨W.heap.size, 0, none⟩) 2 2) (leI 1 d ++ leI 1 n) (W.alloc (.cells #[.int .u8 d, .int .u8 n] 5)) := by
  obtain ⟨e1, e2⟩ := byte1 hd0 hd1
  obtain ⟨e3, e4⟩ := byte1 hn0 hn1
  refine ⟨?_, (Below.refl _ _).alloc (Nat.le_refl _) _⟩
  have h := World.ownsRow_lit (base := W.heap.size) (e := 5) (size := 1) W #[.int .u8 d, .int .u8 n] 2 (Nat.le_refl _) (by unfold maxLen; omega) rfl
  rw [e1, e3]
  have hc : cellsOf ([BitVec.ofInt 8 d] ++ [BitVec.ofInt 8 n]) = [.int .u8 d, .int .u8 n] := by
    show cellsOf [BitVec.ofInt 8 d, BitVec.ofInt 8 n] = _
    rw [cells2, e2, e4]
  rw [hc]
  exact h
theorem wrapU8 {i : Int} (h0 : 0 ≤ i) (h1 : i < 256) : IntKind.u8.wrap i = i := by
  simp [IntKind.wrap, IntKind.bits, IntKind.signed]; omega
theorem RAt.stay {w0 W w1 : World} {v : Value} {row : List (BitVec 8)} (h : RAt w0 v row W) (hg : W.grownBy w1 v.ownBlock) : WStay 0 W w1 := by
  refine ⟨hg.size, fun k o ho _ hc => (hg.block k (Array.getElem?_eq_some_iff.1 ho).1 (fun e => ?_)).trans ho⟩
  obtain ⟨cs, sp, h1⟩ := own_cellsW h.1 e.symm
  rw [ho] at h1
  cases h1
  exact hc _ _ rfl
theorem leI_U (x : BitVec 64) : leI 8 (U x) = leB 8 x := by unfold leI; rw [ofInt_U]; rfl
theorem refPack_no (d p s : Int) (a : Option Addr) (m c : Nat) (es : List Ent) (w : World) (hE : EntsAt w.heap.size w (.slice a m c) es) (hR : ¬ Right14 d p s es) :
    Calls Try.prog 8 #[.agg #[.int .i64 d, .int .i64 p, .slice a m c], .int .i64 s] w (Loaded [] 5 w) := by
  have hb1 : Below w.heap.size w (w.alloc (.cells #[.int .i64 d, .int .i64 p, .slice a m c] 24)) := (Below.refl _ w).alloc (Nat.le_refl _) _
  have HRT := Lib.hid ((refRight_any d p s a m c es _ (hE.next hb1)).mono (R' := fun e W' => e = .returned (.bool false) ∧ Below (w.alloc (.cells #[.int .i64 d, .int .i64 p, .slice a m c] 24)).heap.size (w.alloc (.cells #[.int .i64 d, .int .i64 p, .slice a m c] 24)) W') (fun e W' ⟨r, he, hr, hb⟩ => by
    cases r with
    | true => exact absurd (hr.1 rfl) hR
    | false => exact ⟨he, hb⟩))
  have HB := Lib.hid hb1
  clear hE hR hb1
  go_enter Try.func8, Try.ntmps8
  go_wp2_with (go_at_call 10; (with_reducible refine HRT.out.mono ?_); rintro e w2 ⟨rfl, hb2⟩; have HB2 := Lib.hid hb2; clear hb2)
  go_ret2
  exact ⟨_, rfl, World.ownsRow_nil _ _ _ _, HB.out.trans (HB2.out.mono HB.out.size)⟩
set_option maxRecDepth 100000 in
set_option maxHeartbeats 8000000 in
theorem refPack_yes (d p s : Int) (a : Option Addr) (c : Nat) (es : List Ent) (w : World) (hE : EntsAt w.heap.size w (.slice a es.length c) es) (hR : Right14 d p s es) :
    Calls Try.prog 8 #[.agg #[.int .i64 d, .int .i64 p, .slice a es.length c], .int .i64 s] w (Loaded (bktB d p es) 0 w) := by
  obtain ⟨i0, hi, hz0, hz1, hz2⟩ := info_parts Try.infoU8
  obtain ⟨w1, hw1⟩ : ∃ w1, w.alloc (.cells #[.int .i64 d, .int .i64 p, .slice a es.length c] 24) = w1 := ⟨_, rfl⟩
  have hb1 : Below w.heap.size w w1 := by rw [← hw1]; exact (Below.refl _ w).alloc (Nat.le_refl _) _
  have hg1 : w1.heap[w.heap.size]? = some (.cells #[.int .i64 d, .int .i64 p, .slice a es.length c] 24 (0, 0)) := by rw [← hw1]; exact heap_alloc_new _ _
  have HW1 := Lib.hid hw1
  have HB1 := Lib.hid hb1
  have HG1 := Lib.hid hg1
  have hlen : es.length ≤ 255 := by have := hR.head.len; have := hR.head.s2; omega
  have HOK := Lib.hid hR.all
  have HEN : Hid (∀ W, Below w.heap.size w W → ∀ i, i < es.length → ∃ g off, a = some ⟨g, off, none⟩ ∧ EntAt W g (off + i * 4) (es[i]?.getD default)) := fun W hb i hi => by
    obtain ⟨g, off, ha, hg, h4⟩ := (hE.below hb).get hi
    exact ⟨g, off, ha, h4⟩
  have HRT := Lib.hid ((refRight_any d p s a es.length c es _ (hE.next hb1)).mono (R' := fun e W' => e = .returned (.bool true) ∧ Below w1.heap.size w1 W') (fun e W' ⟨r, he, hr, hb⟩ => by
    cases r with
    | false => exact absurd (hr.2 hR) (by simp)
    | true => exact ⟨he, hb⟩))
  have hd0 := hR.head.d0
  have hd1 := hR.head.d1
  have hp0 := hR.p0
  have hp1 : p < 18446744073709551616 := by
    have h1 := hR.p1
    obtain ⟨D, rfl⟩ := Int.eq_ofNat_of_zero_le hd0
    have hM : (2 : Nat) ^ D ≤ 256 := Nat.pow_le_pow_right (by decide) (show D ≤ 8 by omega)
    have e0 : ((2 : Int) ^ D) = ((2 ^ D : Nat) : Int) := by simp
    rw [Int.toNat_natCast, e0] at h1
    omega
  have u0 : IntKind.u8.wrap d = d := wrapU8 hd0 (by omega)
  have u1 : IntKind.u8.wrap (es.length : Int) = es.length := wrapU8 (by omega) (by omega)
  have u2 : IntKind.u64.wrap p = p := wrapU64 hp0 hp1
  have HR2 := Lib.hid (fun W => two_own W hd0 (by omega : d < 256) (by omega : (0 : Int) ≤ es.length) (by omega : (es.length : Int) < 256))
  have HNP := Lib.hid (fun W => refNumI p 8 hp0 hp1 rfl W)
  have HLEN := Lib.hid hlen
  have c0 : w1.cell? ⟨w.heap.size, 0, none⟩ = some (.int .i64 d) := blk_cell hg1 0
  have c1 : w1.cell? ⟨w.heap.size, 1, none⟩ = some (.int .i64 p) := blk_cell hg1 1
  have c3 : w1.cell? ⟨w.heap.size, 2, none⟩ = some (.slice a es.length c) := blk_cell hg1 2
  clear hw1 hb1 hg1 hE hR hlen hd0 hd1 hp0 hp1
  go_enter Try.func8, Try.ntmps8
  go_upto_region 1 with (fail)
  rw [HW1.out]
  go_upto_region 4 with (go_at_call 10; (with_reducible refine HRT.out.mono ?_); rintro e w2 ⟨rfl, hb2⟩; have HB2 := Lib.hid (HB1.out.trans (hb2.mono HB1.out.size)); have hg2 := (hb2.block _ (blk_lt HG1.out)).trans HG1.out; have HG2 := Lib.hid hg2; have c4 : w2.cell? ⟨w.heap.size, 0, none⟩ = some (.int .i64 d) := blk_cell hg2 0; have c5 : w2.cell? ⟨w.heap.size, 1, none⟩ = some (.int .i64 p) := blk_cell hg2 1; have c6 : w2.cell? ⟨w.heap.size, 2, none⟩ = some (.slice a es.length c) := blk_cell hg2 2; clear hb2 hg2 c0 c1 c3)
  have HL0 := Lib.hid (HR2.out w2)
  obtain ⟨w3, hw3⟩ : ∃ w3, w2.alloc (.cells #[.int .u8 d, .int .u8 es.length] 5) = w3 := ⟨_, rfl⟩
  change Code.wp _ _ _ _ (w2.alloc (.cells #[.int .u8 d, .int .u8 es.length] 5))
  rw [hw3] at HL0 ⊢
  have HC : Hid (∀ W, Below w2.heap.size w2 W → W.cell? ⟨w.heap.size, 1, none⟩ = some (.int .i64 p) ∧ W.cell? ⟨w.heap.size, 2, none⟩ = some (.slice a es.length c)) := fun W hb => by
    have := (hb.block _ (blk_lt HG2.out)).trans HG2.out
    exact ⟨blk_cell this 1, blk_cell this 2⟩
  obtain ⟨c7, c8⟩ := HC.out _ HL0.out.2
  clear c4 c5 c6 hw3
  go_upto_region 5 with (first
    | (at_builtin; (refine wpList_append_bytes rfl (.tmp 21) (.tmp 25) rfl rfl w2.heap.size i0 hi hz0 hz1 hz2 _ rfl _ HR4.out.1 _ rfl _ _ HU4.out (by simp [leI_len]) HR4.out.2.size ?_); intro v5 w5 n5 hn hown hg _; have HR5 := Lib.hid (RAt.app HR4.out hn.out hown hg); clear hn hown hg)
    | (go_at_call 34; (with_reducible refine (HNP.out _).mono ?_); rintro e w4 ⟨u4, rfl, hu, hb⟩; have HU4 := Lib.hid hu; have HR4 := Lib.hid (HL0.out.behind hb); clear hu hb))
  have hst : RAt w2 v5 (hdB d p es.length ++ (es.take 0).flatMap entB) w5 := by simpa [hdB] using HR5.out
  have HST := Lib.hid hst
  have b1 : (es.length : Int) ≤ 255 := by have := HLEN.out; omega
  clear hst c7 c8
  go_wp2
  go_loopw [6, 7] (fun v i wr => ∃ k : Nat, k ≤ es.length ∧ i = .int .i64 k ∧ RAt w2 v (hdB d p es.length ++ (es.take k).flatMap entB) wr) (fun _ i _ => es.length - (intOf i).toNat)
  case atStart => exact ⟨0, Nat.zero_le _, rfl, HST.out⟩
  case round =>
    obtain ⟨k, hk, rfl, hra⟩ := hrel
    obtain ⟨_, d2⟩ := HC.out _ hra.2
    by_cases hlt : k < es.length
    · obtain ⟨g, off, rfl, h4⟩ := HEN.out wr (HB2.out.trans (hra.2.mono HB2.out.size)) k hlt
      have htk := take_flat es k hlt
      have hok := HOK.out k hlt
      have hr0 := hok.r0
      have hr1 := hok.r1
      have ha0 := hok.a0
      have ha1 := hok.a1
      have hs0 := hok.s0
      have hs1 := hok.s1
      obtain ⟨x, hx⟩ : ∃ x, (es[k]?.getD default) = x := ⟨_, rfl⟩
      rw [hx] at h4 htk hr0 hr1 ha0 ha1 hs0 hs1
      obtain ⟨x0, x1, x2, x3⟩ := h4
      have k0 : (0 : Int) ≤ k := by omega
      have k1 : (k : Int) < es.length := by omega
      have hfl : ((es.take k).flatMap entB).length = 20 * k := by rw [ents_bytes_len, List.length_take]; omega
      obtain ⟨row, hrow⟩ : ∃ row, hdB d p es.length ++ (es.take k).flatMap entB = row := ⟨_, rfl⟩
      have HRL : Hid (row.length ≤ 100000) := by
        unfold Hid
        rw [← hrow, List.length_append, hdB_len, hfl]
        omega
      rw [hrow] at hra
      have HROW : Hid (hdB d p es.length ++ (es.take (k + 1)).flatMap entB = row ++ entB x) := by
        unfold Hid
        rw [htk, ← List.append_assoc, hrow]
      obtain ⟨w6, hw6⟩ : ∃ w6, wr.alloc (.cells #[.int .u64 (U x.hash), .int .i64 x.reg, .int .i64 x.at_, .int .i64 x.size] 46) = w6 := ⟨_, rfl⟩
      have hb6 : Below wr.heap.size wr w6 := by rw [← hw6]; exact (Below.refl _ _).alloc (Nat.le_refl _) _
      have hg6 : w6.heap[wr.heap.size]? = some (.cells #[.int .u64 (U x.hash), .int .i64 x.reg, .int .i64 x.at_, .int .i64 x.size] 46 (0, 0)) := by rw [← hw6]; exact heap_alloc_new _ _
      have HZ0 : Hid (wr.heap.size ≠ 0) := by have := hra.2.size; have := blk_lt HG2.out; unfold Hid; omega
      have HR6 := Lib.hid (hra.behind hb6)
      have HS6 : Hid (∀ W, WStay 0 w6 W → W.cell? ⟨wr.heap.size, 0, none⟩ = some (.int .u64 (U x.hash)) ∧ W.cell? ⟨wr.heap.size, 1, none⟩ = some (.int .i64 x.reg) ∧ W.cell? ⟨wr.heap.size, 2, none⟩ = some (.int .i64 x.at_) ∧ W.cell? ⟨wr.heap.size, 3, none⟩ = some (.int .i64 x.size)) := fun W hs => by
        have := hs.blk hg6 HZ0.out (by decide)
        exact ⟨blk_cell this 0, blk_cell this 1, blk_cell this 2, blk_cell this 3⟩
      have HN1 := Lib.hid (fun W => refNumI (U x.hash) 8 (U_nonneg _) (U_lt _) rfl W)
      have HN2 := Lib.hid (fun W => refNumI x.reg 8 hr0 (by omega) rfl W)
      have HN3 := Lib.hid (fun W => refNumI x.at_ 2 ha0 (by omega) rfl W)
      have HN4 := Lib.hid (fun W => refNumI x.size 2 hs0 (by omega) rfl W)
      have y1 : IntKind.u64.wrap x.reg = x.reg := wrapU64 hr0 (by omega)
      have y2 : IntKind.u64.wrap x.at_ = x.at_ := wrapU64 ha0 (by omega)
      have y3 : IntKind.u64.wrap x.size = x.size := wrapU64 hs0 (by omega)
      have HW6 := Lib.hid hw6
      have HK := Lib.hid hlt
      clear hx hok hr0 hr1 ha0 ha1 hs0 hs1 htk hfl hrow hra hb6 hg6 hw6 hlt hk
      go_upto_region 9 with (fail)
      change Code.wp _ _ _ _ (wr.alloc (.cells #[.int .u64 (U x.hash), .int .i64 x.reg, .int .i64 x.at_, .int .i64 x.size] 46))
      rw [HW6.out]
      obtain ⟨q0, q1, q2, q3⟩ := HS6.out _ (WStay.refl _ _)
      clear x0 x1 x2 x3 d2
      have HA0 := Lib.hid (WStay.refl 0 w6)
      go_wp2_with (first
        | (at_builtin; (refine wpList_append_bytes rfl (.tmp 56) (.tmp 60) rfl rfl w2.heap.size i0 hi hz0 hz1 hz2 _ rfl _ HR13.out.1 _ rfl _ _ HU13.out (by simp only [List.length_append, leI_len]; have := HRL.out; omega) HR13.out.2.size ?_); intro v14 w14 n14 hn hown hg _; have HR14 := Lib.hid (RAt.app HR13.out hn.out hown hg); have HA14 := Lib.hid (HA13.out.trans (HR13.out.stay hg)); obtain ⟨q0, q1, q2, q3⟩ := HS6.out _ HA14.out; clear hn hown hg)
        | (at_builtin; (refine wpList_append_bytes rfl (.tmp 50) (.tmp 54) rfl rfl w2.heap.size i0 hi hz0 hz1 hz2 _ rfl _ HR11.out.1 _ rfl _ _ HU11.out (by simp only [List.length_append, leI_len]; have := HRL.out; omega) HR11.out.2.size ?_); intro v12 w12 n12 hn hown hg _; have HR12 := Lib.hid (RAt.app HR11.out hn.out hown hg); have HA12 := Lib.hid (HA11.out.trans (HR11.out.stay hg)); obtain ⟨q0, q1, q2, q3⟩ := HS6.out _ HA12.out; clear hn hown hg)
        | (at_builtin; (refine wpList_append_bytes rfl (.tmp 44) (.tmp 48) rfl rfl w2.heap.size i0 hi hz0 hz1 hz2 _ rfl _ HR9.out.1 _ rfl _ _ HU9.out (by simp only [List.length_append, leI_len]; have := HRL.out; omega) HR9.out.2.size ?_); intro v10 w10 n10 hn hown hg _; have HR10 := Lib.hid (RAt.app HR9.out hn.out hown hg); have HA10 := Lib.hid (HA9.out.trans (HR9.out.stay hg)); obtain ⟨q0, q1, q2, q3⟩ := HS6.out _ HA10.out; clear hn hown hg)
        | (at_builtin; (refine wpList_append_bytes rfl (.tmp 39) (.tmp 42) rfl rfl w2.heap.size i0 hi hz0 hz1 hz2 _ rfl _ HR7.out.1 _ rfl _ _ HU7.out (by simp only [leI_len]; have := HRL.out; omega) HR7.out.2.size ?_); intro v8 w8 n8 hn hown hg _; have HR8 := Lib.hid (RAt.app HR7.out hn.out hown hg); have HA8 := Lib.hid (HA7.out.trans (HR7.out.stay hg)); obtain ⟨q0, q1, q2, q3⟩ := HS6.out _ HA8.out; clear hn hown hg)
        | (go_at_call 34; (with_reducible refine (HN4.out _).mono ?_); rintro e w13 ⟨u13, rfl, hu, hb⟩; have HU13 := Lib.hid hu; have HR13 := Lib.hid (HR12.out.behind hb); have HA13 := Lib.hid (HA12.out.trans (WStay.of_below hb)); obtain ⟨q0, q1, q2, q3⟩ := HS6.out _ HA13.out; clear hu hb)
        | (go_at_call 34; (with_reducible refine (HN3.out _).mono ?_); rintro e w11 ⟨u11, rfl, hu, hb⟩; have HU11 := Lib.hid hu; have HR11 := Lib.hid (HR10.out.behind hb); have HA11 := Lib.hid (HA10.out.trans (WStay.of_below hb)); obtain ⟨q0, q1, q2, q3⟩ := HS6.out _ HA11.out; clear hu hb)
        | (go_at_call 34; (with_reducible refine (HN2.out _).mono ?_); rintro e w9 ⟨u9, rfl, hu, hb⟩; have HU9 := Lib.hid hu; have HR9 := Lib.hid (HR8.out.behind hb); have HA9 := Lib.hid (HA8.out.trans (WStay.of_below hb)); obtain ⟨q0, q1, q2, q3⟩ := HS6.out _ HA9.out; clear hu hb)
        | (go_at_call 34; (with_reducible refine (HN1.out _).mono ?_); rintro e w7 ⟨u7, rfl, hu, hb⟩; have HU7 := Lib.hid hu; have HR7 := Lib.hid (HR6.out.behind hb); have HA7 := Lib.hid (HA0.out.trans (WStay.of_below hb)); obtain ⟨q0, q1, q2, q3⟩ := HS6.out _ HA7.out; clear hu hb))
      go_roundw
      case rel =>
        refine ⟨k + 1, HK.out, by go_num, ?_⟩
        rw [HROW.out]
        have := HR14.out
        unfold entB
        simp only [leI_U, List.append_assoc] at this ⊢
        exact this
      case measure => simp [intOf]; omega
    · obtain rfl : k = es.length := by omega
      have HRA := Lib.hid hra
      clear hra
      go_wp2
      go_ret2
      have hra := HRA.out
      rw [List.take_length] at hra
      exact ⟨_, rfl, base_own hra.1 HB2.out.size, HB2.out.trans (hra.2.mono HB2.out.size)⟩
end Go.Proofs.Ytlpfjmahinfeoaa

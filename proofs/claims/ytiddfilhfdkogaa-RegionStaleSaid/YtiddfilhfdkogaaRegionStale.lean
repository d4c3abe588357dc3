/-
  RegionStale: beyond a region, of one that is not there, of what was not appended, nothing is read; of no bytes none.
  Conditions: none.
-/
import Derived.Test.YtiddfilhfdkogaaReg30
import Derived.Test.YtiddfilhfdkogaaJP2
namespace Go.Proofs.Ytiddfilhfdkogaa
open Go.ChangeShapes Go.WideShapes Go.ChangeAt Go.RowKit Go.Shelf Go.Deep

/-- A location, as an argument. -/
structure Loc11 where
  q : Int
  p : Int
  n : Int
section
variable {H : Type} {enc : TypeId × Value → H}
set_option maxRecDepth 100000 in
theorem open_loc11 {W : World} {base : Nat} {v : Value} {d : DataW H} {p : List MemPlace} (o : Value.okWide Try.prog W .any base 42 v) (h : DataW.Trod enc Try.prog W 0 (fun _ => true) true 42 v d p) : ∃ y : Loc11, v = .agg #[.int .i64 y.q, .int .i64 y.p, .int .i64 y.n] ∧ (-9223372036854775808 ≤ y.p ∧ y.p ≤ 9223372036854775807) := by
  obtain ⟨cs, n, rfl, hlen, hc⟩ := open_agg_any Try.underlying42 (by kernel_rfl) o h
  have h3 : Try.prog.cellsOf 42 = 3 := by kernel_rfl
  rw [h3] at hlen
  match cs, hlen with
  | [c0, c1, c2], _ =>
    obtain ⟨_, y0⟩ := hc 0 _ c0 rfl rfl
    obtain ⟨_, y1⟩ := hc 1 _ c1 rfl rfl
    obtain ⟨_, y2⟩ := hc 2 _ c2 rfl rfl
    obtain ⟨i0, rfl, w0⟩ := int_of y0
    obtain ⟨i1, rfl, w1⟩ := int_of y1
    obtain ⟨i2, rfl, w2⟩ := int_of y2
    exact ⟨⟨i0, i1, i2⟩, rfl, w1⟩
end
set_option maxRecDepth 100000 in
set_option maxHeartbeats 16000000 in
theorem regionStale_walk (l : List Act11) (v : Value) (q p n : Int) (hp : -9223372036854775808 ≤ p ∧ p ≤ 9223372036854775807) (w : World) (hv : ActsAt11 w.heap.size w v l) (hm : l.length ≤ maxLen) : Calls Try.prog 7 #[v, .agg #[.int .i64 q, .int .i64 p, .int .i64 n]] w (Good w) := by
  obtain ⟨W1, hW1⟩ : ∃ W1, w.alloc (.cells #[.int .i64 q, .int .i64 p, .int .i64 n] 42) = W1 := ⟨_, rfl⟩
  have hb1 : Below w.heap.size w W1 := by rw [← hW1]; exact (Below.refl _ w).alloc (Nat.le_refl _) _
  have hk1 : W1.heap[w.heap.size]? = some (.cells #[.int .i64 q, .int .i64 p, .int .i64 n] 42 (0, 0)) := by rw [← hW1]; exact heap_alloc_new _ _
  obtain ⟨a, cap, rfl, hcap, hwf, hv⟩ := hv
  have hv1 : ActsAt11 w.heap.size W1 (.slice a l.length cap) l := ⟨a, cap, rfl, hcap, hwf, hv.imp id fun ⟨g, off, e1, hg, hc⟩ => ⟨g, off, e1, hg, fun i hi => (hc i hi).below hb1 hg⟩⟩
  have HLI := Lib.hid (light11_any l _ _ W1 hv1 hm)
  have HW1 := Lib.hid hW1
  have HB1 := Lib.hid hb1
  have HK1 := Lib.hid hk1
  cases hL : light11B l with
  | false =>
    rw [hL] at HLI
    clear hwf hv hv1 hW1 hb1 hk1
    go_enter Try.func7, Try.ntmps7
    go_upto_region 1 with (fail)
    change Code.wp _ _ _ _ (w.alloc (.cells #[.int .i64 q, .int .i64 p, .int .i64 n] 42))
    rw [HW1.out]
    clear HW1
    go_wp2_with (go_at_call 22; (with_reducible refine HLI.out.mono ?_); rintro e w1 ⟨rfl, rfl⟩)
    go_ret
    exact ⟨rfl, HB1.out⟩
  | true =>
    rw [hL] at HLI
    obtain ⟨hl60, hsz⟩ := light11_parts hL
    have HSZ := Lib.hid hsz
    have HL60 := Lib.hid hl60
    have HWF := Lib.hid hwf
    have HV := Lib.hid (show l = [] ∨ ∃ g off, a = some ⟨g, off, none⟩ ∧ g < W1.heap.size ∧ ∀ i, i < l.length → ActAt11 W1 g (off + i * 4) (l[i]?.getD default) from hv.imp id fun ⟨g, off, e1, hg, hc⟩ => ⟨g, off, e1, Nat.lt_of_lt_of_le hg hb1.size, fun i hi => (hc i hi).below hb1 hg⟩)
    have HAW := Lib.hid (fun W => awake11 W)
    have HSM := Lib.hid small_any
    have HNEW : Hid (Calls Try.prog 9 #[.int .i64 60, .int .i64 96] W1 fun e W' => ∃ D, e = .returned (.pointer (some ⟨D, 0, none⟩)) ∧ DevHere W1 D (Dev.new 60 96) W' ∧ Below W1.heap.size W1 W') := here_new 60 96 (by decide) (Below.refl _ W1)
    have b1 : (l.length : Int) ≤ 60 := by omega
    have HPB := Lib.hid hp
    clear hwf hv hsz hl60 hL hm hv1 hW1 hb1 hk1 hp
    go_enter Try.func7, Try.ntmps7
    go_upto_region 1 with (fail)
    change Code.wp _ _ _ _ (w.alloc (.cells #[.int .i64 q, .int .i64 p, .int .i64 n] 42))
    rw [HW1.out]
    clear HW1
    go_upto_region 6 with (first
      | (go_at_call 22; (with_reducible refine HLI.out.mono ?_); rintro e w1 ⟨rfl, rfl⟩)
      | (go_at_call 9; (with_reducible refine HNEW.out.mono ?_); rintro e w1 ⟨D, rfl, hd, _⟩; have HD := Lib.hid hd; clear hd)
      | (go_at_call 10; (with_reducible refine (HSM.out _).mono ?_); rintro e w2 ⟨rfl, hb2⟩; have HD2 := Lib.hid (HD.out.on hb2); clear hb2)
      | (go_at_call 8; (with_reducible refine (format_began HD2.out).mono ?_); rintro e w3 ⟨R, rfl, hB⟩; have HB3 := Lib.hid hB; clear hB))
    clear HNEW HSM HD HD2 HLI
    go_wp2
    go_loopw [7] (fun iv wr => ∃ k : Nat, k ≤ l.length ∧ iv = .int .i64 k ∧ WhRound W1 R D k wr) (fun iv _ => l.length - (intOf iv).toNat)
    case atStart => exact ⟨0, Nat.zero_le _, rfl, _, _, _, HB3.out.now, ⟨rfl, rfl, rfl, rfl⟩⟩
    case round =>
      obtain ⟨k, hk, rfl, x, d, H, hN, hl⟩ := hrel
      by_cases hlt : k < l.length
      · obtain ⟨hr, hrm, hreg⟩ := like_facts hl
        have h60 := HL60.out
        have HK0 : Hid (k * 160 ≤ 65536) := by unfold Hid; omega
        have HK2 : Hid (k * 160 + 155 ≤ 65536) := by unfold Hid; omega
        rcases HV.out with h | ⟨g, off, rfl, hg, hc⟩
        · exact absurd hlt (by rw [h]; simp)
        obtain ⟨A, hA⟩ : ∃ A, l[k]?.getD default = A := ⟨_, rfl⟩
        have hz := HSZ.out k hlt
        have hca := hc k hlt
        rw [hA] at hz hca
        obtain ⟨c0, c1, c2, c3⟩ := hca.below hN.at_.since hg
        have HZ := Lib.hid hz
        have HN1 := Lib.hid hN
        have HLK := Lib.hid hl
        have HRR := Lib.hid hr
        have HLT := Lib.hid hlt
        have k0 : (0 : Int) ≤ k := by omega
        have k1 : (k : Int) < l.length := by omega
        have HBY := Lib.hid (fun V : World => bytes11_any A HZ.out V)
        have HBL := Lib.hid A.bs_len
        clear hN hl hr hrm hreg h60 hz hca hc hA hlt
        by_cases hn : 1 ≤ A.size ∧ A.size ≤ 154
        · have HN1' : Hid (1 ≤ A.size.toNat ∧ A.size.toNat ≤ 154) := by unfold Hid; omega
          clear hn
          generalize A.size.toNat = nn at HBY HBL HN1'
          go_wp2_with (first
            | (go_at_call 23; (with_reducible refine (HBY.out _).mono ?_); rintro e w2 ⟨g2, hg2, rfl, ho2, hb2⟩; have HN2 := Lib.hid (HN1.out.adds (E' := fun j => j = g2) hb2 (fun j e => by subst e; exact .inr ⟨hg2, (ho2.lt _ rfl).2⟩)); have HA2 := Lib.hid (now_append_act HN2.out HRR.out HBL.out HN1'.out.1 HN1'.out.2 HK2.out (own_bytes HBL.out ho2)); clear hg2 ho2 hb2 c0 c1 c2 c3)
            | (go_at_call 12; (with_reducible refine HA2.out.mono ?_); rintro e w3 ⟨x2, d2, q2, p2, hgo, rfl, hn3⟩; have HGO := Lib.hid hgo; have HN3 := Lib.hid hn3; clear hgo hn3))
          go_roundw
          case rel => exact ⟨k + 1, HLT.out, by go_num, _, _, _, HN3.out.grow (by omega), HGO.out.1.trans HLK.out⟩
          case measure => have := HLT.out; simp [intOf]; omega
        · have HNN : Hid (A.size.toNat = 0 ∨ 154 < A.size.toNat) := by unfold Hid; omega
          have HNM : Hid (A.size.toNat ≤ 1000) := by have := HZ.out; unfold Hid; omega
          clear hn
          generalize A.size.toNat = nn at HBY HBL HNN HNM
          go_wp2_with (first
            | (go_at_call 23; (with_reducible refine (HBY.out _).mono ?_); rintro e w2 ⟨g2, hg2, rfl, ho2, hb2⟩; have HN2 := Lib.hid (HN1.out.on hb2); have HA2 := Lib.hid (now_append_no HN2.out HRR.out (some ⟨g2, 0, none⟩) nn nn HNN.out HNM.out); clear hg2 ho2 hb2 c0 c1 c2 c3)
            | (go_at_call 12; (with_reducible refine HA2.out.mono ?_); rintro e w3 ⟨er, her, rfl, hn3, hb3⟩; have HN3 := Lib.hid hn3; clear hn3 hb3))
          go_roundw
          case rel => exact ⟨k + 1, HLT.out, by go_num, _, _, _, HN3.out.grow (by omega), HLK.out⟩
          case measure => have := HLT.out; simp [intOf]; omega
      · obtain rfl : k = l.length := by omega
        have HSI := Lib.hid hN.at_.since
        have hk2 := (hN.at_.since.block _ (blk_lt HK1.out)).trans HK1.out
        have l0 : wr.cell? ⟨w.heap.size, 0, none⟩ = some (.int .i64 q) := blk_cell hk2 0
        have l1 : wr.cell? ⟨w.heap.size, 1, none⟩ = some (.int .i64 p) := blk_cell hk2 1
        have l2 : wr.cell? ⟨w.heap.size, 2, none⟩ = some (.int .i64 n) := blk_cell hk2 2
        have HN := Lib.hid hN
        have HRD := Lib.hid (now_read_loc hN q p n)
        have HLX := Lib.hid (like_facts hl)
        have HK2 := Lib.hid hk2
        clear hN hl hk2
        go_upto_region 11 with (go_at_call 21; (with_reducible refine HRD.out.mono ?_); rintro e w5 ⟨av, m, cv, er, rfl, hb5, hcs⟩; have HB5 := Lib.hid hb5; have HCS := Lib.hid hcs; clear hb5 hcs l0 l1 l2)
        have hk5 := (HB5.out.block _ (blk_lt HK2.out)).trans HK2.out
        have q0 : ∀ pp : After w5, pp.v.cell? ⟨w.heap.size, 0, none⟩ = some (.int .i64 q) := after_cell (blk_cell hk5 0)
        have q1 : ∀ pp : After w5, pp.v.cell? ⟨w.heap.size, 1, none⟩ = some (.int .i64 p) := after_cell (blk_cell hk5 1)
        have q2 : ∀ pp : After w5, pp.v.cell? ⟨w.heap.size, 2, none⟩ = some (.int .i64 n) := after_cell (blk_cell hk5 2)
        have HN5 := Lib.hid (HN.out.on HB5.out)
        have HOO : Hid (∀ V, Below w5.heap.size w5 V → Calls Try.prog 16 #[.pointer (some ⟨R, 0, none⟩)] V fun e W' => e = .returned (.int .i64 x.oldest) ∧ Below V.heap.size V W') := fun V hb => now_oldest (HN5.out.on hb)
        have HLA : Hid (∀ V, Below w5.heap.size w5 V → Calls Try.prog 14 #[.pointer (some ⟨R, 0, none⟩)] V fun e W' => e = .returned (.int .i64 x.last) ∧ Below V.heap.size V W') := fun V hb => (now_last (HN5.out.on hb)).mono fun e W' ⟨a, b⟩ => ⟨a, by rw [← b]; exact Below.refl _ _⟩
        have hH : x.holdB q p n = (decide (x.oldest ≤ q ∧ q ≤ x.last) && decide (0 ≤ p ∧ p ≤ 154 ∧ 0 ≤ n ∧ n ≤ 154 - p)) := by unfold LogS.holdB LogS.thereB; rw [HLX.out.1]; rfl
        have HKE := Lib.hid ((HB5.out.block _ (blk_lt HK2.out)).trans HK2.out)
        have HEND := Lib.hid (HB1.out.trans ((HSI.out.trans (HB5.out.mono HSI.out.size)).mono HB1.out.size))
        have hcs := HCS.out
        obtain ⟨ol, hol⟩ : ∃ ol, x.oldest = ol := ⟨_, rfl⟩
        obtain ⟨la, hla⟩ : ∃ la : Int, (x.last : Int) = la := ⟨_, rfl⟩
        rw [hol] at HOO hH
        rw [hla] at HLA hH
        clear hol hla hk5 HCS HRD HN HN5 HSI HB5 HK2 HB3
        by_cases e0 : q < ol
        · have hno : x.holdB q p n = false := by rw [hH]; simp; omega
          obtain ⟨rfl, rfl⟩ : er = 13 ∧ m = 0 := by
            rcases hcs with ⟨_, a, b⟩ | ⟨a, _⟩
            · exact ⟨a, b⟩
            · rw [hno] at a; cases a
          have d0 : decide (q < ol) = true := by simpa using e0
          clear hno hcs hH
          clear e0
          refine wp_region_after (by kernel_rfl) (by kernel_rfl) ?_
          repeat (go_big_quiet_step (first | (go_at_call 16; with_reducible exact after_call (HOO.out _ (After.h _))) | (go_at_call 14; with_reducible exact after_call (HLA.out _ (After.h _)))))
          refine wpQuiet_nil ?_
          rintro _ ⟨p9, rfl⟩
          have HB9 := Lib.hid (HEND.out.trans (p9.h.mono HEND.out.size))
          have hk9 := (p9.h.block _ (blk_lt HKE.out)).trans HKE.out
          have l0 : p9.v.cell? ⟨w.heap.size, 2, none⟩ = some (.int .i64 n) := blk_cell hk9 2
          generalize p9.v = w9 at HB9 l0 ⊢
          clear hk9 q0 q1 q2
          go_wp2_with (go_at_call 17; (with_reducible refine (HAW.out _).mono ?_); rintro e wz ⟨rfl, hbz⟩; have HBZ := Lib.hid hbz; clear hbz)
          go_ret
          exact ⟨rfl, HB9.out.trans (HBZ.out.mono HB9.out.size)⟩
        by_cases e1 : la < q
        · have hno : x.holdB q p n = false := by rw [hH]; simp; omega
          obtain ⟨rfl, rfl⟩ : er = 13 ∧ m = 0 := by
            rcases hcs with ⟨_, a, b⟩ | ⟨a, _⟩
            · exact ⟨a, b⟩
            · rw [hno] at a; cases a
          have d0 : decide (q < ol) = false := by simpa using e0
          have d1 : decide (la < q) = true := by simpa using e1
          clear hno hcs hH
          clear e0 e1
          refine wp_region_after (by kernel_rfl) (by kernel_rfl) ?_
          repeat (go_big_quiet_step (first | (go_at_call 16; with_reducible exact after_call (HOO.out _ (After.h _))) | (go_at_call 14; with_reducible exact after_call (HLA.out _ (After.h _)))))
          refine wpQuiet_nil ?_
          rintro _ ⟨p9, rfl⟩
          have HB9 := Lib.hid (HEND.out.trans (p9.h.mono HEND.out.size))
          have hk9 := (p9.h.block _ (blk_lt HKE.out)).trans HKE.out
          have l0 : p9.v.cell? ⟨w.heap.size, 2, none⟩ = some (.int .i64 n) := blk_cell hk9 2
          generalize p9.v = w9 at HB9 l0 ⊢
          clear hk9 q0 q1 q2
          go_wp2_with (go_at_call 17; (with_reducible refine (HAW.out _).mono ?_); rintro e wz ⟨rfl, hbz⟩; have HBZ := Lib.hid hbz; clear hbz)
          go_ret
          exact ⟨rfl, HB9.out.trans (HBZ.out.mono HB9.out.size)⟩
        by_cases e2 : p < 0
        · have hno : x.holdB q p n = false := by rw [hH]; simp; omega
          obtain ⟨rfl, rfl⟩ : er = 13 ∧ m = 0 := by
            rcases hcs with ⟨_, a, b⟩ | ⟨a, _⟩
            · exact ⟨a, b⟩
            · rw [hno] at a; cases a
          have d0 : decide (q < ol) = false := by simpa using e0
          have d1 : decide (la < q) = false := by simpa using e1
          have d2 : decide (p < 0) = true := by simpa using e2
          clear hno hcs hH
          clear e0 e1 e2
          refine wp_region_after (by kernel_rfl) (by kernel_rfl) ?_
          repeat (go_big_quiet_step (first | (go_at_call 16; with_reducible exact after_call (HOO.out _ (After.h _))) | (go_at_call 14; with_reducible exact after_call (HLA.out _ (After.h _)))))
          refine wpQuiet_nil ?_
          rintro _ ⟨p9, rfl⟩
          have HB9 := Lib.hid (HEND.out.trans (p9.h.mono HEND.out.size))
          have hk9 := (p9.h.block _ (blk_lt HKE.out)).trans HKE.out
          have l0 : p9.v.cell? ⟨w.heap.size, 2, none⟩ = some (.int .i64 n) := blk_cell hk9 2
          generalize p9.v = w9 at HB9 l0 ⊢
          clear hk9 q0 q1 q2
          go_wp2_with (go_at_call 17; (with_reducible refine (HAW.out _).mono ?_); rintro e wz ⟨rfl, hbz⟩; have HBZ := Lib.hid hbz; clear hbz)
          go_ret
          exact ⟨rfl, HB9.out.trans (HBZ.out.mono HB9.out.size)⟩
        by_cases e3 : n < 0
        · have hno : x.holdB q p n = false := by rw [hH]; simp; omega
          obtain ⟨rfl, rfl⟩ : er = 13 ∧ m = 0 := by
            rcases hcs with ⟨_, a, b⟩ | ⟨a, _⟩
            · exact ⟨a, b⟩
            · rw [hno] at a; cases a
          have d0 : decide (q < ol) = false := by simpa using e0
          have d1 : decide (la < q) = false := by simpa using e1
          have d2 : decide (p < 0) = false := by simpa using e2
          have d3 : decide (n < 0) = true := by simpa using e3
          clear hno hcs hH
          clear e0 e1 e2 e3
          refine wp_region_after (by kernel_rfl) (by kernel_rfl) ?_
          repeat (go_big_quiet_step (first | (go_at_call 16; with_reducible exact after_call (HOO.out _ (After.h _))) | (go_at_call 14; with_reducible exact after_call (HLA.out _ (After.h _)))))
          refine wpQuiet_nil ?_
          rintro _ ⟨p9, rfl⟩
          have HB9 := Lib.hid (HEND.out.trans (p9.h.mono HEND.out.size))
          have hk9 := (p9.h.block _ (blk_lt HKE.out)).trans HKE.out
          have l0 : p9.v.cell? ⟨w.heap.size, 2, none⟩ = some (.int .i64 n) := blk_cell hk9 2
          generalize p9.v = w9 at HB9 l0 ⊢
          clear hk9 q0 q1 q2
          go_wp2_with (go_at_call 17; (with_reducible refine (HAW.out _).mono ?_); rintro e wz ⟨rfl, hbz⟩; have HBZ := Lib.hid hbz; clear hbz)
          go_ret
          exact ⟨rfl, HB9.out.trans (HBZ.out.mono HB9.out.size)⟩
        by_cases e4 : 154 < p
        · have hno : x.holdB q p n = false := by rw [hH]; simp; omega
          obtain ⟨rfl, rfl⟩ : er = 13 ∧ m = 0 := by
            rcases hcs with ⟨_, a, b⟩ | ⟨a, _⟩
            · exact ⟨a, b⟩
            · rw [hno] at a; cases a
          have d0 : decide (q < ol) = false := by simpa using e0
          have d1 : decide (la < q) = false := by simpa using e1
          have d2 : decide (p < 0) = false := by simpa using e2
          have d3 : decide (n < 0) = false := by simpa using e3
          have d4 : decide (154 < p) = true := by simpa using e4
          clear hno hcs hH
          clear e0 e1 e2 e3 e4
          refine wp_region_after (by kernel_rfl) (by kernel_rfl) ?_
          repeat (go_big_quiet_step (first | (go_at_call 16; with_reducible exact after_call (HOO.out _ (After.h _))) | (go_at_call 14; with_reducible exact after_call (HLA.out _ (After.h _)))))
          refine wpQuiet_nil ?_
          rintro _ ⟨p9, rfl⟩
          have HB9 := Lib.hid (HEND.out.trans (p9.h.mono HEND.out.size))
          have hk9 := (p9.h.block _ (blk_lt HKE.out)).trans HKE.out
          have l0 : p9.v.cell? ⟨w.heap.size, 2, none⟩ = some (.int .i64 n) := blk_cell hk9 2
          generalize p9.v = w9 at HB9 l0 ⊢
          clear hk9 q0 q1 q2
          go_wp2_with (go_at_call 17; (with_reducible refine (HAW.out _).mono ?_); rintro e wz ⟨rfl, hbz⟩; have HBZ := Lib.hid hbz; clear hbz)
          go_ret
          exact ⟨rfl, HB9.out.trans (HBZ.out.mono HB9.out.size)⟩
        by_cases e5 : 154 - p < n
        · have hno : x.holdB q p n = false := by rw [hH]; simp; omega
          obtain ⟨rfl, rfl⟩ : er = 13 ∧ m = 0 := by
            rcases hcs with ⟨_, a, b⟩ | ⟨a, _⟩
            · exact ⟨a, b⟩
            · rw [hno] at a; cases a
          have z1 : IntKind.i64.wrap (154 - p) = 154 - p := IntWalk.i64_in _ ⟨by omega, by omega⟩
          have z2 : wrap64 (154 - p) = 154 - p := IntWalk.wrap64_in _ ⟨by omega, by omega⟩
          have d0 : decide (q < ol) = false := by simpa using e0
          have d1 : decide (la < q) = false := by simpa using e1
          have d2 : decide (p < 0) = false := by simpa using e2
          have d3 : decide (n < 0) = false := by simpa using e3
          have d4 : decide (154 < p) = false := by simpa using e4
          have d5 : decide (154 - p < n) = true := by simpa using e5
          clear hno hcs hH
          clear e0 e1 e2 e3 e4 e5
          refine wp_region_after (by kernel_rfl) (by kernel_rfl) ?_
          repeat (go_big_quiet_step (first | (go_at_call 16; with_reducible exact after_call (HOO.out _ (After.h _))) | (go_at_call 14; with_reducible exact after_call (HLA.out _ (After.h _)))))
          refine wpQuiet_nil ?_
          rintro _ ⟨p9, rfl⟩
          have HB9 := Lib.hid (HEND.out.trans (p9.h.mono HEND.out.size))
          have hk9 := (p9.h.block _ (blk_lt HKE.out)).trans HKE.out
          have l0 : p9.v.cell? ⟨w.heap.size, 2, none⟩ = some (.int .i64 n) := blk_cell hk9 2
          generalize p9.v = w9 at HB9 l0 ⊢
          clear hk9 q0 q1 q2
          go_wp2_with (go_at_call 17; (with_reducible refine (HAW.out _).mono ?_); rintro e wz ⟨rfl, hbz⟩; have HBZ := Lib.hid hbz; clear hbz)
          go_ret
          exact ⟨rfl, HB9.out.trans (HBZ.out.mono HB9.out.size)⟩
        have hyes : x.holdB q p n = true := by rw [hH]; simp; omega
        have z1 : IntKind.i64.wrap (154 - p) = 154 - p := IntWalk.i64_in _ ⟨by omega, by omega⟩
        have z2 : wrap64 (154 - p) = 154 - p := IntWalk.wrap64_in _ ⟨by omega, by omega⟩
        have d0 : decide (q < ol) = false := by simpa using e0
        have d1 : decide (la < q) = false := by simpa using e1
        have d2 : decide (p < 0) = false := by simpa using e2
        have d3 : decide (n < 0) = false := by simpa using e3
        have d4 : decide (154 < p) = false := by simpa using e4
        have d5 : decide (154 - p < n) = false := by simpa using e5
        clear e0 e1 e2 e3 e4 e5
        rcases hcs with ⟨a, _⟩ | ⟨_, ⟨rfl, hmn⟩ | ⟨rfl, rfl, hn0⟩⟩
        · rw [hyes] at a; cases a
        · subst hmn
          clear hyes hH
          refine wp_region_after (by kernel_rfl) (by kernel_rfl) ?_
          repeat (go_big_quiet_step (first | (go_at_call 16; with_reducible exact after_call (HOO.out _ (After.h _))) | (go_at_call 14; with_reducible exact after_call (HLA.out _ (After.h _)))))
          refine wpQuiet_nil ?_
          rintro _ ⟨p9, rfl⟩
          have HB9 := Lib.hid (HEND.out.trans (p9.h.mono HEND.out.size))
          have hk9 := (p9.h.block _ (blk_lt HKE.out)).trans HKE.out
          have l0 : p9.v.cell? ⟨w.heap.size, 2, none⟩ = some (.int .i64 (m : Int)) := blk_cell hk9 2
          generalize p9.v = w9 at HB9 l0 ⊢
          clear hk9 q0 q1 q2
          go_wp2_with (go_at_call 17; (with_reducible refine (HAW.out _).mono ?_); rintro e wz ⟨rfl, hbz⟩; have HBZ := Lib.hid hbz; clear hbz)
          go_ret
          exact ⟨rfl, HB9.out.trans (HBZ.out.mono HB9.out.size)⟩
        · have d7 : decide (0 < n) = true := by simpa using hn0
          clear hyes hH hn0
          refine wp_region_after (by kernel_rfl) (by kernel_rfl) ?_
          repeat (go_big_quiet_step (first | (go_at_call 16; with_reducible exact after_call (HOO.out _ (After.h _))) | (go_at_call 14; with_reducible exact after_call (HLA.out _ (After.h _)))))
          refine wpQuiet_nil ?_
          rintro _ ⟨p9, rfl⟩
          have HB9 := Lib.hid (HEND.out.trans (p9.h.mono HEND.out.size))
          have hk9 := (p9.h.block _ (blk_lt HKE.out)).trans HKE.out
          have l0 : p9.v.cell? ⟨w.heap.size, 2, none⟩ = some (.int .i64 n) := blk_cell hk9 2
          generalize p9.v = w9 at HB9 l0 ⊢
          clear hk9 q0 q1 q2
          go_wp2_with (go_at_call 17; (with_reducible refine (HAW.out _).mono ?_); rintro e wz ⟨rfl, hbz⟩; have HBZ := Lib.hid hbz; clear hbz)
          go_ret
          exact ⟨rfl, HB9.out.trans (HBZ.out.mono HB9.out.size)⟩
set_option maxRecDepth 100000 in
theorem regionStale_lifted (os : Os) (started : os.Started) (H : Type) (enc : TypeId × Value → H) :
    ReturnsInHanded {} Try.checked os 7 .any (Rows.regionStaleSpec.pre6 enc Try.prog Try.f7 Rows.regionStaleRow.domain false) (Rows.regionStaleSpec.post enc Try.prog Try.f7 false true false false) :=
  law_lifted 7 Try.f7 Rows.regionStaleSpec Try.func7 (by kernel_rfl) rfl rfl
    (fun ds h => by match ds, h with | [_, _], _ => rfl) (by kernel_rfl) os started
    (ChangeSpec.witness6 (enc := enc) (C := Try.checked) false ⟨#[], #[.slice none 0 0, .agg #[.int .i64 0, .int .i64 0, .int .i64 0]], []⟩ 8 (by kernel_rfl) (by kernel_rfl) (by kernel_rfl) (by kernel_rfl))
    fun W args ds ps hval hA => by
      rw [Try.params7] at hA hval
      obtain ⟨v0, vs0, d0, ds0, p0, q0, hargs, rfl, rfl, h0, r0⟩ := trodAll_cons hA
      obtain ⟨v1, vs1, d1, ds1, p1, q1, rfl, rfl, rfl, h1, r1⟩ := trodAll_cons r0
      obtain ⟨rfl, rfl, rfl⟩ := trodAll_nil r1
      obtain rfl : args = #[v0, v1] := by cases args; simp_all
      obtain ⟨b0, o0⟩ := hval 0 _ v0 rfl rfl
      obtain ⟨b1, o1⟩ := hval 1 _ v1 rfl rfl
      obtain ⟨l0, hb0, hm0⟩ := open_acts11 o0 h0
      obtain ⟨q1, rfl, hq1⟩ := open_loc11 o1 h1
      exact regionStale_walk l0 _ q1.q q1.p q1.n hq1 W hb0 hm0

/-- The statement. -/
theorem regionStale_holds : Rows.RegionStaleSaid :=
  OpenClaim.holds_of_wide 7 Try.f7 rfl rfl rfl rfl rfl rfl rfl ⟨rfl, rfl, rfl, rfl, rfl⟩ rfl rfl rfl rfl rfl (by kernel_rfl) Try.func7 (by kernel_rfl)
    (of_decide_eq_true (by kernel_rfl)) (by unfold Func.isWrapper; first | (rw [if_pos (by decide +kernel)]; kernel_rfl) | (rw [if_neg (by decide +kernel)]; exact ⟨rfl, rfl⟩))
    (fun os started H enc _ => regionStale_lifted os started H enc)
#print axioms regionStale_holds
end Go.Proofs.Ytiddfilhfdkogaa

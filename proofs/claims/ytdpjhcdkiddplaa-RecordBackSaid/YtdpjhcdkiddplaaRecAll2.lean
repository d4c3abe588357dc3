/-
  record.All: the function that is ranged over.
  Conditions: none.
-/
import Derived.Test.YtdpjhcdkiddplaaRecAll
namespace Go.Proofs.Ytdpjhcdkiddplaa
open Go.RowKit Go.Shelf
attribute [local go_sem] Oper.semAt_some

/-- A list's element lies apart from the list. -/
def RX.Off (Bx : Nat) (v : Value) (x : RX) : Prop := (x.r.key ≠ [] → ∀ k, x.u.ownBlock = some k → k ≠ Bx ∧ v.ownBlock ≠ some k) ∧ (x.r.val ≠ [] → ∀ k, x.v.ownBlock = some k → k ≠ Bx ∧ v.ownBlock ≠ some k)
theorem RX.step {n₀ Bx : Nat} {s : List RX × Value} {x y : RX} {W W' : World} (hg : y.Good W) (ho : y.Off Bx s.2) (h : AllBody n₀ Bx s x W W') (v' : Value) (h5 : v'.ownBlock = s.2.ownBlock ∨ ∃ k, v'.ownBlock = some k ∧ W.heap.size ≤ k) : y.Good W' ∧ y.Off Bx v' := by
  obtain ⟨_, _, _, hb, hk, _⟩ := h
  refine ⟨⟨hg.1.keepsAt hk (fun hne k e => ho.1 hne k e) hb.size, hg.2.keepsAt hk (fun hne k e => ho.2 hne k e) hb.size⟩, ?_, ?_⟩
  · intro hne k e
    refine ⟨(ho.1 hne k e).1, ?_⟩
    rcases h5 with h5 | ⟨j, e5, hj⟩
    · rw [h5]; exact (ho.1 hne k e).2
    · rw [e5]; intro e6; have := hg.1.lt hne e; cases e6; omega
  · intro hne k e
    refine ⟨(ho.2 hne k e).1, ?_⟩
    rcases h5 with h5 | ⟨j, e5, hj⟩
    · rw [h5]; exact (ho.2 hne k e).2
    · rw [e5]; intro e6; have := hg.2.lt hne e; cases e6; omega
/-- What the loop keeps. -/
def AllAt (n₀ Bx : Nat) (bs : List (BitVec 8)) (m : Nat) (w : World) (xs : List RX) (v : Value) (W : World) : Prop :=
  recs bs = xs.map RX.r ++ recs (bs.drop m) ∧ xs.length ≤ m ∧ AllPre n₀ Bx (xs, v) W ∧ Below n₀ w W ∧ (∀ x ∈ xs, x.Good W ∧ x.Off Bx v)
theorem AllAt.below {n₀ Bx : Nat} {bs : List (BitVec 8)} {m : Nat} {w : World} {xs : List RX} {v : Value} {W W' : World} (h : AllAt n₀ Bx bs m w xs v W) (hb : Below W.heap.size W W') (hn : n₀ ≤ W.heap.size) : AllAt n₀ Bx bs m w xs v W' := by
  obtain ⟨h1, h2, ⟨p1, p2, p3, p4⟩, h4, h5⟩ := h
  exact ⟨h1, h2, ⟨(hb.block _ p1.lt).trans p1, ownsRow_below p2 hb, p3, p4⟩, h4.trans (hb.mono hn), fun x hx => ⟨⟨((h5 x hx).1.1.below hb).mono hb.size, ((h5 x hx).1.2.below hb).mono hb.size⟩, (h5 x hx).2⟩⟩

theorem AllAt.fin {n₀ Bx : Nat} {bs : List (BitVec 8)} {m : Nat} {w : World} {xs : List RX} {v : Value} {W : World} (h : AllAt n₀ Bx bs m w xs v W) (hr : recs (bs.drop m) = []) : AllS n₀ Bx bs w W := by
  obtain ⟨h1, h2, ⟨p1, p2, p3, p4⟩, h4, h5⟩ := h
  rw [hr, List.append_nil] at h1
  exact ⟨xs, v, h1.symm, p1, p2, fun x hx => (h5 x hx).1, h4⟩
/-- What Unpack answers, as it lies in memory. -/
def UnpX (y : RecP) (n er : Int) (w : World) (e : Ending) (w' : World) : Prop := ∃ x : RX, x.r = y ∧ e = .returned (.tuple #[.agg #[.slice x.au x.nu x.cu, .slice x.av x.nv x.cv, .int .i64 y.fin], .int .i64 n, .int .i64 er]) ∧ x.Good w' ∧ Below w.heap.size w w' ∧ Fresh w.heap.size x.u ∧ Fresh w.heap.size x.v
theorem unpX_any (v : Value) (bs : List (BitVec 8)) (w : World) (hv : BytesAt w.heap.size w v bs) (hl : bs.length ≤ 549755813888) :
    Calls Try.prog 6 #[v] w (UnpX (unpRec bs) (unpN bs) (unpErr bs) w) := by
  refine (unpackF_any v bs w hv hl).mono ?_
  rintro e w' ⟨u, v, rfl, hu, hv, hb, f1, f2⟩
  obtain ⟨a, c, rfl, _⟩ := id hu
  obtain ⟨a2, c2, rfl, _⟩ := id hv
  exact ⟨⟨unpRec bs, a, _, c, a2, _, c2⟩, rfl, rfl, ⟨hu, hv⟩, hb, f1, f2⟩
theorem AllAt.next {n₀ Bx : Nat} {bs : List (BitVec 8)} {m K : Nat} {w : World} {xs : List RX} {v v' : Value} {x : RX} {wr W W' : World} (hA : AllAt n₀ Bx bs m w xs v wr) (hb : Below wr.heap.size wr W) (hn : n₀ ≤ wr.heap.size) (hg : x.Good W) (hf1 : Fresh wr.heap.size x.u) (hf2 : Fresh wr.heap.size x.v)
    (hrec : recs (bs.drop m) = x.r :: recs (bs.drop (m + K))) (hK : 1 ≤ K) (hlen : m + K ≤ 1073741824)
    (hB : AllBody n₀ Bx (xs, v) x W W') (q1 : Boxed W' Bx 35 v') (q2 : W'.ownsRow n₀ 30 3 v' (xs ++ [x]).length (rows (xs ++ [x]))) (q5 : v'.ownBlock = v.ownBlock ∨ ∃ k, v'.ownBlock = some k ∧ W.heap.size ≤ k) : AllAt n₀ Bx bs (m + K) w (xs ++ [x]) v' W' := by
  have hA2 := hA.below hb hn
  obtain ⟨h1, h2, ⟨p1, p2, p3, p4⟩, h4, h5⟩ := hA
  have ho : x.Off Bx v := by
    have hbx := p1.lt
    refine ⟨fun _ k e => ⟨?_, fun e2 => ?_⟩, fun _ k e => ⟨?_, fun e2 => ?_⟩⟩
    · have := hf1 k e; omega
    · have := hf1 k e; have := (p2.lt k e2).2; omega
    · have := hf2 k e; omega
    · have := hf2 k e; have := (p2.lt k e2).2; omega
  refine ⟨?_, by rw [List.length_append, List.length_singleton]; omega, ⟨q1, q2, ?_, p4⟩, hA2.2.2.2.1.trans ?_, ?_⟩
  · rw [h1, hrec, List.map_append, List.append_assoc]; rfl
  · show (xs ++ [x]).length ≤ _
    rw [List.length_append, List.length_singleton]; omega
  · obtain ⟨_, _, _, h, _, _⟩ := hB; exact h
  · intro z hz
    rcases List.mem_append.1 hz with h | h
    · exact RX.step (s := (xs, v)) (hA2.2.2.2.2 z h).1 (hA2.2.2.2.2 z h).2 hB v' q5
    · rw [List.mem_singleton.1 h]
      exact RX.step (s := (xs, v)) hg ho hB v' q5

set_option maxRecDepth 100000 in
set_option maxHeartbeats 4000000 in
theorem recordsOf1_seen (l Bp Bx n₀ n₁ : Nat) (bs : List (BitVec 8)) (v0 : Value) (hlen : bs.length ≤ 1073741824) (Rdy : World → Prop) (W0 : World) (hn1 : n₁ ≤ n₀)
    (hBp : W0.heap[Bp]? = some (.cells #[v0] 23 (0, 0))) (hBpx : Bp ≠ Bx) (hv : BytesAt n₁ W0 v0 bs) (hn0 : n₀ ≤ W0.heap.size)
    (hRdy : ∀ W W', Rdy W → Below W.heap.size W W' → Rdy W') (h0 : Rdy W0) (hB0 : Boxed W0 Bx 35 (.slice none 0 0)) (hBx : n₀ ≤ Bx)
    (hY : ∀ s x W, Rdy W → W0.heap.size ≤ W.heap.size → AllPre n₀ Bx s W → YieldAt Fence.wide 1 Try.prog l #[.agg x.cells] W fun e W' => e = .returned (.bool true) ∧ Rdy W' ∧ AllBody n₀ Bx s x W W') :
    CallsIn Fence.wide 2 Try.prog 28 #[.func (.yield l) #[] #[], .pointer (some ⟨Bp, 0, none⟩)] W0 fun e W' => (∃ v, e = .returned v) ∧ Rdy W' ∧ AllS n₀ Bx bs W0 W' := by
  have HU := Lib.hid (fun v l W (h : BytesAt W.heap.size W v l) (hl : l.length ≤ 549755813888) => callsIn_wide (n := 1).2 (unpX_any v l W h hl))
  have t1 : Fence.wide.fn 6 := trivial
  have HV := Lib.hid hv
  have HN := Lib.hid (show n₁ ≤ n₀ ∧ n₀ ≤ W0.heap.size ∧ n₀ ≤ Bx ∧ Bp ≠ Bx ∧ bs.length ≤ 1073741824 from ⟨hn1, hn0, hBx, hBpx, hlen⟩)
  have HR := Lib.hid hRdy
  have HY := Lib.hid hY
  have HBP := Lib.hid hBp
  have HA0 : Hid (AllAt n₀ Bx bs 0 W0 [] (.slice none 0 0) W0) := ⟨by rw [List.drop_zero]; rfl, Nat.le_refl _, ⟨hB0, World.ownsRow_nil _ _ _ _, by simp, hBx⟩, Below.refl _ _, fun x hx => absurd hx (by simp)⟩
  have hl1 : (bs.length : Int) ≤ 1073741824 := by omega
  obtain ⟨a, cap, rfl, hcap, _⟩ := id hv
  have hc1 : (bs.length : Int) ≤ cap := by omega
  clear hv hn1 hn0 hBx hBpx hRdy hY hBp hB0 hlen
  refine callsIn_of_wp Try.func28 rfl trivial ?_ rfl
  simp only [Try.ntmps28, List.size_toArray, List.length_cons, List.length_nil, Nat.reduceAdd, Nat.reduceSub, Array.replicate_succ, Array.replicate_zero, List.push_toArray, List.append_toArray, List.nil_append, List.cons_append]
  gi_wp2
  refine wpIn_scope ?_
  gi_wp2
  refine wpIn_label ?_
  gi_wp2
  gi_loopw [3] (fun av wr => ∃ (m : Nat) (xs : List RX) (v : Value), av = .int .i64 m ∧ m ≤ bs.length ∧ AllAt n₀ Bx bs m W0 xs v wr ∧ Rdy wr ∧ wr.heap[Bp]? = some (.cells #[.slice a bs.length cap] 23 (0, 0)) ∧ W0.heap.size ≤ wr.heap.size) (fun av _ => bs.length - (intOf av).toNat)
  case atStart => exact ⟨0, [], _, rfl, Nat.zero_le _, HA0.out, h0, HBP.out, Nat.le_refl _⟩
  case round =>
    obtain ⟨m, xs, v, rfl, hm, hA, hR, hbp, hsz⟩ := hrel
    have cBp : wr.cell? ⟨Bp, 0, none⟩ = some (.slice a bs.length cap) := blk_cell hbp 0
    have HA := Lib.hid hA
    have HRW := Lib.hid hR
    have HBW := Lib.hid hbp
    have HSZ := Lib.hid hsz
    clear hA hR hbp hsz h0 HA0
    by_cases hlt : m < bs.length
    · have m1 : (m : Int) < bs.length := by omega
      have hvw := HV.out.below (HA.out.2.2.2.1.mono HN.out.1)
      have hne : bs ≠ [] := fun h => by rw [h] at hlt; simp at hlt
      obtain ⟨_, _, e1, _, _, hv2⟩ := id hvw
      cases e1
      obtain ⟨g, off, rfl, hg, hc⟩ := hv2.resolve_left hne
      have cb := hc m hlt
      have HVW := Lib.hid hvw
      clear hv2 hne hc hg hvw
      by_cases hb : bs[m]?.getD 0 = 0
      · have HA2 : Hid (AllAt n₀ Bx bs (m + 1) W0 xs v wr) := ⟨HA.out.1.trans (by rw [recs_drop_zero bs m hlt hb]), Nat.le_succ_of_le HA.out.2.1, HA.out.2.2⟩
        have hz : (U (bs[m]?.getD 0) == 0) = true := by rw [hb]; rfl
        generalize bs[m]?.getD 0 = y at cb hz
        clear hb
        gi_wp2
        go_roundw
        case rel => exact ⟨m + 1, xs, v, by go_num, by omega, HA2.out, HRW.out, HBW.out, HSZ.out⟩
        case measure => simp [intOf]; omega
      · have hz : (U (bs[m]?.getD 0) == 0) = false := by
          rw [beq_eq_false_iff_ne]
          exact fun h => hb (U_inj.1 (h.trans rfl))
        have hsuf := HVW.out.suf m hm
        rw [add_plain] at hsuf
        have HUW := Lib.hid (HU.out _ _ wr (hsuf.mono (Nat.le_trans HN.out.1 (Nat.le_trans HN.out.2.1 HSZ.out))) (by rw [List.length_drop]; have := HN.out.2.2.2.2; omega))
        have k1 : ¬ (cap = m) := by omega
        have hbad := recs_bad bs m hlt hb
        have hgd := recs_good bs m hlt hb
        generalize bs[m]?.getD 0 = y at cb hz
        clear hb hsuf
        by_cases hgood : recGood (bs.drop m)
        · have hp := recN_pos hgood
          have h1 : unpRec (bs.drop m) = recOf (bs.drop m) := by unfold unpRec; rw [if_pos hgood]
          have h2 : unpN (bs.drop m) = recN (bs.drop m) := by unfold unpN; rw [if_pos hgood]
          have h3 : unpErr (bs.drop m) = 0 := by unfold unpErr; rw [if_pos hgood]
          have h4 := hgd hgood
          rw [h1, h2, h3] at HUW
          obtain ⟨K, hK⟩ := Int.eq_ofNat_of_zero_le (show 0 ≤ recN (bs.drop m) by omega)
          rw [hK] at HUW hp h4
          rw [Int.toNat_natCast] at h4
          rw [List.length_drop] at hp
          generalize recOf (bs.drop m) = rr at HUW h4
          have HREC := Lib.hid h4
          have HK := Lib.hid (show 13 ≤ K ∧ m + K ≤ bs.length from by omega)
          have mk : (m : Int) + K ≤ 1073741824 := by omega
          clear hgood hp h1 h2 h3 h4 hK hgd hbad
          gi_wp2_with (gi_at_call 6; (with_reducible refine HUW.out.mono ?_); rintro e w1 ⟨x, rfl, rfl, hgx, hb1, hf1, hf2⟩; have HB2 := Lib.hid (hb1.alloc hb1.size (.cells #[.slice x.au x.nu x.cu, .slice x.av x.nv x.cv, .int .i64 x.r.fin] 30)); have HG2 := Lib.hid (show x.Good (w1.alloc (.cells #[.slice x.au x.nu x.cu, .slice x.av x.nv x.cv, .int .i64 x.r.fin] 30)) from ⟨(hgx.1.below ((Below.refl _ w1).alloc (Nat.le_refl _) _)).mono (by simp), (hgx.2.below ((Below.refl _ w1).alloc (Nat.le_refl _) _)).mono (by simp)⟩); have HF1 := Lib.hid hf1; have HF2 := Lib.hid hf2; obtain ⟨fn, tmps, assign, body, hy, hRR⟩ := HY.out (xs, v) x (w1.alloc (.cells #[.slice x.au x.nu x.cu, .slice x.av x.nv x.cv, .int .i64 x.r.fin] 30)) (HR.out _ _ HRW.out HB2.out) (Nat.le_trans HSZ.out HB2.out.size) (HA.out.below HB2.out (Nat.le_trans HN.out.2.1 HSZ.out)).2.2.1; have HRR := Lib.hid hRR; unfold RX.cells at hy; clear hgx hb1 hf1 hf2 hRR)
          refine HRR.out.mono ?_
          rintro e W3 ⟨rfl, hr3, hb3⟩
          obtain ⟨v', q1, q2, q3, q4, q5⟩ := id hb3
          have HA3 := Lib.hid (HA.out.next HB2.out (Nat.le_trans HN.out.2.1 HSZ.out) HG2.out HF1.out HF2.out HREC.out (by have := HK.out.1; omega) (by have := HK.out.2; have := HN.out.2.2.2.2; omega) hb3 q1 q2 q5)
          have HBP3 := Lib.hid (q4 Bp ⟨HN.out.2.2.2.1, own_ne (HA.out.below HB2.out (Nat.le_trans HN.out.2.1 HSZ.out)).2.2.1.2.1 ((HB2.out.block _ (blk_lt HBW.out)).trans HBW.out) (by decide)⟩ _ _ _ ((HB2.out.block _ (blk_lt HBW.out)).trans HBW.out))
          have HS3 := Lib.hid (Nat.le_trans HSZ.out (Nat.le_trans HB2.out.size q3.size))
          have HR3 := Lib.hid hr3
          have HKK := Lib.hid HK.out.2
          clear hr3 hb3 q1 q2 q3 q4 q5
          gi_wp2
          go_roundw
          case rel => exact ⟨m + K, xs ++ [x], v', by go_num, HKK.out, HA3.out, HR3.out, HBP3.out, HS3.out⟩
          case measure => have := HK.out; simp [intOf]; omega
        · have h1 : unpRec (bs.drop m) = RecP.zero := by unfold unpRec; rw [if_neg hgood]
          have h2 : unpN (bs.drop m) = 0 := by unfold unpN; rw [if_neg hgood]
          have h3 : unpErr (bs.drop m) = 5 := by unfold unpErr; rw [if_neg hgood]
          have h4 := hbad hgood
          rw [h1, h2, h3] at HUW
          have HE4 := Lib.hid h4
          have hrz : RecP.zero.fin = 0 := rfl
          clear hgood h1 h2 h3 h4 hgd hbad
          gi_wp2_with (gi_at_call 6; (with_reducible refine HUW.out.mono ?_); rintro e w1 ⟨x, _, rfl, _, hb1, _, _⟩; have HB1 := Lib.hid hb1; have HB2 := Lib.hid (hb1.alloc hb1.size (.cells #[.slice x.au x.nu x.cu, .slice x.av x.nv x.cv, .int .i64 0] 30)); clear hb1)
          refine ⟨fun _ h => (by cases h), ?_⟩
          gi_wp2
          rw [Exit.noGoto_ret]
          refine bodyPost_ret (results_none rfl _ _ _) rfl ?_
          exact ⟨⟨_, rfl⟩, HR.out _ _ HRW.out HB2.out, (HA.out.below HB2.out (Nat.le_trans HN.out.2.1 HSZ.out)).fin HE4.out⟩
    · obtain rfl : m = bs.length := by omega
      have HS := Lib.hid (HA.out.fin (recs_end bs))
      gi_wp2
      rw [Exit.noGoto_normal]
      go_end0
      exact ⟨⟨_, rfl⟩, HRW.out, HS.out⟩
end Go.Proofs.Ytdpjhcdkiddplaa

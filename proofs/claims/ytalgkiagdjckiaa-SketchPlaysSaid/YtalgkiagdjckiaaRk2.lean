/-
  sgraffitoref23: Unpack.
  Conditions: none.
-/
import Derived.Test.YtalgkiagdjckiaaRk1
import Derived.Deep.RegionHeld3
namespace Go.Proofs.Ytalgkiagdjckiaa
open Go.RowKit

theorem run_res (w : World) (g : Nat) (N age n : Int) (v : Value) (tmps : Array Value) (h2 : tmps.getD 2 undef = .pointer (some ⟨g, 0, none⟩)) (h3 : tmps.getD 3 undef = .int .i64 n) (hg : w.heap[g]? = some (.cells (rkC N age v) 30 (0, 0))) :
    (results Try.f24 tmps).run Try.prog w = .ok (.tuple #[.agg (rkC N age v), .int .i64 n]) w := by
  have h2' : tmps[2]?.getD undef = .pointer (some ⟨g, 0, none⟩) := by simpa using h2
  have h3' : tmps[3]?.getD undef = .int .i64 n := by simpa using h3
  simp [results, Try.results24, h2', h3', asAddr, run_loadVar_row w g 30 30 (rkC N age v) (0, 0) _ hg Try.underlying30 rfl (rkC_sz N age v)]
/-- What the document's Unpack answers: the width and the age, an error. -/
def RUnRet (bs : List (BitVec 8)) (w : World) (e : Ending) (w' : World) : Prop :=
  (UnOk bs ∧ (∃ a n c, e = .returned (.tuple #[.agg (rkC (unW bs) (unA bs) (.slice a n c)), .int .i64 0])) ∧ Below w.heap.size w w') ∨
  (¬ UnOk bs ∧ e = .returned (.tuple #[.agg (rkC 0 0 (.slice none 0 0)), .int .i64 5]) ∧ Below w.heap.size w w')
theorem refOf_small {bs : List (BitVec 8)} (h : bs.length ≤ 4) : U (refOf bs) = ((leNat bs : Nat) : Int) := by
  unfold U
  rw [refOf_toNat]
  have := leNat_lt' h
  congr 1
  omega
theorem wide_right {N : Nat} (h : WideOk N) (w : World) : Calls Try.prog 9 #[.int .i64 (N : Int)] w fun e w' => e = .returned (.bool true) ∧ w = w' := by
  obtain ⟨k, h1, h2, rfl⟩ := h
  exact right_yes k h1 h2 w
theorem wide_wrong {N : Nat} (h : ¬ WideOk N) (w : World) : Calls Try.prog 9 #[.int .i64 (N : Int)] w fun e w' => e = .returned (.bool false) ∧ w = w' :=
  right_no (fun m h1 h2 e => h ⟨m, h1, h2, by exact_mod_cast e.symm⟩) w
theorem below_dN {n : Nat} {a b : World} (h : Below n a b) (k : Nat) : Below n a (b.drewN k) := ⟨h.os, h.tape, h.output, h.size, h.block⟩
/-- What a round of the document's Unpack keeps. -/
structure RkIn (w : World) (g2 S6 N A T : Nat) (W : World) : Prop where
  row : ∃ cs : Array Value, W.heap[g2]? = some (.cells cs 3 (0, 0)) ∧ cs.size = T
  sk : W.heap[S6]? = some (.cells (rkC N A (.slice (some ⟨g2, 0, none⟩) T T)) 30 (0, 0))
  res : W.heap[w.heap.size]? = some (.cells (rkC 0 0 (.slice none 0 0)) 30 (0, 0))
  below : Below w.heap.size w W
theorem rk_byte {n₀ : Nat} {w : World} {g off n c : Nat} {bs : List (BitVec 8)} (h : BytesAt n₀ w (.slice (some ⟨g, off, none⟩) n c) bs) {j : Nat} (hj : j < n) : ∃ x : BitVec 8, g < n₀ ∧ w.cell? ⟨g, off + j, none⟩ = some (.int .u8 (U x)) := by
  obtain ⟨a', c', e, hl, _, h9⟩ := h
  cases e
  rcases h9 with h9 | ⟨g', o', e', hg, hc⟩
  · subst h9; simp at hj
  · cases e'
    exact ⟨_, hg, hc j hj⟩
theorem wrap_small {m : Int} (h0 : 0 ≤ m) (h1 : m ≤ 255) : IntKind.i64.wrap m = m ∧ wrap64 m = m := ⟨by rw [IntKind.wrap_i64]; omega, IntWalk.wrap64_in _ ⟨by omega, by omega⟩⟩
theorem rk_measure {N i : Nat} (h : i + 1 ≤ 2 * N) : 2 * N - (intOf (.int .i64 ((i : Int) + 1))).toNat < 2 * N - (intOf (.int .i64 (i : Int))).toNat := by
  simp only [intOf]; omega
theorem rk_other {w : World} {g j k i : Nat} {u v : Value} (h : k ≠ g) (hc : w.cell? ⟨k, i, none⟩ = some v) : (w.setCell ⟨g, j, none⟩ u).cell? ⟨k, i, none⟩ = some v :=
  (World.cell?_of_block (w := w) (a := ⟨k, i, none⟩) (Below.heap_setCell w ⟨g, j, none⟩ u k h)).trans hc
theorem RkIn.put {w W : World} {g2 S6 N A T j : Nat} {u : Value} (h : RkIn w g2 S6 N A T W) (h1 : g2 ≠ S6) (h2 : g2 ≠ w.heap.size) (h3 : w.heap.size ≤ g2) : RkIn w g2 S6 N A T (W.setCell ⟨g2, j, none⟩ u) := by
  obtain ⟨⟨cs, hg, hs⟩, hk, hr, hb⟩ := h
  exact ⟨⟨_, blk_set hg _ _, by simp [hs]⟩, (Below.heap_setCell _ _ _ _ (fun e => h1 e.symm)).trans hk, (Below.heap_setCell _ _ _ _ (fun e => h2 e.symm)).trans hr, hb.setCell (p := ⟨g2, j, none⟩) h3 _⟩
theorem RkIn.drew {w W : World} {g2 S6 N A T : Nat} (h : RkIn w g2 S6 N A T W) : RkIn w g2 S6 N A T W.drew := ⟨h.row, h.sk, h.res, h.below.drew⟩
theorem rk_facts {i N n T : Nat} (h : i < 2 * N) (hn : n = 6 + 2 * N) (hN : N ≤ 4096) (hT : 4 * N = T) :
    (IntKind.i64.wrap (2 * (i : Int)) = 2 * (i : Int) ∧ wrap64 (2 * (i : Int)) = 2 * (i : Int) ∧ (2 * (i : Int)).toNat = 2 * i ∧ (0 : Int) ≤ 2 * (i : Int) ∧ 2 * (i : Int) < (T : Int)) ∧
    (IntKind.i64.wrap (2 * (i : Int) + 1) = 2 * (i : Int) + 1 ∧ wrap64 (2 * (i : Int) + 1) = 2 * (i : Int) + 1 ∧ (2 * (i : Int) + 1).toNat = 2 * i + 1 ∧ (0 : Int) ≤ 2 * (i : Int) + 1 ∧ 2 * (i : Int) + 1 < (T : Int)) ∧
    (IntKind.i64.wrap (6 + (i : Int)) = 6 + (i : Int) ∧ wrap64 (6 + (i : Int)) = 6 + (i : Int) ∧ (6 + (i : Int)).toNat = 6 + i ∧ (0 : Int) ≤ 6 + (i : Int) ∧ 6 + (i : Int) < (n : Int)) := by
  have a1 : wrap64 (2 * (i : Int)) = 2 * (i : Int) := IntWalk.wrap64_in _ ⟨by omega, by omega⟩
  have a2 : wrap64 (2 * (i : Int) + 1) = 2 * (i : Int) + 1 := IntWalk.wrap64_in _ ⟨by omega, by omega⟩
  have a3 : wrap64 (6 + (i : Int)) = 6 + (i : Int) := IntWalk.wrap64_in _ ⟨by omega, by omega⟩
  exact ⟨⟨by rw [IntKind.wrap_i64]; omega, a1, by omega, by omega, by omega⟩, ⟨by rw [IntKind.wrap_i64]; omega, a2, by omega, by omega, by omega⟩, ⟨by rw [IntKind.wrap_i64]; omega, a3, by omega, by omega, by omega⟩⟩
section
attribute [-go_sem] Instr.build Instr.fill
attribute [local go_sem] build_rk build_rk0
set_option maxRecDepth 100000 in
set_option maxHeartbeats 4000000 in
theorem refUn_any {w : World} {n₀ : Nat} {v : Value} {bs : List (BitVec 8)} (hv : BytesAt n₀ w v bs) (hn₀ : n₀ ≤ w.heap.size) (hlen : bs.length ≤ 100000) :
    Calls Try.prog 24 #[v] w (RUnRet bs w) := by
  obtain ⟨a, c, rfl, hlc, _⟩ := id hv
  obtain ⟨w1, hw1⟩ : ∃ w1, w.alloc (.cells (rkC 0 0 (.slice none 0 0)) 30) = w1 := ⟨_, rfl⟩
  have hz1 : w1.heap.size = w.heap.size + 1 := by rw [← hw1]; simp
  have hb1 : Below w.heap.size w w1 := by rw [← hw1]; exact (Below.refl _ w).alloc (Nat.le_refl _) _
  have hk1 : w1.heap[w.heap.size]? = some (.cells (rkC 0 0 (.slice none 0 0)) 30 (0, 0)) := by rw [← hw1]; exact heap_alloc_new _ _
  have HW1 := Lib.hid hw1
  have HB1 := Lib.hid hb1
  have HZ1 := Lib.hid hz1
  have HK1 := Lib.hid hk1
  have HN0 := Lib.hid hn₀
  obtain ⟨n, hn⟩ : ∃ n, bs.length = n := ⟨_, rfl⟩
  rw [hn] at hv hlc hlen ⊢
  have HLN := Lib.hid hn
  have HLE := Lib.hid hlen
  clear hw1 hb1 hz1 hk1
  by_cases h6 : n < 6
  · have HN : Hid (¬ UnOk bs) := fun h => absurd h.1 (by have := HLN.out; omega)
    have l1 : (n : Int) < 6 := by omega
    clear hv hn hlc
    go_enter Try.func24, Try.ntmps24
    go_upto_region 1 with fail
    change Code.wp _ _ _ _ (w.alloc (.cells (rkC 0 0 (.slice none 0 0)) 30))
    rw [HW1.out]
    go_wp2_with (refine wpList_store_row (o := ⟨none, _, _, _, _, _⟩) rfl 30 (.tmp 2) (.tmp 11) rfl w.heap.size (rkC 0 0 (.slice none 0 0)) rfl rfl 30 (rkC 0 0 (.slice none 0 0)) HK1.out (rkC_sz _ _ _) rfl ?_ ?_; exact rkC_one _ _ _ _ _)
    exact bodyPost_ret (run_res _ w.heap.size 0 0 5 _ _ rfl rfl (setRow_heap1 _ _ _ _ _ _ HK1.out)) rfl (.inr ⟨HN.out, rfl, below_setRow1 HB1.out (Nat.le_refl _) _⟩)
  · obtain ⟨g, off, rfl, hnl, hnc, hv2, hv4, hv6⟩ := un_parts hv (by omega)
    have l1 : (6 : Int) ≤ n := by omega
    have l2 : ¬ ((n : Int) < 6) := by omega
    have c1 : (2 : Int) ≤ c := by omega
    have c2 : (6 : Int) ≤ c := by omega
    have c3 : ¬ (c = 2) := by omega
    have c4 : (n : Int) ≤ c := by omega
    have HO1 := Lib.hid (fun m => refOf_any n₀ _ _ (w1.drewN m) ((hv2.below (HB1.out.mono hn₀)).drewN m) (by rw [List.length_take]; omega))
    have HO2 := Lib.hid (fun m => refOf_any n₀ _ _ (w1.drewN m) ((hv4.below (HB1.out.mono hn₀)).drewN m) (by rw [List.length_take]; omega))
    rw [refOf_small (by rw [List.length_take]; omega)] at HO1 HO2
    have hw2 : unW bs < 256 ^ 2 := leNat_lt' (by rw [List.length_take]; omega)
    have ha4 : unA bs < 256 ^ 4 := leNat_lt' (by rw [List.length_take]; omega)
    have HV := Lib.hid hv
    change Hid (∀ m, Calls _ _ _ _ fun e w' => e = .returned (.int .u64 ((unW bs : Nat) : Int)) ∧ _ = w') at HO1
    change Hid (∀ m, Calls _ _ _ _ fun e w' => e = .returned (.int .u64 ((unA bs : Nat) : Int)) ∧ _ = w') at HO2
    clear hn₀ hv hv2 hv4 hv6 hnl
    obtain ⟨N, hN⟩ : ∃ N, unW bs = N := ⟨_, rfl⟩
    obtain ⟨A, hA⟩ : ∃ A, unA bs = A := ⟨_, rfl⟩
    have w9 : ((unW bs : Nat) : Int) ≤ 65535 := by omega
    have a9 : ((unA bs : Nat) : Int) ≤ 4294967295 := by omega
    have b9 : (n : Int) ≤ 100000 := by omega
    have e0 : wrap64 ((unW bs : Nat) : Int) = ((unW bs : Nat) : Int) := IntWalk.wrap64_in _ ⟨by omega, by omega⟩
    have e1 : wrap64 ((unA bs : Nat) : Int) = ((unA bs : Nat) : Int) := IntWalk.wrap64_in _ ⟨by omega, by omega⟩
    have e2 : wrap64 (10 * ((unW bs : Nat) : Int)) = 10 * ((unW bs : Nat) : Int) := IntWalk.wrap64_in _ ⟨by omega, by omega⟩
    have e3 : wrap64 (2 * ((unW bs : Nat) : Int)) = 2 * ((unW bs : Nat) : Int) := IntWalk.wrap64_in _ ⟨by omega, by omega⟩
    have e4 : wrap64 (6 + 2 * ((unW bs : Nat) : Int)) = 6 + 2 * ((unW bs : Nat) : Int) := IntWalk.wrap64_in _ ⟨by omega, by omega⟩
    by_cases hwd : WideOk (unW bs)
    · have HR := Lib.hid (fun V => wide_right hwd V)
      have HWD := Lib.hid hwd
      by_cases hag : unA bs < 10 * unW bs
      · have y1 : ¬ (10 * ((unW bs : Nat) : Int) ≤ ((unA bs : Nat) : Int)) := by omega
        by_cases hfl : n = 6 + 2 * unW bs
        · have HY : Hid (UnOk bs) := ⟨by omega, hwd, hag, by omega⟩
          have y2 : ((n : Int) == 6 + 2 * ((unW bs : Nat) : Int)) = true := beq_iff_eq.2 (by omega)
          have y3 : ((n : Int) != 6 + 2 * ((unW bs : Nat) : Int)) = false := by simp; omega
          have HFL := Lib.hid hfl
          unfold RUnRet
          have HNEW := Lib.hid (fun V => rnew_any (N := unW bs) hwd.le.2 V)
          have HLW := Lib.hid hwd.le
          rw [hN] at HO1 HR w9 e0 e2 e3 e4 y1 y2 y3 HFL HNEW HLW hag ⊢
          rw [hA] at HO2 a9 e1 y1 hag ⊢
          have c6 : ¬ (c = 6) := by have := HFL.out; have := HLW.out; omega
          obtain ⟨T, hT⟩ : ∃ T, 4 * N = T := ⟨_, rfl⟩
          rw [hT] at HNEW
          have HT := Lib.hid hT
          clear hwd hfl hw2 ha4 hn hN hA HWD hag hT
          go_enter Try.func24, Try.ntmps24
          go_upto_region 1 with fail
          change Code.wp _ _ _ _ (w.alloc (.cells (rkC 0 0 (.slice none 0 0)) 30))
          rw [HW1.out]
          go_wp2
          go_quiet ((first | (go_at_call 33; with_reducible exact Calls.quiet_of_same ((HO1.out _).mono fun _ _ h => ⟨h.1, h.2.symm⟩)) | (go_at_call 33; with_reducible exact Calls.quiet_of_same ((HO2.out _).mono fun _ _ h => ⟨h.1, h.2.symm⟩))))
          have HBQ := Lib.hid (show Below w.heap.size w (w1.drewN nq) from below_dN HB1.out nq)
          have HKQ := Lib.hid (show (w1.drewN nq).heap[w.heap.size]? = some (.cells (rkC 0 0 (.slice none 0 0)) 30 (0, 0)) from HK1.out)
          have HZQ := Lib.hid (show (w1.drewN nq).heap.size = w.heap.size + 1 from HZ1.out)
          obtain ⟨wq, hwq⟩ : ∃ wq, w1.drewN nq = wq := ⟨_, rfl⟩
          rw [hwq] at HBQ HKQ HZQ ⊢
          clear hwq HO1 HO2
          go_upto_region 6 with (first
            | (go_at_call 9; (with_reducible refine (HR.out _).mono ?_); rintro e w' ⟨rfl, rfl⟩))
          go_upto_region 7 with (first
            | (go_at_call 12; (with_reducible refine (HNEW.out _).mono ?_); rintro e w2 ⟨g2, rfl, hg2, hge, hb2⟩; have HG2 := Lib.hid hg2; have HGE := Lib.hid hge; have HB2 := Lib.hid (HBQ.out.trans (hb2.mono (HBQ.out.size))); have HKR := Lib.hid ((hb2.block _ (by have := HZQ.out; omega)).trans HKQ.out); have HK6 := Lib.hid (heap_alloc_new w2 (.cells (rkC 0 0 (.slice none 0 0)) 30)); clear hg2 hge hb2)
            | (refine wpList_store_row (o := ⟨none, _, _, _, _, _⟩) rfl 30 (.tmp 6) (.tmp 39) rfl w2.heap.size (rkC N 0 (.slice (some ⟨g2, 0, none⟩) T T)) rfl rfl 30 (rkC 0 0 (.slice none 0 0)) HK6.out (rkC_sz _ _ _) rfl ?_ ?_; exact rkC_one _ _ _ _ _))
          have HE3 := Lib.hid e3
          clear e0 e1 e2 e3 e4 y1 y2 y3 w9 a9 b9
          obtain ⟨w3, hw3⟩ : ∃ w3, (w2.alloc (.cells (rkC 0 0 (.slice none 0 0)) 30)).setRow w2.heap.size (rkC N 0 (.slice (some ⟨g2, 0, none⟩) T T)) = w3 := ⟨_, rfl⟩
          have hk3 : w3.heap[w2.heap.size]? = some (.cells (rkC N 0 (.slice (some ⟨g2, 0, none⟩) T T)) 30 (0, 0)) := by rw [← hw3]; exact setRow_heap1 _ _ _ _ _ _ HK6.out
          have hlt2 := blk_lt HG2.out
          have hltr := blk_lt HKR.out
          have hg3 : w3.heap[g2]? = some (.cells (ints (List.replicate T 0)).toArray 3 (0, 0)) := by rw [← hw3, setRow_other1 _ _ _ _ (by omega)]; exact blk_alloc HG2.out _
          have hr3 : w3.heap[w.heap.size]? = some (.cells (rkC 0 0 (.slice none 0 0)) 30 (0, 0)) := by rw [← hw3, setRow_other1 _ _ _ _ (by omega)]; exact blk_alloc HKR.out _
          have hb3 : Below w.heap.size w w3 := by rw [← hw3]; exact below_setRow1 (HB2.out.alloc HB2.out.size _) HB2.out.size _
          have hsl : w.heap.size < w2.heap.size := hltr
          change Code.wp _ _ _ _ ((w2.alloc (.cells (rkC 0 0 (.slice none 0 0)) 30)).setRow w2.heap.size (rkC N 0 (.slice (some ⟨g2, 0, none⟩) T T)))
          rw [hw3]
          obtain ⟨S6, hS6⟩ : ∃ S6, w2.heap.size = S6 := ⟨_, rfl⟩
          rw [hS6] at hk3 hsl ⊢
          have hne : g2 ≠ S6 := blk_ne hg3 hk3 (by decide)
          have HNE := Lib.hid (And.intro hne hsl)
          have HGE2 : Hid (w.heap.size ≤ g2) := by have := HGE.out; have := HZQ.out; unfold Hid; omega
          have hne2 : g2 ≠ w.heap.size := blk_ne hg3 hr3 (by decide)
          have HNE2 := Lib.hid hne2
          have HG3 := Lib.hid hg3
          have HR3 := Lib.hid hr3
          have HB3 := Lib.hid hb3
          have q1 : w3.cell? ⟨S6, 1, none⟩ = some (.int .i64 0) := blk_cell hk3 1
          have q2 : w3.frozen? ⟨S6, 1, none⟩ = false := blk_frozen hk3 1
          have HK4 := Lib.hid (blk_set hk3 1 (.int .i64 (A : Int)))
          clear hw3 hk3 hlt2 hltr hg3 hr3 hb3 hsl hS6 hne hne2 HG2 HGE HB2 HKR HK6 HBQ HKQ HZQ HNEW HR
          go_wp2
          have HR0 : Hid (RkIn w g2 S6 N A T (w3.setCell ⟨S6, 1, none⟩ (.int .i64 (A : Int)))) := by
            have h9 := HNE.out
            exact ⟨⟨_, (Below.heap_setCell _ _ _ _ h9.1).trans HG3.out, by simp [ints]⟩, HK4.out, (Below.heap_setCell _ _ _ _ (by show w.heap.size ≠ S6; omega)).trans HR3.out, HB3.out.setCell (p := ⟨S6, 1, none⟩) (Nat.le_of_lt h9.2) _⟩
          obtain ⟨w4, hw4⟩ : ∃ w4, w3.setCell ⟨S6, 1, none⟩ (.int .i64 (A : Int)) = w4 := ⟨_, rfl⟩
          rw [hw4] at HR0 ⊢
          clear hw4 q1 q2 HK4
          have e3 := HE3.out
          go_loopw [7] (fun v W => ∃ i : Nat, i ≤ 2 * N ∧ v = .int .i64 (i : Int) ∧ RkIn w g2 S6 N A T W) (fun v _ => 2 * N - (intOf v).toNat)
          case atStart => exact ⟨0, Nat.zero_le _, rfl, HR0.out⟩
          case round =>
            obtain ⟨i, hi, rfl, hrk⟩ := hrel
            have HRK := Lib.hid hrk
            clear e3
            by_cases hlt : i < 2 * N
            · have hx := (HV.out.below (hrk.below.mono HN0.out))
              obtain ⟨x, hgl, q1⟩ := rk_byte hx (j := 6 + i) (by have := HFL.out; omega)
              obtain ⟨⟨cs, hg, hsz⟩, hk, hr, hb⟩ := hrk
              have q2 : wr.drew.cell? ⟨S6, 2, none⟩ = some (.slice (some ⟨g2, 0, none⟩) T T) := blk_cell hk 2
              have q3 : wr.drew.cell? ⟨g, off + (6 + i), none⟩ = some (.int .u8 (U x)) := q1
              obtain ⟨v1, q4⟩ : ∃ v1, wr.drew.cell? ⟨g2, 2 * i, none⟩ = some v1 := ⟨cs[2 * i]'(by have := HT.out; omega), by rw [blk_cell (show wr.drew.heap[g2]? = _ from hg)]; simp [show 2 * i < cs.size by have := HT.out; omega]⟩
              have q5 : wr.drew.frozen? ⟨g2, 2 * i, none⟩ = false := blk_frozen (show wr.drew.heap[g2]? = _ from hg) _
              have i2 : (i : Int) < 2 * (N : Int) := by omega
              have i3 : (i : Int) ≤ 8191 := by have := HLW.out; omega
              have x0 := U_nonneg x
              have x1 : U x ≤ 255 := by have := U_lt x; omega
              have fw : IntKind.i64.wrap (U x) = U x := (wrap_small x0 x1).1
              have fw2 : wrap64 (U x) = U x := (wrap_small x0 x1).2
              obtain ⟨m1, fx⟩ : ∃ m1 : Int, (U x).tmod 16 = m1 := ⟨_, rfl⟩
              obtain ⟨m2, fy⟩ : ∃ m2 : Int, (U x).tdiv 16 = m2 := ⟨_, rfl⟩
              have fx1 : U x % 16 = m1 := by rw [← fx, Int.tmod_eq_emod_of_nonneg x0]
              have fy1 : U x / 16 = m2 := by rw [← fy, Int.tdiv_eq_ediv_of_nonneg x0]
              have fq : IntKind.i64.wrap m2 = m2 := by rw [← fy1]; exact (wrap_small (Int.ediv_nonneg x0 (by decide)) (Int.le_trans (Int.ediv_le_self 16 x0) x1)).1
              have hgS : (fun k => k = g2) g → False := fun e => by have h9 := HGE2.out; have h8 := hgl; have h7 := HN0.out; have h6 : g = g2 := e; omega
              have HS0 := Lib.hid (And.intro q2 q3)
              have HS1 : Hid ((wr.setCell ⟨g2, 2 * i, none⟩ (.int .i64 m1)).drew.cell? ⟨S6, 2, none⟩ = some (.slice (some ⟨g2, 0, none⟩) T T) ∧ (wr.setCell ⟨g2, 2 * i, none⟩ (.int .i64 m1)).drew.cell? ⟨g, off + (6 + i), none⟩ = some (.int .u8 (U x))) := ⟨rk_other (fun e => HNE.out.1 e.symm) q2, rk_other (fun e => hgS e) q3⟩
              have HS2 : Hid (((wr.setCell ⟨g2, 2 * i, none⟩ (.int .i64 m1)).setCell ⟨g2, 2 * i + 1, none⟩ (.int .i64 m2)).drew.cell? ⟨S6, 2, none⟩ = some (.slice (some ⟨g2, 0, none⟩) T T) ∧ ((wr.setCell ⟨g2, 2 * i, none⟩ (.int .i64 m1)).setCell ⟨g2, 2 * i + 1, none⟩ (.int .i64 m2)).drew.cell? ⟨g, off + (6 + i), none⟩ = some (.int .u8 (U x))) := ⟨rk_other (fun e => HNE.out.1 e.symm) (rk_other (fun e => HNE.out.1 e.symm) q2), rk_other (fun e => hgS e) (rk_other (fun e => hgS e) q3)⟩
              obtain ⟨v2, q6⟩ : ∃ v2, (wr.setCell ⟨g2, 2 * i, none⟩ (.int .i64 m1)).drew.cell? ⟨g2, 2 * i + 1, none⟩ = some v2 := ⟨cs[2 * i + 1]'(by have := HT.out; omega), by rw [blk_cell (show (wr.setCell ⟨g2, 2 * i, none⟩ (.int .i64 m1)).drew.heap[g2]? = _ from blk_set hg _ _)]; rw [Array.getElem?_setIfInBounds_ne (by omega)]; simp [show 2 * i + 1 < cs.size by have := HT.out; omega]⟩
              have q7 : (wr.setCell ⟨g2, 2 * i, none⟩ (.int .i64 m1)).drew.frozen? ⟨g2, 2 * i + 1, none⟩ = false := blk_frozen (show (wr.setCell ⟨g2, 2 * i, none⟩ (.int .i64 m1)).drew.heap[g2]? = _ from blk_set hg _ _) _
              have HRF : Hid (RkIn w g2 S6 N A T ((wr.setCell ⟨g2, 2 * i, none⟩ (.int .i64 m1)).setCell ⟨g2, 2 * i + 1, none⟩ (.int .i64 m2)).drew) := ((HRK.out.put HNE.out.1 HNE2.out HGE2.out).put HNE.out.1 HNE2.out HGE2.out).drew
              have HLI := Lib.hid (show i + 1 ≤ 2 * N by omega)
              clear hx hg hsz hk hr hb hi hgS hgl
              obtain ⟨⟨f1, f2, f3, f4, f5⟩, ⟨g1', g2', g3', g4', g5'⟩, h1', h2', h3', h4', h5'⟩ := rk_facts hlt HFL.out HLW.out.2 HT.out
              have e3 := HE3.out
              go_wp2
              go_region_held3 (fun (W : World) => W.cell? ⟨S6, 2, none⟩ = some (.slice (some ⟨g2, 0, none⟩) T T) ∧ W.cell? ⟨g, off + (6 + i), none⟩ = some (.int .u8 (U x)))
                (first | exact HS0.out | exact HS1.out | exact HS2.out)
                (fail)
              all_goals
                clear q2 q3 q4 q5 q6 q7 f1 f2 f3 f4 f5 g1' g2' g3' g4' g5' h1' h2' h3' h4' h5'
                have HF := Lib.hid HRF.out
                go_wp2
                go_roundw
                case rel => exact ⟨i + 1, HLI.out, by go_num, HF.out⟩
                case measure => exact rk_measure HLI.out
            · obtain rfl : i = 2 * N := by omega
              have p1 : ((2 * N : Nat) : Int) = 2 * (N : Int) := by omega
              rw [p1]
              have e3 := HE3.out
              have HKS := Lib.hid hrk.sk
              have HKR2 := Lib.hid hrk.res
              have HBB := Lib.hid hrk.below
              have d0 : wr.cell? ⟨S6, 0, none⟩ = some (.int .i64 (N : Int)) := blk_cell hrk.sk 0
              have d1 : wr.cell? ⟨S6, 1, none⟩ = some (.int .i64 (A : Int)) := blk_cell hrk.sk 1
              have d2 : wr.cell? ⟨S6, 2, none⟩ = some (.slice (some ⟨g2, 0, none⟩) T T) := blk_cell hrk.sk 2
              clear hrk hi hlt
              go_wp2_with (refine wpList_store_row (o := ⟨none, _, _, _, _, _⟩) rfl 30 (.tmp 2) (.tmp 73) rfl w.heap.size (rkC N A (.slice (some ⟨g2, 0, none⟩) T T)) rfl rfl 30 (rkC 0 0 (.slice none 0 0)) HKR2.out (rkC_sz _ _ _) rfl ?_ ?_; exact rkC_one _ _ _ _ _)
              exact bodyPost_ret (run_res _ w.heap.size N A 0 _ _ rfl rfl (setRow_heap1 _ _ _ _ _ _ HKR2.out)) rfl (.inl ⟨HY.out, ⟨_, _, _, rfl⟩, below_setRow1 HBB.out (Nat.le_refl _) _⟩)
        · have HN : Hid (¬ UnOk bs) := fun h => hfl (by have := h.2.2.2; omega)
          have y2 : ((n : Int) == 6 + 2 * ((unW bs : Nat) : Int)) = false := beq_eq_false_iff_ne.2 (by omega)
          have y3 : ((n : Int) != 6 + 2 * ((unW bs : Nat) : Int)) = true := by simp; omega
          rw [hN] at HO1 HR w9 e0 e2 e3 e4 y1 y2 y3
          rw [hA] at HO2 a9 e1 y1
          clear hwd hfl hw2 ha4 hn hN hA HWD hag
          go_enter Try.func24, Try.ntmps24
          go_upto_region 1 with fail
          change Code.wp _ _ _ _ (w.alloc (.cells (rkC 0 0 (.slice none 0 0)) 30))
          rw [HW1.out]
          go_wp2
          go_quiet ((first | (go_at_call 33; with_reducible exact Calls.quiet_of_same ((HO1.out _).mono fun _ _ h => ⟨h.1, h.2.symm⟩)) | (go_at_call 33; with_reducible exact Calls.quiet_of_same ((HO2.out _).mono fun _ _ h => ⟨h.1, h.2.symm⟩))))
          have HBQ := Lib.hid (show Below w.heap.size w (w1.drewN nq) from below_dN HB1.out nq)
          have HKQ := Lib.hid (show (w1.drewN nq).heap[w.heap.size]? = some (.cells (rkC 0 0 (.slice none 0 0)) 30 (0, 0)) from HK1.out)
          have HZQ := Lib.hid (show (w1.drewN nq).heap.size = w.heap.size + 1 from HZ1.out)
          obtain ⟨wq, hwq⟩ : ∃ wq, w1.drewN nq = wq := ⟨_, rfl⟩
          rw [hwq] at HBQ HKQ HZQ ⊢
          clear hwq HO1 HO2
          go_wp2_with (first
            | (go_at_call 9; (with_reducible refine (HR.out _).mono ?_); rintro e w' ⟨rfl, rfl⟩)
            | (refine wpList_store_row (o := ⟨none, _, _, _, _, _⟩) rfl 30 (.tmp 2) (.tmp 37) rfl w.heap.size (rkC 0 0 (.slice none 0 0)) rfl rfl 30 (rkC 0 0 (.slice none 0 0)) HKQ.out (rkC_sz _ _ _) rfl ?_ ?_; exact rkC_one _ _ _ _ _))
          exact bodyPost_ret (run_res _ w.heap.size 0 0 5 _ _ rfl rfl (setRow_heap1 _ _ _ _ _ _ HKQ.out)) rfl (.inr ⟨HN.out, rfl, below_setRow1 HBQ.out (Nat.le_refl _) _⟩)
      · have y1 : (10 * ((unW bs : Nat) : Int) ≤ ((unA bs : Nat) : Int)) := by omega
        have HN : Hid (¬ UnOk bs) := fun h => hag h.2.2.1
        rw [hN] at HO1 HR w9 e0 e2 e3 e4 y1
        rw [hA] at HO2 a9 e1 y1
        clear hwd hw2 ha4 hn hN hA HWD hag
        go_enter Try.func24, Try.ntmps24
        go_upto_region 1 with fail
        change Code.wp _ _ _ _ (w.alloc (.cells (rkC 0 0 (.slice none 0 0)) 30))
        rw [HW1.out]
        go_wp2
        go_quiet ((first | (go_at_call 33; with_reducible exact Calls.quiet_of_same ((HO1.out _).mono fun _ _ h => ⟨h.1, h.2.symm⟩)) | (go_at_call 33; with_reducible exact Calls.quiet_of_same ((HO2.out _).mono fun _ _ h => ⟨h.1, h.2.symm⟩))))
        have HBQ := Lib.hid (show Below w.heap.size w (w1.drewN nq) from below_dN HB1.out nq)
        have HKQ := Lib.hid (show (w1.drewN nq).heap[w.heap.size]? = some (.cells (rkC 0 0 (.slice none 0 0)) 30 (0, 0)) from HK1.out)
        have HZQ := Lib.hid (show (w1.drewN nq).heap.size = w.heap.size + 1 from HZ1.out)
        obtain ⟨wq, hwq⟩ : ∃ wq, w1.drewN nq = wq := ⟨_, rfl⟩
        rw [hwq] at HBQ HKQ HZQ ⊢
        clear hwq HO1 HO2
        go_wp2_with (first
          | (go_at_call 9; (with_reducible refine (HR.out _).mono ?_); rintro e w' ⟨rfl, rfl⟩)
          | (refine wpList_store_row (o := ⟨none, _, _, _, _, _⟩) rfl 30 (.tmp 2) (.tmp 37) rfl w.heap.size (rkC 0 0 (.slice none 0 0)) rfl rfl 30 (rkC 0 0 (.slice none 0 0)) HKQ.out (rkC_sz _ _ _) rfl ?_ ?_; exact rkC_one _ _ _ _ _))
        exact bodyPost_ret (run_res _ w.heap.size 0 0 5 _ _ rfl rfl (setRow_heap1 _ _ _ _ _ _ HKQ.out)) rfl (.inr ⟨HN.out, rfl, below_setRow1 HBQ.out (Nat.le_refl _) _⟩)
    · have HR := Lib.hid (fun V => wide_wrong hwd V)
      have HN : Hid (¬ UnOk bs) := fun h => hwd h.2.1
      rw [hN] at HO1 HR w9 e0 e2 e3 e4
      rw [hA] at HO2 a9 e1
      clear hwd hw2 ha4 hn hN hA
      go_enter Try.func24, Try.ntmps24
      go_upto_region 1 with fail
      change Code.wp _ _ _ _ (w.alloc (.cells (rkC 0 0 (.slice none 0 0)) 30))
      rw [HW1.out]
      go_wp2
      go_quiet ((first | (go_at_call 33; with_reducible exact Calls.quiet_of_same ((HO1.out _).mono fun _ _ h => ⟨h.1, h.2.symm⟩)) | (go_at_call 33; with_reducible exact Calls.quiet_of_same ((HO2.out _).mono fun _ _ h => ⟨h.1, h.2.symm⟩))))
      have HBQ := Lib.hid (show Below w.heap.size w (w1.drewN nq) from below_dN HB1.out nq)
      have HKQ := Lib.hid (show (w1.drewN nq).heap[w.heap.size]? = some (.cells (rkC 0 0 (.slice none 0 0)) 30 (0, 0)) from HK1.out)
      have HZQ := Lib.hid (show (w1.drewN nq).heap.size = w.heap.size + 1 from HZ1.out)
      obtain ⟨wq, hwq⟩ : ∃ wq, w1.drewN nq = wq := ⟨_, rfl⟩
      rw [hwq] at HBQ HKQ HZQ ⊢
      clear hwq HO1 HO2
      go_wp2_with (first
        | (go_at_call 9; (with_reducible refine (HR.out _).mono ?_); rintro e w' ⟨rfl, rfl⟩)
        | (refine wpList_store_row (o := ⟨none, _, _, _, _, _⟩) rfl 30 (.tmp 2) (.tmp 37) rfl w.heap.size (rkC 0 0 (.slice none 0 0)) rfl rfl 30 (rkC 0 0 (.slice none 0 0)) HKQ.out (rkC_sz _ _ _) rfl ?_ ?_; exact rkC_one _ _ _ _ _))
      exact bodyPost_ret (run_res _ w.heap.size 0 0 5 _ _ rfl rfl (setRow_heap1 _ _ _ _ _ _ HKQ.out)) rfl (.inr ⟨HN.out, rfl, below_setRow1 HBQ.out (Nat.le_refl _) _⟩)
end
end Go.Proofs.Ytalgkiagdjckiaa

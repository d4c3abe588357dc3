/-
  sketch: fill.
  Conditions: none.
-/
import Derived.Test.YtalgkiagdjckiaaSk10
namespace Go.Proofs.Ytalgkiagdjckiaa
open Go.RowKit

/-- The counts of bytes. -/
def cntB (bs : List (BitVec 8)) (M s i : Nat) : Nat := if i % 2 = 0 then (bs[s * M + i / 2]?.getD 0).toNat % 16 else (bs[s * M + i / 2]?.getD 0).toNat / 16
/-- The counts when the rows below r are filled, and of the row r the first k pairs. -/
def cnTo (bs : List (BitVec 8)) (M r k s i : Nat) : Nat := if s < 4 ∧ i < 2 * M ∧ (s < r ∨ s = r ∧ i < 2 * k) then cntB bs M s i else 0
theorem cntB_le (bs : List (BitVec 8)) (M s i : Nat) : cntB bs M s i ≤ 15 := by
  unfold cntB
  have := (bs[s * M + i / 2]?.getD 0).isLt
  split <;> omega
theorem cnTo_le (bs : List (BitVec 8)) (M r k s i : Nat) : cnTo bs M r k s i ≤ 15 := by
  unfold cnTo
  split
  · exact cntB_le _ _ _ _
  · omega
theorem cnTo_row (bs : List (BitVec 8)) (M r s i : Nat) : cnTo bs M (r + 1) 0 s i = cnTo bs M r M s i := by
  unfold cnTo
  by_cases h : s < 4 ∧ i < 2 * M ∧ (s < r ∨ s = r ∧ i < 2 * M)
  · rw [if_pos h, if_pos ⟨h.1, h.2.1, by omega⟩]
  · rw [if_neg h, if_neg (fun e => h ⟨e.1, e.2.1, by omega⟩)]
theorem cnTo_none (bs : List (BitVec 8)) (M s i : Nat) : cnTo bs M 0 0 s i = 0 := by
  unfold cnTo
  rw [if_neg (by omega)]
/-- A pair is written. -/
theorem cnTo_pair (bs : List (BitVec 8)) {M r k : Nat} (hr : r < 4) (hk : k < M) (s i : Nat) :
    cnTo bs M r (k + 1) s i = (if s = r ∧ i = 2 * k + 1 then (bs[r * M + k]?.getD 0).toNat / 16 else if s = r ∧ i = 2 * k then (bs[r * M + k]?.getD 0).toNat % 16 else cnTo bs M r k s i) := by
  by_cases h1 : s = r ∧ i = 2 * k + 1
  · obtain ⟨rfl, rfl⟩ := h1
    rw [if_pos ⟨rfl, rfl⟩]
    unfold cnTo cntB
    rw [if_pos ⟨hr, by omega, .inr ⟨rfl, by omega⟩⟩, if_neg (by omega), show (2 * k + 1) / 2 = k by omega]
  · rw [if_neg h1]
    by_cases h2 : s = r ∧ i = 2 * k
    · obtain ⟨rfl, rfl⟩ := h2
      rw [if_pos ⟨rfl, rfl⟩]
      unfold cnTo cntB
      rw [if_pos ⟨hr, by omega, .inr ⟨rfl, by omega⟩⟩, if_pos (by omega), show 2 * k / 2 = k by omega]
    · rw [if_neg h2]
      unfold cnTo
      by_cases h : s < 4 ∧ i < 2 * M ∧ (s < r ∨ s = r ∧ i < 2 * k)
      · rw [if_pos h, if_pos ⟨h.1, h.2.1, by omega⟩]
      · rw [if_neg h, if_neg (fun e => h ⟨e.1, e.2.1, by omega⟩)]
theorem fill_and (x : BitVec 8) : bits .and .u8 (U x) 15 = ((x.toNat % 16 : Nat) : Int) := by
  have h : ∀ n : Fin 256, bits .and .u8 ((n.val : Nat) : Int) 15 = ((n.val % 16 : Nat) : Int) := by decide +kernel
  exact h ⟨x.toNat, x.isLt⟩
theorem fill_shr (x : BitVec 8) : U x / 16 = ((x.toNat / 16 : Nat) : Int) := by unfold U; simp
theorem fill_other {w : World} {g N : Nat} {f : Nat → Nat} (h : w.heap[g]? = some (.cells (rowC N f).toArray 5 (0, 0))) {j : Nat} (hj : j + 1 < N) (u : Value) : (w.setCell ⟨g, j, none⟩ u).cell? ⟨g, j + 1, none⟩ = some (.int .u8 ((f (j + 1) : Nat) : Int)) := by
  rw [blk_cell (blk_set h _ _)]
  rw [Array.getElem?_setIfInBounds_ne (by omega), List.getElem?_toArray]
  exact rowC_get hj
theorem fill_first {n₀ : Nat} {w : World} {a : Option Addr} {n c : Nat} {bs : List (BitVec 8)} (h : BytesAt n₀ w (.slice a n c) bs) (hn : ¬ n = 0) {x : BitVec 8} (hx : bs[0]?.getD 0 = x) :
    ∃ g off, a = some ⟨g, off, none⟩ ∧ g < n₀ ∧ w.cell? ⟨g, off, none⟩ = some (.int .u8 (U x)) ∧ BytesAt n₀ w (.slice (if c = 1 then some ⟨g, off, none⟩ else some ⟨g, off + 1, none⟩) (n - 1) (c - 1)) (bs.drop 1) := by
  obtain ⟨a', c', e, hl, h0, h9⟩ := id h
  cases e
  rcases h9 with h9 | ⟨g, off, rfl, hg, hc⟩
  · subst h9; simp at hn
  · have h1 := hc 0 (by omega)
    rw [hx] at h1
    refine ⟨g, off, rfl, hg, h1, ?_⟩
    by_cases hc1 : c = 1
    · subst hc1
      have e1 : bs.length = 1 := by omega
      have e2 : bs.drop 1 = [] := List.drop_eq_nil_of_le (by omega)
      rw [if_pos rfl, e2, e1]
      exact ⟨_, _, rfl, Nat.le_refl _, fun h => (by cases h), .inl rfl⟩
    · rw [if_neg hc1]
      have := h.suf 1 (by omega)
      rw [add_plain] at this
      exact this
theorem fill_measure {M k K2 : Nat} (h : k < M) (h2 : 2 * k = K2) : 2 * M - (intOf (.int .i64 ((K2 : Int) + 2))).toNat < 2 * M - (intOf (.int .i64 (K2 : Int))).toNat := by
  simp only [intOf]
  omega
theorem fill_here {k K2 : Nat} (h2 : 2 * k = K2) : Value.int .i64 ((K2 : Int) + 2) = .int .i64 ((2 * (k + 1) : Nat) : Int) := by
  rw [show 2 * (k + 1) = K2 + 2 by omega]; rfl
/-- What a round of fill keeps. -/
structure FlAt (n₀ : Nat) (bs : List (BitVec 8)) (G : Nat) (b : Nat → Nat) (N M : Nat) (w : World) (r k : Nat) (v1 v5 i : Value) (W : World) : Prop where
  le : r * M + k ≤ bs.length
  here : i = .int .i64 ((2 * k : Nat) : Int)
  rest : BytesAt n₀ W v1 (bs.drop (r * M + k))
  miss : v5 = .int .i64 ((4 * N - 2 * (r * M + k) : Nat) : Int)
  sk : SkAt W G b N 0 (cnTo bs M r k)
  moves : Moves (SkS G b) w W
section
attribute [local go_sem] index4_0 index4_1 index4_2 index4_3
set_option maxRecDepth 100000 in
set_option maxHeartbeats 4000000 in
theorem fill_any {w : World} {G : Nat} {b : Nat → Nat} {N : Nat} (hS : SkAt w G b N 0 (fun _ _ => 0)) {n₀ : Nat} {v : Value} {bs : List (BitVec 8)} (hv : BytesAt n₀ w v bs) (hb : ∀ r, r < 4 → n₀ ≤ b r) :
    Calls Try.prog 28 #[.pointer (some ⟨G, 0, none⟩), v] w fun e w' => e = .returned (.bool (decide (bs.length = 2 * N))) ∧ (∃ C', SkAt w' G b N 0 C' ∧ (bs.length = 2 * N → C' = cnTo bs (N / 2) 4 0)) ∧ Moves (SkS G b) w w' := by
  obtain ⟨av, cv, rfl, hlv, _⟩ := id hv
  have hN := hS.wide.le
  obtain ⟨M, hM, hM1, hM2⟩ := hS.wide.even
  have HSK := Lib.hid hS
  have HW := Lib.hid (width_any hS)
  have HN := Lib.hid hN
  have HM := Lib.hid (And.intro hM (And.intro hM1 hM2))
  have HV := Lib.hid hv
  have HB := Lib.hid hb
  have d0 : w.cell? ⟨G, 0, none⟩ = some (.slice (some ⟨b 0, 0, none⟩) N N) := hS.slot (r := 0) (by decide)
  have d1 : w.cell? ⟨G, 1, none⟩ = some (.slice (some ⟨b 1, 0, none⟩) N N) := hS.slot (r := 1) (by decide)
  have d2 : w.cell? ⟨G, 2, none⟩ = some (.slice (some ⟨b 2, 0, none⟩) N N) := hS.slot (r := 2) (by decide)
  have d3 : w.cell? ⟨G, 3, none⟩ = some (.slice (some ⟨b 3, 0, none⟩) N N) := hS.slot (r := 3) (by decide)
  have e4 : wrap64 (4 * (N : Int)) = ((4 * N : Nat) : Int) := by rw [IntWalk.wrap64_in _ ⟨by omega, by omega⟩]; omega
  have HE4 : Hid (wrap64 (4 * (N : Int)) = 4 * (N : Int)) := IntWalk.wrap64_in _ ⟨by omega, by omega⟩
  have eM : N / 2 = M := by omega
  rw [eM]
  clear hS hN hM hM1 hM2 eM hv hb hlv
  go_enter Try.func28, Try.ntmps28
  go_wp2_with (go_at_call 10; (with_reducible refine HW.out.mono ?_); rintro e w' ⟨rfl, rfl⟩)
  go_step3
  go_wp2
  go_step3
  go_wp2
  go_loopw [1, 5, 7, 8, 16] (fun v1 v5 _ _ i W => ∃ r : Nat, r ≤ 4 ∧ i = .int .i64 r ∧ FlAt n₀ bs G b N M w r 0 v1 v5 (.int .i64 0) W) (fun _ _ _ _ i _ => 4 - (intOf i).toNat)
  case atStart =>
    exact ⟨0, Nat.zero_le _, rfl, by omega, rfl, by rw [Nat.zero_mul, Nat.add_zero, List.drop_zero]; exact HV.out, by rw [e4, Nat.zero_mul, Nat.add_zero, Nat.mul_zero, Nat.sub_zero], HSK.out.congr (fun s i _ _ => cnTo_none bs M s i) (cnTo_le bs M 0 0), Moves.refl _ _⟩
  case round =>
    obtain ⟨r, hr, rfl, hfl⟩ := hrel
    obtain ⟨wo, rfl⟩ : ∃ wo, wo = wr := ⟨_, rfl⟩
    have HF0 := Lib.hid hfl
    obtain ⟨hrl, _, hvr, rfl, hsr, hmr⟩ := hfl
    obtain ⟨ar, cr, rfl, hcr, _⟩ := id hvr
    obtain ⟨ms, hms⟩ : ∃ ms : Int, ((4 * N - 2 * (r * M + 0) : Nat) : Int) = ms := ⟨_, rfl⟩
    rw [hms] at HF0
    rw [hms]
    by_cases h4 : r < 4
    · have hcs : r = 0 ∨ r = 1 ∨ r = 2 ∨ r = 3 := by omega
      clear hvr hsr hmr hr d0 d1 d2 d3 hrl hcr hms
      rcases hcs with rfl | rfl | rfl | rfl
      · go_wp2
        go_loopw [1, 5, 8] (fun v1 v5 i W => ∃ k : Nat, k ≤ M ∧ FlAt n₀ bs G b N M w 0 k v1 v5 i W) (fun _ _ i _ => 2 * M - (intOf i).toNat)
        case atStart => exact ⟨0, Nat.zero_le _, HF0.out⟩
        case round =>
          obtain ⟨k, hk, hkl, rfl, hvk, rfl, hsk, hmk⟩ := hrel
          obtain ⟨ak, ck, rfl, hck, _⟩ := id hvk
          have HVK := Lib.hid hvk
          have HSK2 := Lib.hid hsk
          have HMK := Lib.hid hmk
          have HKL := Lib.hid hkl
          obtain ⟨n, hn⟩ : ∃ n, (bs.drop (0 * M + k)).length = n := ⟨_, rfl⟩
          have HNL : Hid (n = bs.length - (0 * M + k)) := by unfold Hid; rw [← hn, List.length_drop]
          rw [hn] at hck HVK ⊢
          by_cases hkM : k < M
          · have p1 : ((2 * k : Nat) : Int) < (N : Int) := by have := HM.out; omega
            by_cases hn0 : n = 0
            · subst hn0
              have m0 : ¬ (((4 * N - 2 * (0 * M + k) : Nat) : Int) = 0) := by have := HM.out; omega
              have m1 : (((4 * N - 2 * (0 * M + k) : Nat) : Int) == 0) = false := beq_eq_false_iff_ne.2 m0
              have HD : Hid (decide (bs.length = 2 * N) = false) := decide_eq_false (by have := HM.out; have := HNL.out; omega)
              have HD2 : Hid (¬ bs.length = 2 * N) := by have h9 := HM.out; have h8 := HNL.out; exact fun e => by omega
              obtain ⟨mm, hmm⟩ : ∃ mm : Int, ((4 * N - 2 * (0 * M + k) : Nat) : Int) = mm := ⟨_, rfl⟩
              rw [hmm] at m0 m1 ⊢
              clear hk hkl hvk hsk hmk hck hn hmm
              go_wp2
              (try rw [Exit.noGoto_ret])
              go_ret
              exact ⟨by rw [HD.out]; rfl, ⟨_, HSK2.out, fun e => (HD2.out e).elim⟩, HMK.out⟩
            · have htl : 0 * M + k < bs.length := by have := HNL.out; omega
              obtain ⟨x, hx⟩ : ∃ x, bs[0 * M + k]?.getD 0 = x := ⟨_, rfl⟩
              obtain ⟨g, off, rfl, hg, q1, hsuf⟩ := fill_first HVK.out hn0 (show (bs.drop (0 * M + k))[0]?.getD 0 = x by rw [← hx]; simp)
              have hxa := fill_and x
              have hxb := fill_shr x
              have HPR := Lib.hid (cnTo_pair bs (M := M) (r := 0) (k := k) (by decide) hkM)
              rw [hx] at HPR
              obtain ⟨m1, hm1⟩ : ∃ m1, x.toNat % 16 = m1 := ⟨_, rfl⟩
              obtain ⟨m2, hm2⟩ : ∃ m2, x.toNat / 16 = m2 := ⟨_, rfl⟩
              have M1 : Hid (m1 ≤ 15) := by unfold Hid; omega
              have M2 : Hid (m2 ≤ 15) := by unfold Hid; have := x.isLt; omega
              rw [hm1] at hxa HPR
              rw [hm2] at hxb HPR
              clear hm1 hm2
              have n1 : (1 : Int) ≤ n := by omega
              have n2 : (0 : Int) < n := by omega
              have n3 : 0 < n := by omega
              have c1 : (1 : Int) ≤ ck := by omega
              have HSF : Hid (∀ W', Below n₀ wr W' → BytesAt n₀ W' (.slice (if ck = 1 then some ⟨g, off, none⟩ else some ⟨g, off + 1, none⟩) (n - 1) (ck - 1)) (bs.drop (0 * M + (k + 1)))) := fun W' hb => by
                have := (hsuf.below hb)
                rwa [List.drop_drop, Nat.add_assoc] at this
              have HBR := Lib.hid (HB.out 0 (by decide))
              have HG := Lib.hid hg
              have p2 : ((2 * k + 1 : Nat) : Int) < (N : Int) := by have := HM.out; omega
              have HTL := Lib.hid htl
              have HKM := Lib.hid hkM
              have HCK := Lib.hid hck
              have q2 : wr.drew.frozen? ⟨b 0, 2 * k, none⟩ = false := blk_frozen (show wr.drew.heap[b 0]? = _ from hsk.row 0 (by decide)) _
              have q1' : wr.drew.cell? ⟨g, off, none⟩ = some (.int .u8 (U x)) := q1
              have q5 : wr.drew.cell? ⟨b 0, 2 * k, none⟩ = some (.int .u8 ((cnTo bs M 0 k 0 (2 * k) : Nat) : Int)) := hsk.count (by decide) (by have := HM.out; omega)
              have q6 : (wr.setCell ⟨b 0, 2 * k, none⟩ (.int .u8 (m1 : Int))).drew.cell? ⟨b 0, 2 * k + 1, none⟩ = some (.int .u8 ((cnTo bs M 0 k 0 (2 * k + 1) : Nat) : Int)) := fill_other (show wr.drew.heap[b 0]? = _ from hsk.row 0 (by decide)) (by have := HM.out; omega) (.int .u8 (m1 : Int))
              have hrow : (wr.setCell ⟨b 0, 2 * k, none⟩ (.int .u8 (m1 : Int))).drew.frozen? ⟨b 0, 2 * k + 1, none⟩ = false := blk_frozen (blk_set (show wr.drew.heap[b 0]? = _ from hsk.row 0 (by decide)) _ _) _
              obtain ⟨mm, hmm⟩ : ∃ mm : Int, ((4 * N - 2 * (0 * M + k) : Nat) : Int) = mm := ⟨_, rfl⟩
              obtain ⟨mm2, hmm2⟩ : ∃ mm : Int, ((4 * N - 2 * (0 * M + (k + 1)) : Nat) : Int) = mm := ⟨_, rfl⟩
              have em : wrap64 (mm - 2) = mm2 := by
                have h9 := HM.out
                rw [← hmm, ← hmm2, IntWalk.wrap64_in _ ⟨by omega, by omega⟩]; omega
              have HM2 := Lib.hid hmm2
              rw [hmm]
              clear hk hkl hvk hsk hmk hck hn hn0 htl hkM q1 hsuf hx hg hmm hmm2
              obtain ⟨K2, hK2⟩ : ∃ K2, 2 * k = K2 := ⟨_, rfl⟩
              rw [hK2] at q2 q5 q6 hrow p1 p2 ⊢
              have HK2 := Lib.hid hK2
              obtain ⟨f0, f1, f2, f3, f4⟩ := idx_facts (K := K2) (N := N) (by omega) HN.out.2
              have f5 : wrap64 ((K2 : Int) + 2) = (K2 : Int) + 2 := IntWalk.wrap64_in _ ⟨by omega, by have := HN.out.2; omega⟩
              clear hK2
              have HS1 : Hid ((wr.drew.setCell ⟨b 0, K2, none⟩ (.int .u8 (m1 : Int))).cell? ⟨g, off, none⟩ = some (.int .u8 (U x))) := ((Below.refl n₀ wr.drew).setCell (p := ⟨b 0, K2, none⟩) HBR.out _).cell (p := ⟨g, off, none⟩) HG.out |>.trans q1'
              have HS2 : Hid (((wr.drew.setCell ⟨b 0, K2, none⟩ (.int .u8 (m1 : Int))).setCell ⟨b 0, K2 + 1, none⟩ (.int .u8 (m2 : Int))).cell? ⟨g, off, none⟩ = some (.int .u8 (U x))) := (((Below.refl n₀ wr.drew).setCell (p := ⟨b 0, K2, none⟩) HBR.out _).setCell (p := ⟨b 0, K2 + 1, none⟩) HBR.out _).cell (p := ⟨g, off, none⟩) HG.out |>.trans q1'
              have HQ1 := Lib.hid q1'
              clear q1'
              go_wp2
              go_region_held3 (fun (W : World) => W.cell? ⟨g, off, none⟩ = some (.int .u8 (U x)))
                (first | exact HQ1.out | exact HS1.out | exact HS2.out)
                (fail)
              have hsF := ((HSK2.out.put (r := 0) (j := K2) (v := m1) (by decide) M1.out).put (r := 0) (j := K2 + 1) (v := m2) (by decide) M2.out).drewN 1
              have hmF : Moves (SkS G b) w ((wr.setCell ⟨b 0, K2, none⟩ (.int .u8 (m1 : Int))).setCell ⟨b 0, K2 + 1, none⟩ (.int .u8 (m2 : Int))).drew := ((HMK.out.setCell (p := ⟨b 0, K2, none⟩) (fun _ => .inr ⟨0, by decide, rfl⟩) _).setCell (p := ⟨b 0, K2 + 1, none⟩) (fun _ => .inr ⟨0, by decide, rfl⟩) _).drew
              have hbF : Below n₀ wr ((wr.setCell ⟨b 0, K2, none⟩ (.int .u8 (m1 : Int))).setCell ⟨b 0, K2 + 1, none⟩ (.int .u8 (m2 : Int))).drew := (((Below.refl n₀ wr).setCell (p := ⟨b 0, K2, none⟩) HBR.out _).setCell (p := ⟨b 0, K2 + 1, none⟩) HBR.out _).drew
              have HSF1 := Lib.hid (HSF.out _ hbF)
              have HSKF : Hid (SkAt ((wr.setCell ⟨b 0, K2, none⟩ (.int .u8 (m1 : Int))).setCell ⟨b 0, K2 + 1, none⟩ (.int .u8 (m2 : Int))).drew G b N 0 (cnTo bs M 0 (k + 1))) := hsF.congr (fun s i _ _ => by rw [HPR.out s i, HK2.out]) (cnTo_le bs M 0 (k + 1))
              have HMF := Lib.hid hmF
              obtain ⟨wf, hwf⟩ : ∃ wf, ((wr.setCell ⟨b 0, K2, none⟩ (.int .u8 (m1 : Int))).setCell ⟨b 0, K2 + 1, none⟩ (.int .u8 (m2 : Int))).drew = wf := ⟨_, rfl⟩
              rw [hwf] at HSF1 HSKF HMF ⊢
              clear hsF hmF hbF hwf q2 q5 q6 hrow
              by_cases hc1 : ck = 1
              · rw [if_pos hc1] at HSF1
                subst hc1
                have hn1 : n = 1 := Nat.le_antisymm HCK.out n3
                subst hn1
                go_wp2
                exact ⟨⟨_, _, _, ⟨k + 1, HKM.out, HTL.out, fill_here HK2.out, HSF1.out, by rw [HM2.out], HSKF.out, HMF.out⟩, rfl, rfl, rfl⟩, fill_measure HKM.out HK2.out⟩
              · rw [if_neg hc1] at HSF1
                have hc2 : ¬ (1 = ck) := fun e => hc1 e.symm
                go_wp2
                refine ⟨?_, ?_⟩
                · (repeat apply Exists.intro)
                  exact ⟨⟨k + 1, HKM.out, HTL.out, (congrArg (Value.int .i64) f5).trans (fill_here HK2.out), HSF1.out, (congrArg (Value.int .i64) em).trans (by rw [HM2.out]), HSKF.out, HMF.out⟩, by rw [HE4.out]; rfl⟩
                · have h9 := fill_measure HKM.out HK2.out
                  rw [← f5] at h9
                  exact h9
          · obtain rfl : k = M := by omega
            have p1 : ((2 * k : Nat) : Int) = (N : Int) := by have := HM.out; omega
            rw [p1]
            have HKK : Hid (1 * k = 0 * k + k) := by unfold Hid; omega
            have hms : ((4 * N - 2 * (0 * k + k) : Nat) : Int) = ((4 * N - 2 * (1 * k) : Nat) : Int) := by rw [HKK.out]
            rw [hms]
            obtain ⟨mm, hmm⟩ : ∃ mm : Int, ((4 * N - 2 * (1 * k) : Nat) : Int) = mm := ⟨_, rfl⟩
            have HMM := Lib.hid hmm
            rw [hmm]
            clear hk hkl hvk hsk hmk hck hkM hn hms hmm
            go_wp2
            go_roundw
            case rel =>
              exact ⟨1, by decide, by go_num, by rw [Nat.add_zero, HKK.out]; exact HKL.out, rfl, by rw [Nat.add_zero, HKK.out]; exact HVK.out, by rw [← HMM.out, Nat.add_zero], HSK2.out.congr (fun s i _ _ => cnTo_row bs k 0 s i) (cnTo_le bs k 1 0), HMK.out⟩
            case measure => simp [intOf]
      · go_wp2
        go_loopw [1, 5, 8] (fun v1 v5 i W => ∃ k : Nat, k ≤ M ∧ FlAt n₀ bs G b N M w 1 k v1 v5 i W) (fun _ _ i _ => 2 * M - (intOf i).toNat)
        case atStart => exact ⟨0, Nat.zero_le _, HF0.out⟩
        case round =>
          obtain ⟨k, hk, hkl, rfl, hvk, rfl, hsk, hmk⟩ := hrel
          obtain ⟨ak, ck, rfl, hck, _⟩ := id hvk
          have HVK := Lib.hid hvk
          have HSK2 := Lib.hid hsk
          have HMK := Lib.hid hmk
          have HKL := Lib.hid hkl
          obtain ⟨n, hn⟩ : ∃ n, (bs.drop (1 * M + k)).length = n := ⟨_, rfl⟩
          have HNL : Hid (n = bs.length - (1 * M + k)) := by unfold Hid; rw [← hn, List.length_drop]
          rw [hn] at hck HVK ⊢
          by_cases hkM : k < M
          · have p1 : ((2 * k : Nat) : Int) < (N : Int) := by have := HM.out; omega
            by_cases hn0 : n = 0
            · subst hn0
              have m0 : ¬ (((4 * N - 2 * (1 * M + k) : Nat) : Int) = 0) := by have := HM.out; omega
              have m1 : (((4 * N - 2 * (1 * M + k) : Nat) : Int) == 0) = false := beq_eq_false_iff_ne.2 m0
              have HD : Hid (decide (bs.length = 2 * N) = false) := decide_eq_false (by have := HM.out; have := HNL.out; omega)
              have HD2 : Hid (¬ bs.length = 2 * N) := by have h9 := HM.out; have h8 := HNL.out; exact fun e => by omega
              obtain ⟨mm, hmm⟩ : ∃ mm : Int, ((4 * N - 2 * (1 * M + k) : Nat) : Int) = mm := ⟨_, rfl⟩
              rw [hmm] at m0 m1 ⊢
              clear hk hkl hvk hsk hmk hck hn hmm
              go_wp2
              (try rw [Exit.noGoto_ret])
              go_ret
              exact ⟨by rw [HD.out]; rfl, ⟨_, HSK2.out, fun e => (HD2.out e).elim⟩, HMK.out⟩
            · have htl : 1 * M + k < bs.length := by have := HNL.out; omega
              obtain ⟨x, hx⟩ : ∃ x, bs[1 * M + k]?.getD 0 = x := ⟨_, rfl⟩
              obtain ⟨g, off, rfl, hg, q1, hsuf⟩ := fill_first HVK.out hn0 (show (bs.drop (1 * M + k))[0]?.getD 0 = x by rw [← hx]; simp)
              have hxa := fill_and x
              have hxb := fill_shr x
              have HPR := Lib.hid (cnTo_pair bs (M := M) (r := 1) (k := k) (by decide) hkM)
              rw [hx] at HPR
              obtain ⟨m1, hm1⟩ : ∃ m1, x.toNat % 16 = m1 := ⟨_, rfl⟩
              obtain ⟨m2, hm2⟩ : ∃ m2, x.toNat / 16 = m2 := ⟨_, rfl⟩
              have M1 : Hid (m1 ≤ 15) := by unfold Hid; omega
              have M2 : Hid (m2 ≤ 15) := by unfold Hid; have := x.isLt; omega
              rw [hm1] at hxa HPR
              rw [hm2] at hxb HPR
              clear hm1 hm2
              have n1 : (1 : Int) ≤ n := by omega
              have n2 : (0 : Int) < n := by omega
              have n3 : 0 < n := by omega
              have c1 : (1 : Int) ≤ ck := by omega
              have HSF : Hid (∀ W', Below n₀ wr W' → BytesAt n₀ W' (.slice (if ck = 1 then some ⟨g, off, none⟩ else some ⟨g, off + 1, none⟩) (n - 1) (ck - 1)) (bs.drop (1 * M + (k + 1)))) := fun W' hb => by
                have := (hsuf.below hb)
                rwa [List.drop_drop, Nat.add_assoc] at this
              have HBR := Lib.hid (HB.out 1 (by decide))
              have HG := Lib.hid hg
              have p2 : ((2 * k + 1 : Nat) : Int) < (N : Int) := by have := HM.out; omega
              have HTL := Lib.hid htl
              have HKM := Lib.hid hkM
              have HCK := Lib.hid hck
              have q2 : wr.drew.frozen? ⟨b 1, 2 * k, none⟩ = false := blk_frozen (show wr.drew.heap[b 1]? = _ from hsk.row 1 (by decide)) _
              have q1' : wr.drew.cell? ⟨g, off, none⟩ = some (.int .u8 (U x)) := q1
              have q5 : wr.drew.cell? ⟨b 1, 2 * k, none⟩ = some (.int .u8 ((cnTo bs M 1 k 1 (2 * k) : Nat) : Int)) := hsk.count (by decide) (by have := HM.out; omega)
              have q6 : (wr.setCell ⟨b 1, 2 * k, none⟩ (.int .u8 (m1 : Int))).drew.cell? ⟨b 1, 2 * k + 1, none⟩ = some (.int .u8 ((cnTo bs M 1 k 1 (2 * k + 1) : Nat) : Int)) := fill_other (show wr.drew.heap[b 1]? = _ from hsk.row 1 (by decide)) (by have := HM.out; omega) (.int .u8 (m1 : Int))
              have hrow : (wr.setCell ⟨b 1, 2 * k, none⟩ (.int .u8 (m1 : Int))).drew.frozen? ⟨b 1, 2 * k + 1, none⟩ = false := blk_frozen (blk_set (show wr.drew.heap[b 1]? = _ from hsk.row 1 (by decide)) _ _) _
              obtain ⟨mm, hmm⟩ : ∃ mm : Int, ((4 * N - 2 * (1 * M + k) : Nat) : Int) = mm := ⟨_, rfl⟩
              obtain ⟨mm2, hmm2⟩ : ∃ mm : Int, ((4 * N - 2 * (1 * M + (k + 1)) : Nat) : Int) = mm := ⟨_, rfl⟩
              have em : wrap64 (mm - 2) = mm2 := by
                have h9 := HM.out
                rw [← hmm, ← hmm2, IntWalk.wrap64_in _ ⟨by omega, by omega⟩]; omega
              have HM2 := Lib.hid hmm2
              rw [hmm]
              clear hk hkl hvk hsk hmk hck hn hn0 htl hkM q1 hsuf hx hg hmm hmm2
              obtain ⟨K2, hK2⟩ : ∃ K2, 2 * k = K2 := ⟨_, rfl⟩
              rw [hK2] at q2 q5 q6 hrow p1 p2 ⊢
              have HK2 := Lib.hid hK2
              obtain ⟨f0, f1, f2, f3, f4⟩ := idx_facts (K := K2) (N := N) (by omega) HN.out.2
              have f5 : wrap64 ((K2 : Int) + 2) = (K2 : Int) + 2 := IntWalk.wrap64_in _ ⟨by omega, by have := HN.out.2; omega⟩
              clear hK2
              have HS1 : Hid ((wr.drew.setCell ⟨b 1, K2, none⟩ (.int .u8 (m1 : Int))).cell? ⟨g, off, none⟩ = some (.int .u8 (U x))) := ((Below.refl n₀ wr.drew).setCell (p := ⟨b 1, K2, none⟩) HBR.out _).cell (p := ⟨g, off, none⟩) HG.out |>.trans q1'
              have HS2 : Hid (((wr.drew.setCell ⟨b 1, K2, none⟩ (.int .u8 (m1 : Int))).setCell ⟨b 1, K2 + 1, none⟩ (.int .u8 (m2 : Int))).cell? ⟨g, off, none⟩ = some (.int .u8 (U x))) := (((Below.refl n₀ wr.drew).setCell (p := ⟨b 1, K2, none⟩) HBR.out _).setCell (p := ⟨b 1, K2 + 1, none⟩) HBR.out _).cell (p := ⟨g, off, none⟩) HG.out |>.trans q1'
              have HQ1 := Lib.hid q1'
              clear q1'
              go_wp2
              go_region_held3 (fun (W : World) => W.cell? ⟨g, off, none⟩ = some (.int .u8 (U x)))
                (first | exact HQ1.out | exact HS1.out | exact HS2.out)
                (fail)
              have hsF := ((HSK2.out.put (r := 1) (j := K2) (v := m1) (by decide) M1.out).put (r := 1) (j := K2 + 1) (v := m2) (by decide) M2.out).drewN 1
              have hmF : Moves (SkS G b) w ((wr.setCell ⟨b 1, K2, none⟩ (.int .u8 (m1 : Int))).setCell ⟨b 1, K2 + 1, none⟩ (.int .u8 (m2 : Int))).drew := ((HMK.out.setCell (p := ⟨b 1, K2, none⟩) (fun _ => .inr ⟨1, by decide, rfl⟩) _).setCell (p := ⟨b 1, K2 + 1, none⟩) (fun _ => .inr ⟨1, by decide, rfl⟩) _).drew
              have hbF : Below n₀ wr ((wr.setCell ⟨b 1, K2, none⟩ (.int .u8 (m1 : Int))).setCell ⟨b 1, K2 + 1, none⟩ (.int .u8 (m2 : Int))).drew := (((Below.refl n₀ wr).setCell (p := ⟨b 1, K2, none⟩) HBR.out _).setCell (p := ⟨b 1, K2 + 1, none⟩) HBR.out _).drew
              have HSF1 := Lib.hid (HSF.out _ hbF)
              have HSKF : Hid (SkAt ((wr.setCell ⟨b 1, K2, none⟩ (.int .u8 (m1 : Int))).setCell ⟨b 1, K2 + 1, none⟩ (.int .u8 (m2 : Int))).drew G b N 0 (cnTo bs M 1 (k + 1))) := hsF.congr (fun s i _ _ => by rw [HPR.out s i, HK2.out]) (cnTo_le bs M 1 (k + 1))
              have HMF := Lib.hid hmF
              obtain ⟨wf, hwf⟩ : ∃ wf, ((wr.setCell ⟨b 1, K2, none⟩ (.int .u8 (m1 : Int))).setCell ⟨b 1, K2 + 1, none⟩ (.int .u8 (m2 : Int))).drew = wf := ⟨_, rfl⟩
              rw [hwf] at HSF1 HSKF HMF ⊢
              clear hsF hmF hbF hwf q2 q5 q6 hrow
              by_cases hc1 : ck = 1
              · rw [if_pos hc1] at HSF1
                subst hc1
                have hn1 : n = 1 := Nat.le_antisymm HCK.out n3
                subst hn1
                go_wp2
                exact ⟨⟨_, _, _, ⟨k + 1, HKM.out, HTL.out, fill_here HK2.out, HSF1.out, by rw [HM2.out], HSKF.out, HMF.out⟩, rfl, rfl, rfl⟩, fill_measure HKM.out HK2.out⟩
              · rw [if_neg hc1] at HSF1
                have hc2 : ¬ (1 = ck) := fun e => hc1 e.symm
                go_wp2
                refine ⟨?_, ?_⟩
                · (repeat apply Exists.intro)
                  exact ⟨⟨k + 1, HKM.out, HTL.out, (congrArg (Value.int .i64) f5).trans (fill_here HK2.out), HSF1.out, (congrArg (Value.int .i64) em).trans (by rw [HM2.out]), HSKF.out, HMF.out⟩, by rw [HE4.out]; rfl⟩
                · have h9 := fill_measure HKM.out HK2.out
                  rw [← f5] at h9
                  exact h9
          · obtain rfl : k = M := by omega
            have p1 : ((2 * k : Nat) : Int) = (N : Int) := by have := HM.out; omega
            rw [p1]
            have HKK : Hid (2 * k = 1 * k + k) := by unfold Hid; omega
            have hms : ((4 * N - 2 * (1 * k + k) : Nat) : Int) = ((4 * N - 2 * (2 * k) : Nat) : Int) := by rw [HKK.out]
            rw [hms]
            obtain ⟨mm, hmm⟩ : ∃ mm : Int, ((4 * N - 2 * (2 * k) : Nat) : Int) = mm := ⟨_, rfl⟩
            have HMM := Lib.hid hmm
            rw [hmm]
            clear hk hkl hvk hsk hmk hck hkM hn hms hmm
            go_wp2
            go_roundw
            case rel =>
              exact ⟨2, by decide, by go_num, by rw [Nat.add_zero, HKK.out]; exact HKL.out, rfl, by rw [Nat.add_zero, HKK.out]; exact HVK.out, by rw [← HMM.out, Nat.add_zero], HSK2.out.congr (fun s i _ _ => cnTo_row bs k 1 s i) (cnTo_le bs k 2 0), HMK.out⟩
            case measure => simp [intOf]
      · go_wp2
        go_loopw [1, 5, 8] (fun v1 v5 i W => ∃ k : Nat, k ≤ M ∧ FlAt n₀ bs G b N M w 2 k v1 v5 i W) (fun _ _ i _ => 2 * M - (intOf i).toNat)
        case atStart => exact ⟨0, Nat.zero_le _, HF0.out⟩
        case round =>
          obtain ⟨k, hk, hkl, rfl, hvk, rfl, hsk, hmk⟩ := hrel
          obtain ⟨ak, ck, rfl, hck, _⟩ := id hvk
          have HVK := Lib.hid hvk
          have HSK2 := Lib.hid hsk
          have HMK := Lib.hid hmk
          have HKL := Lib.hid hkl
          obtain ⟨n, hn⟩ : ∃ n, (bs.drop (2 * M + k)).length = n := ⟨_, rfl⟩
          have HNL : Hid (n = bs.length - (2 * M + k)) := by unfold Hid; rw [← hn, List.length_drop]
          rw [hn] at hck HVK ⊢
          by_cases hkM : k < M
          · have p1 : ((2 * k : Nat) : Int) < (N : Int) := by have := HM.out; omega
            by_cases hn0 : n = 0
            · subst hn0
              have m0 : ¬ (((4 * N - 2 * (2 * M + k) : Nat) : Int) = 0) := by have := HM.out; omega
              have m1 : (((4 * N - 2 * (2 * M + k) : Nat) : Int) == 0) = false := beq_eq_false_iff_ne.2 m0
              have HD : Hid (decide (bs.length = 2 * N) = false) := decide_eq_false (by have := HM.out; have := HNL.out; omega)
              have HD2 : Hid (¬ bs.length = 2 * N) := by have h9 := HM.out; have h8 := HNL.out; exact fun e => by omega
              obtain ⟨mm, hmm⟩ : ∃ mm : Int, ((4 * N - 2 * (2 * M + k) : Nat) : Int) = mm := ⟨_, rfl⟩
              rw [hmm] at m0 m1 ⊢
              clear hk hkl hvk hsk hmk hck hn hmm
              go_wp2
              (try rw [Exit.noGoto_ret])
              go_ret
              exact ⟨by rw [HD.out]; rfl, ⟨_, HSK2.out, fun e => (HD2.out e).elim⟩, HMK.out⟩
            · have htl : 2 * M + k < bs.length := by have := HNL.out; omega
              obtain ⟨x, hx⟩ : ∃ x, bs[2 * M + k]?.getD 0 = x := ⟨_, rfl⟩
              obtain ⟨g, off, rfl, hg, q1, hsuf⟩ := fill_first HVK.out hn0 (show (bs.drop (2 * M + k))[0]?.getD 0 = x by rw [← hx]; simp)
              have hxa := fill_and x
              have hxb := fill_shr x
              have HPR := Lib.hid (cnTo_pair bs (M := M) (r := 2) (k := k) (by decide) hkM)
              rw [hx] at HPR
              obtain ⟨m1, hm1⟩ : ∃ m1, x.toNat % 16 = m1 := ⟨_, rfl⟩
              obtain ⟨m2, hm2⟩ : ∃ m2, x.toNat / 16 = m2 := ⟨_, rfl⟩
              have M1 : Hid (m1 ≤ 15) := by unfold Hid; omega
              have M2 : Hid (m2 ≤ 15) := by unfold Hid; have := x.isLt; omega
              rw [hm1] at hxa HPR
              rw [hm2] at hxb HPR
              clear hm1 hm2
              have n1 : (1 : Int) ≤ n := by omega
              have n2 : (0 : Int) < n := by omega
              have n3 : 0 < n := by omega
              have c1 : (1 : Int) ≤ ck := by omega
              have HSF : Hid (∀ W', Below n₀ wr W' → BytesAt n₀ W' (.slice (if ck = 1 then some ⟨g, off, none⟩ else some ⟨g, off + 1, none⟩) (n - 1) (ck - 1)) (bs.drop (2 * M + (k + 1)))) := fun W' hb => by
                have := (hsuf.below hb)
                rwa [List.drop_drop, Nat.add_assoc] at this
              have HBR := Lib.hid (HB.out 2 (by decide))
              have HG := Lib.hid hg
              have p2 : ((2 * k + 1 : Nat) : Int) < (N : Int) := by have := HM.out; omega
              have HTL := Lib.hid htl
              have HKM := Lib.hid hkM
              have HCK := Lib.hid hck
              have q2 : wr.drew.frozen? ⟨b 2, 2 * k, none⟩ = false := blk_frozen (show wr.drew.heap[b 2]? = _ from hsk.row 2 (by decide)) _
              have q1' : wr.drew.cell? ⟨g, off, none⟩ = some (.int .u8 (U x)) := q1
              have q5 : wr.drew.cell? ⟨b 2, 2 * k, none⟩ = some (.int .u8 ((cnTo bs M 2 k 2 (2 * k) : Nat) : Int)) := hsk.count (by decide) (by have := HM.out; omega)
              have q6 : (wr.setCell ⟨b 2, 2 * k, none⟩ (.int .u8 (m1 : Int))).drew.cell? ⟨b 2, 2 * k + 1, none⟩ = some (.int .u8 ((cnTo bs M 2 k 2 (2 * k + 1) : Nat) : Int)) := fill_other (show wr.drew.heap[b 2]? = _ from hsk.row 2 (by decide)) (by have := HM.out; omega) (.int .u8 (m1 : Int))
              have hrow : (wr.setCell ⟨b 2, 2 * k, none⟩ (.int .u8 (m1 : Int))).drew.frozen? ⟨b 2, 2 * k + 1, none⟩ = false := blk_frozen (blk_set (show wr.drew.heap[b 2]? = _ from hsk.row 2 (by decide)) _ _) _
              obtain ⟨mm, hmm⟩ : ∃ mm : Int, ((4 * N - 2 * (2 * M + k) : Nat) : Int) = mm := ⟨_, rfl⟩
              obtain ⟨mm2, hmm2⟩ : ∃ mm : Int, ((4 * N - 2 * (2 * M + (k + 1)) : Nat) : Int) = mm := ⟨_, rfl⟩
              have em : wrap64 (mm - 2) = mm2 := by
                have h9 := HM.out
                rw [← hmm, ← hmm2, IntWalk.wrap64_in _ ⟨by omega, by omega⟩]; omega
              have HM2 := Lib.hid hmm2
              rw [hmm]
              clear hk hkl hvk hsk hmk hck hn hn0 htl hkM q1 hsuf hx hg hmm hmm2
              obtain ⟨K2, hK2⟩ : ∃ K2, 2 * k = K2 := ⟨_, rfl⟩
              rw [hK2] at q2 q5 q6 hrow p1 p2 ⊢
              have HK2 := Lib.hid hK2
              obtain ⟨f0, f1, f2, f3, f4⟩ := idx_facts (K := K2) (N := N) (by omega) HN.out.2
              have f5 : wrap64 ((K2 : Int) + 2) = (K2 : Int) + 2 := IntWalk.wrap64_in _ ⟨by omega, by have := HN.out.2; omega⟩
              clear hK2
              have HS1 : Hid ((wr.drew.setCell ⟨b 2, K2, none⟩ (.int .u8 (m1 : Int))).cell? ⟨g, off, none⟩ = some (.int .u8 (U x))) := ((Below.refl n₀ wr.drew).setCell (p := ⟨b 2, K2, none⟩) HBR.out _).cell (p := ⟨g, off, none⟩) HG.out |>.trans q1'
              have HS2 : Hid (((wr.drew.setCell ⟨b 2, K2, none⟩ (.int .u8 (m1 : Int))).setCell ⟨b 2, K2 + 1, none⟩ (.int .u8 (m2 : Int))).cell? ⟨g, off, none⟩ = some (.int .u8 (U x))) := (((Below.refl n₀ wr.drew).setCell (p := ⟨b 2, K2, none⟩) HBR.out _).setCell (p := ⟨b 2, K2 + 1, none⟩) HBR.out _).cell (p := ⟨g, off, none⟩) HG.out |>.trans q1'
              have HQ1 := Lib.hid q1'
              clear q1'
              go_wp2
              go_region_held3 (fun (W : World) => W.cell? ⟨g, off, none⟩ = some (.int .u8 (U x)))
                (first | exact HQ1.out | exact HS1.out | exact HS2.out)
                (fail)
              have hsF := ((HSK2.out.put (r := 2) (j := K2) (v := m1) (by decide) M1.out).put (r := 2) (j := K2 + 1) (v := m2) (by decide) M2.out).drewN 1
              have hmF : Moves (SkS G b) w ((wr.setCell ⟨b 2, K2, none⟩ (.int .u8 (m1 : Int))).setCell ⟨b 2, K2 + 1, none⟩ (.int .u8 (m2 : Int))).drew := ((HMK.out.setCell (p := ⟨b 2, K2, none⟩) (fun _ => .inr ⟨2, by decide, rfl⟩) _).setCell (p := ⟨b 2, K2 + 1, none⟩) (fun _ => .inr ⟨2, by decide, rfl⟩) _).drew
              have hbF : Below n₀ wr ((wr.setCell ⟨b 2, K2, none⟩ (.int .u8 (m1 : Int))).setCell ⟨b 2, K2 + 1, none⟩ (.int .u8 (m2 : Int))).drew := (((Below.refl n₀ wr).setCell (p := ⟨b 2, K2, none⟩) HBR.out _).setCell (p := ⟨b 2, K2 + 1, none⟩) HBR.out _).drew
              have HSF1 := Lib.hid (HSF.out _ hbF)
              have HSKF : Hid (SkAt ((wr.setCell ⟨b 2, K2, none⟩ (.int .u8 (m1 : Int))).setCell ⟨b 2, K2 + 1, none⟩ (.int .u8 (m2 : Int))).drew G b N 0 (cnTo bs M 2 (k + 1))) := hsF.congr (fun s i _ _ => by rw [HPR.out s i, HK2.out]) (cnTo_le bs M 2 (k + 1))
              have HMF := Lib.hid hmF
              obtain ⟨wf, hwf⟩ : ∃ wf, ((wr.setCell ⟨b 2, K2, none⟩ (.int .u8 (m1 : Int))).setCell ⟨b 2, K2 + 1, none⟩ (.int .u8 (m2 : Int))).drew = wf := ⟨_, rfl⟩
              rw [hwf] at HSF1 HSKF HMF ⊢
              clear hsF hmF hbF hwf q2 q5 q6 hrow
              by_cases hc1 : ck = 1
              · rw [if_pos hc1] at HSF1
                subst hc1
                have hn1 : n = 1 := Nat.le_antisymm HCK.out n3
                subst hn1
                go_wp2
                exact ⟨⟨_, _, _, ⟨k + 1, HKM.out, HTL.out, fill_here HK2.out, HSF1.out, by rw [HM2.out], HSKF.out, HMF.out⟩, rfl, rfl, rfl⟩, fill_measure HKM.out HK2.out⟩
              · rw [if_neg hc1] at HSF1
                have hc2 : ¬ (1 = ck) := fun e => hc1 e.symm
                go_wp2
                refine ⟨?_, ?_⟩
                · (repeat apply Exists.intro)
                  exact ⟨⟨k + 1, HKM.out, HTL.out, (congrArg (Value.int .i64) f5).trans (fill_here HK2.out), HSF1.out, (congrArg (Value.int .i64) em).trans (by rw [HM2.out]), HSKF.out, HMF.out⟩, by rw [HE4.out]; rfl⟩
                · have h9 := fill_measure HKM.out HK2.out
                  rw [← f5] at h9
                  exact h9
          · obtain rfl : k = M := by omega
            have p1 : ((2 * k : Nat) : Int) = (N : Int) := by have := HM.out; omega
            rw [p1]
            have HKK : Hid (3 * k = 2 * k + k) := by unfold Hid; omega
            have hms : ((4 * N - 2 * (2 * k + k) : Nat) : Int) = ((4 * N - 2 * (3 * k) : Nat) : Int) := by rw [HKK.out]
            rw [hms]
            obtain ⟨mm, hmm⟩ : ∃ mm : Int, ((4 * N - 2 * (3 * k) : Nat) : Int) = mm := ⟨_, rfl⟩
            have HMM := Lib.hid hmm
            rw [hmm]
            clear hk hkl hvk hsk hmk hck hkM hn hms hmm
            go_wp2
            go_roundw
            case rel =>
              exact ⟨3, by decide, by go_num, by rw [Nat.add_zero, HKK.out]; exact HKL.out, rfl, by rw [Nat.add_zero, HKK.out]; exact HVK.out, by rw [← HMM.out, Nat.add_zero], HSK2.out.congr (fun s i _ _ => cnTo_row bs k 2 s i) (cnTo_le bs k 3 0), HMK.out⟩
            case measure => simp [intOf]
      · go_wp2
        go_loopw [1, 5, 8] (fun v1 v5 i W => ∃ k : Nat, k ≤ M ∧ FlAt n₀ bs G b N M w 3 k v1 v5 i W) (fun _ _ i _ => 2 * M - (intOf i).toNat)
        case atStart => exact ⟨0, Nat.zero_le _, HF0.out⟩
        case round =>
          obtain ⟨k, hk, hkl, rfl, hvk, rfl, hsk, hmk⟩ := hrel
          obtain ⟨ak, ck, rfl, hck, _⟩ := id hvk
          have HVK := Lib.hid hvk
          have HSK2 := Lib.hid hsk
          have HMK := Lib.hid hmk
          have HKL := Lib.hid hkl
          obtain ⟨n, hn⟩ : ∃ n, (bs.drop (3 * M + k)).length = n := ⟨_, rfl⟩
          have HNL : Hid (n = bs.length - (3 * M + k)) := by unfold Hid; rw [← hn, List.length_drop]
          rw [hn] at hck HVK ⊢
          by_cases hkM : k < M
          · have p1 : ((2 * k : Nat) : Int) < (N : Int) := by have := HM.out; omega
            by_cases hn0 : n = 0
            · subst hn0
              have m0 : ¬ (((4 * N - 2 * (3 * M + k) : Nat) : Int) = 0) := by have := HM.out; omega
              have m1 : (((4 * N - 2 * (3 * M + k) : Nat) : Int) == 0) = false := beq_eq_false_iff_ne.2 m0
              have HD : Hid (decide (bs.length = 2 * N) = false) := decide_eq_false (by have := HM.out; have := HNL.out; omega)
              have HD2 : Hid (¬ bs.length = 2 * N) := by have h9 := HM.out; have h8 := HNL.out; exact fun e => by omega
              obtain ⟨mm, hmm⟩ : ∃ mm : Int, ((4 * N - 2 * (3 * M + k) : Nat) : Int) = mm := ⟨_, rfl⟩
              rw [hmm] at m0 m1 ⊢
              clear hk hkl hvk hsk hmk hck hn hmm
              go_wp2
              (try rw [Exit.noGoto_ret])
              go_ret
              exact ⟨by rw [HD.out]; rfl, ⟨_, HSK2.out, fun e => (HD2.out e).elim⟩, HMK.out⟩
            · have htl : 3 * M + k < bs.length := by have := HNL.out; omega
              obtain ⟨x, hx⟩ : ∃ x, bs[3 * M + k]?.getD 0 = x := ⟨_, rfl⟩
              obtain ⟨g, off, rfl, hg, q1, hsuf⟩ := fill_first HVK.out hn0 (show (bs.drop (3 * M + k))[0]?.getD 0 = x by rw [← hx]; simp)
              have hxa := fill_and x
              have hxb := fill_shr x
              have HPR := Lib.hid (cnTo_pair bs (M := M) (r := 3) (k := k) (by decide) hkM)
              rw [hx] at HPR
              obtain ⟨m1, hm1⟩ : ∃ m1, x.toNat % 16 = m1 := ⟨_, rfl⟩
              obtain ⟨m2, hm2⟩ : ∃ m2, x.toNat / 16 = m2 := ⟨_, rfl⟩
              have M1 : Hid (m1 ≤ 15) := by unfold Hid; omega
              have M2 : Hid (m2 ≤ 15) := by unfold Hid; have := x.isLt; omega
              rw [hm1] at hxa HPR
              rw [hm2] at hxb HPR
              clear hm1 hm2
              have n1 : (1 : Int) ≤ n := by omega
              have n2 : (0 : Int) < n := by omega
              have n3 : 0 < n := by omega
              have c1 : (1 : Int) ≤ ck := by omega
              have HSF : Hid (∀ W', Below n₀ wr W' → BytesAt n₀ W' (.slice (if ck = 1 then some ⟨g, off, none⟩ else some ⟨g, off + 1, none⟩) (n - 1) (ck - 1)) (bs.drop (3 * M + (k + 1)))) := fun W' hb => by
                have := (hsuf.below hb)
                rwa [List.drop_drop, Nat.add_assoc] at this
              have HBR := Lib.hid (HB.out 3 (by decide))
              have HG := Lib.hid hg
              have p2 : ((2 * k + 1 : Nat) : Int) < (N : Int) := by have := HM.out; omega
              have HTL := Lib.hid htl
              have HKM := Lib.hid hkM
              have HCK := Lib.hid hck
              have q2 : wr.drew.frozen? ⟨b 3, 2 * k, none⟩ = false := blk_frozen (show wr.drew.heap[b 3]? = _ from hsk.row 3 (by decide)) _
              have q1' : wr.drew.cell? ⟨g, off, none⟩ = some (.int .u8 (U x)) := q1
              have q5 : wr.drew.cell? ⟨b 3, 2 * k, none⟩ = some (.int .u8 ((cnTo bs M 3 k 3 (2 * k) : Nat) : Int)) := hsk.count (by decide) (by have := HM.out; omega)
              have q6 : (wr.setCell ⟨b 3, 2 * k, none⟩ (.int .u8 (m1 : Int))).drew.cell? ⟨b 3, 2 * k + 1, none⟩ = some (.int .u8 ((cnTo bs M 3 k 3 (2 * k + 1) : Nat) : Int)) := fill_other (show wr.drew.heap[b 3]? = _ from hsk.row 3 (by decide)) (by have := HM.out; omega) (.int .u8 (m1 : Int))
              have hrow : (wr.setCell ⟨b 3, 2 * k, none⟩ (.int .u8 (m1 : Int))).drew.frozen? ⟨b 3, 2 * k + 1, none⟩ = false := blk_frozen (blk_set (show wr.drew.heap[b 3]? = _ from hsk.row 3 (by decide)) _ _) _
              obtain ⟨mm, hmm⟩ : ∃ mm : Int, ((4 * N - 2 * (3 * M + k) : Nat) : Int) = mm := ⟨_, rfl⟩
              obtain ⟨mm2, hmm2⟩ : ∃ mm : Int, ((4 * N - 2 * (3 * M + (k + 1)) : Nat) : Int) = mm := ⟨_, rfl⟩
              have em : wrap64 (mm - 2) = mm2 := by
                have h9 := HM.out
                rw [← hmm, ← hmm2, IntWalk.wrap64_in _ ⟨by omega, by omega⟩]; omega
              have HM2 := Lib.hid hmm2
              rw [hmm]
              clear hk hkl hvk hsk hmk hck hn hn0 htl hkM q1 hsuf hx hg hmm hmm2
              obtain ⟨K2, hK2⟩ : ∃ K2, 2 * k = K2 := ⟨_, rfl⟩
              rw [hK2] at q2 q5 q6 hrow p1 p2 ⊢
              have HK2 := Lib.hid hK2
              obtain ⟨f0, f1, f2, f3, f4⟩ := idx_facts (K := K2) (N := N) (by omega) HN.out.2
              have f5 : wrap64 ((K2 : Int) + 2) = (K2 : Int) + 2 := IntWalk.wrap64_in _ ⟨by omega, by have := HN.out.2; omega⟩
              clear hK2
              have HS1 : Hid ((wr.drew.setCell ⟨b 3, K2, none⟩ (.int .u8 (m1 : Int))).cell? ⟨g, off, none⟩ = some (.int .u8 (U x))) := ((Below.refl n₀ wr.drew).setCell (p := ⟨b 3, K2, none⟩) HBR.out _).cell (p := ⟨g, off, none⟩) HG.out |>.trans q1'
              have HS2 : Hid (((wr.drew.setCell ⟨b 3, K2, none⟩ (.int .u8 (m1 : Int))).setCell ⟨b 3, K2 + 1, none⟩ (.int .u8 (m2 : Int))).cell? ⟨g, off, none⟩ = some (.int .u8 (U x))) := (((Below.refl n₀ wr.drew).setCell (p := ⟨b 3, K2, none⟩) HBR.out _).setCell (p := ⟨b 3, K2 + 1, none⟩) HBR.out _).cell (p := ⟨g, off, none⟩) HG.out |>.trans q1'
              have HQ1 := Lib.hid q1'
              clear q1'
              go_wp2
              go_region_held3 (fun (W : World) => W.cell? ⟨g, off, none⟩ = some (.int .u8 (U x)))
                (first | exact HQ1.out | exact HS1.out | exact HS2.out)
                (fail)
              have hsF := ((HSK2.out.put (r := 3) (j := K2) (v := m1) (by decide) M1.out).put (r := 3) (j := K2 + 1) (v := m2) (by decide) M2.out).drewN 1
              have hmF : Moves (SkS G b) w ((wr.setCell ⟨b 3, K2, none⟩ (.int .u8 (m1 : Int))).setCell ⟨b 3, K2 + 1, none⟩ (.int .u8 (m2 : Int))).drew := ((HMK.out.setCell (p := ⟨b 3, K2, none⟩) (fun _ => .inr ⟨3, by decide, rfl⟩) _).setCell (p := ⟨b 3, K2 + 1, none⟩) (fun _ => .inr ⟨3, by decide, rfl⟩) _).drew
              have hbF : Below n₀ wr ((wr.setCell ⟨b 3, K2, none⟩ (.int .u8 (m1 : Int))).setCell ⟨b 3, K2 + 1, none⟩ (.int .u8 (m2 : Int))).drew := (((Below.refl n₀ wr).setCell (p := ⟨b 3, K2, none⟩) HBR.out _).setCell (p := ⟨b 3, K2 + 1, none⟩) HBR.out _).drew
              have HSF1 := Lib.hid (HSF.out _ hbF)
              have HSKF : Hid (SkAt ((wr.setCell ⟨b 3, K2, none⟩ (.int .u8 (m1 : Int))).setCell ⟨b 3, K2 + 1, none⟩ (.int .u8 (m2 : Int))).drew G b N 0 (cnTo bs M 3 (k + 1))) := hsF.congr (fun s i _ _ => by rw [HPR.out s i, HK2.out]) (cnTo_le bs M 3 (k + 1))
              have HMF := Lib.hid hmF
              obtain ⟨wf, hwf⟩ : ∃ wf, ((wr.setCell ⟨b 3, K2, none⟩ (.int .u8 (m1 : Int))).setCell ⟨b 3, K2 + 1, none⟩ (.int .u8 (m2 : Int))).drew = wf := ⟨_, rfl⟩
              rw [hwf] at HSF1 HSKF HMF ⊢
              clear hsF hmF hbF hwf q2 q5 q6 hrow
              by_cases hc1 : ck = 1
              · rw [if_pos hc1] at HSF1
                subst hc1
                have hn1 : n = 1 := Nat.le_antisymm HCK.out n3
                subst hn1
                go_wp2
                exact ⟨⟨_, _, _, ⟨k + 1, HKM.out, HTL.out, fill_here HK2.out, HSF1.out, by rw [HM2.out], HSKF.out, HMF.out⟩, rfl, rfl, rfl⟩, fill_measure HKM.out HK2.out⟩
              · rw [if_neg hc1] at HSF1
                have hc2 : ¬ (1 = ck) := fun e => hc1 e.symm
                go_wp2
                refine ⟨?_, ?_⟩
                · (repeat apply Exists.intro)
                  exact ⟨⟨k + 1, HKM.out, HTL.out, (congrArg (Value.int .i64) f5).trans (fill_here HK2.out), HSF1.out, (congrArg (Value.int .i64) em).trans (by rw [HM2.out]), HSKF.out, HMF.out⟩, by rw [HE4.out]; rfl⟩
                · have h9 := fill_measure HKM.out HK2.out
                  rw [← f5] at h9
                  exact h9
          · obtain rfl : k = M := by omega
            have p1 : ((2 * k : Nat) : Int) = (N : Int) := by have := HM.out; omega
            rw [p1]
            have HKK : Hid (4 * k = 3 * k + k) := by unfold Hid; omega
            have hms : ((4 * N - 2 * (3 * k + k) : Nat) : Int) = ((4 * N - 2 * (4 * k) : Nat) : Int) := by rw [HKK.out]
            rw [hms]
            obtain ⟨mm, hmm⟩ : ∃ mm : Int, ((4 * N - 2 * (4 * k) : Nat) : Int) = mm := ⟨_, rfl⟩
            have HMM := Lib.hid hmm
            rw [hmm]
            clear hk hkl hvk hsk hmk hck hkM hn hms hmm
            go_wp2
            go_roundw
            case rel =>
              exact ⟨4, by decide, by go_num, by rw [Nat.add_zero, HKK.out]; exact HKL.out, rfl, by rw [Nat.add_zero, HKK.out]; exact HVK.out, by rw [← HMM.out, Nat.add_zero], HSK2.out.congr (fun s i _ _ => cnTo_row bs k 3 s i) (cnTo_le bs k 4 0), HMK.out⟩
            case measure => simp [intOf]
    · obtain rfl : r = 4 := by omega
      have hm0 : ms = 0 := by rw [← hms]; have := HM.out; omega
      subst hm0
      obtain ⟨n, hn⟩ : ∃ n, (bs.drop (4 * M + 0)).length = n := ⟨_, rfl⟩
      have HNL : Hid (n = bs.length - 4 * M) := by unfold Hid; rw [← hn, List.length_drop]; rfl
      have HSR := Lib.hid hsr
      have HMR := Lib.hid hmr
      have HRL := Lib.hid hrl
      rw [hn]
      clear hvr hsr hmr hr d0 d1 d2 d3 hrl hcr hms hn h4 HF0
      by_cases hn0 : n = 0
      · subst hn0
        have HD : Hid (bs.length = 2 * N) := by unfold Hid; have := HM.out; have := HNL.out; have := HRL.out; omega
        go_wp2
        (try rw [Exit.noGoto_ret])
        go_ret
        exact ⟨by rw [decide_eq_true HD.out]; rfl, ⟨_, HSR.out, fun _ => rfl⟩, HMR.out⟩
      · have HD : Hid (¬ bs.length = 2 * N) := by unfold Hid; have := HM.out; have := HNL.out; have := HRL.out; omega
        have n1 : ((n : Int) == 0) = false := beq_eq_false_iff_ne.2 (by omega)
        go_wp2
        (try rw [Exit.noGoto_ret])
        go_ret
        exact ⟨by rw [decide_eq_false HD.out]; rfl, ⟨_, HSR.out, fun e => (HD.out e).elim⟩, HMR.out⟩
end
end Go.Proofs.Ytalgkiagdjckiaa

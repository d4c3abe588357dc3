/-
  Proved: all numbers are taken, each once, before it is told that there is none; freed ones are told again, and no others. Whatever number and numbers come in, the law BitsAll answers true and the arguments read as they did. The package-level variable math/bits.deBruijn64tab is listed and tied to the program's text.
  Conditions: none.
-/
import Derived.Test.YtpljbjceokoeiaaDoorTaken2
import Derived.Test.YtpljbjceokoeiaaDoorBitsAllM
import Derived.Test.YtpljbjceokoeiaaDoorBools
import Derived.Test.YtpljbjceokoeiaaDoorLawD
import Derived.Test.YtpljbjceokoeiaaDoorCards
import Derived.Test.YtpljbjceokoeiaaDoorTie
namespace Go.Proofs.YtpljbjceokoeiaaDoor
open Go.ChangeShapes Go.WideShapes Go.ChangeAt Go.RowKit

theorem IntsAt.cellN {w : World} {a : Option Addr} {n c : Nat} {l : List Int} (h : IntsAt n w (.slice a l.length c) l) {i : Nat} (hi : i < l.length) : ∃ g off, a = some ⟨g, off, none⟩ ∧ g < n ∧ w.cell? ⟨g, off + i, none⟩ = some (.int .i64 (l[i]?.getD 0)) := h.get hi
set_option maxRecDepth 100000 in
set_option maxHeartbeats 8000000 in
theorem bitsAll_walk (n : BitVec 16) (l : List Int) (v : Value) (w : World) (hv : IntsAt w.heap.size w v l) (hm : l.length ≤ maxLen) (hT : Tab w) : Calls Tryd.prog 4 #[.int .u16 (U n), v] w (Good w) := by
  unfold maxLen at hm
  obtain ⟨a, cap, rfl⟩ := hv.slice
  by_cases hbig : 100 < l.length
  · have b1 : (100 : Int) < l.length := by omega
    clear hv hT
    go_enter Tryd.func4, Tryd.ntmps4
    go_wp2
    go_ret
    exact ⟨rfl, Below.refl _ _⟩
  have b1 : (l.length : Int) ≤ 100 := by omega
  have b2 : decide (100 < l.length) = false := by simpa using hbig
  have n0 := U_nonneg n
  have n1 : U n < 65536 := by have := U_lt n; simpa using this
  obtain ⟨N, hN⟩ : ∃ N : Nat, U n = (N : Int) := ⟨n.toNat, rfl⟩
  rw [hN] at n0 n1 ⊢
  have n2 : (N : Int) ≤ 65535 := by omega
  clear hN n0 n1
  obtain ⟨m, hmm⟩ : ∃ m : Nat, (N : Int) % 1000 + 1 = (m : Int) := ⟨N % 1000 + 1, by omega⟩
  have m1 : 1 ≤ m := by omega
  have m2 : m ≤ 1000 := by omega
  have HM := Lib.hid hmm
  have HN := Lib.hid (new_any w.heap.size m ⟨m1, by omega⟩ w (Nat.le_refl _))
  have HMKB := Lib.hid (fun W => makeBools m (by omega) W)
  have HV := Lib.hid hv
  have HT := Lib.hid hT
  clear hmm hbig hv hT hm b2
  go_enter Tryd.func4, Tryd.ntmps4
  go_upto_region 4 with (fail)
  rw [HM.out]
  have mm1 : (1 : Int) ≤ m := by omega
  have mm2 : (m : Int) ≤ 1000 := by omega
  go_upto_region 5 with (go_at_call 5; (with_reducible refine HN.out.mono ?_); rintro e w1 ⟨rfl, hb1, hw1⟩; have HB1 := Lib.hid hb1; have HW := Lib.hid hw1; clear hb1 hw1)
  obtain ⟨G, hG⟩ : ∃ G, w1.heap.size = G := ⟨_, rfl⟩
  have HU0 := Lib.hid (BoolsBlk.new w1 (List.replicate m false))
  have hba : Below w1.heap.size w1 (w1.alloc (.cells (bools (List.replicate m false)).toArray 4)) := (Below.refl _ _).alloc (Nat.le_refl _) _
  have HB2 := Lib.hid (HB1.out.same hba)
  have HW2 := Lib.hid (HW.out.trans (hba.mono HW.out.size))
  have HGS : Hid (w.heap.size + 1 < w1.heap.size) := HB1.out.dlt
  clear HB1 HW hba
  have hmk := HMKB.out w1
  go_upto_region 6 with (fail)
  change (Code.region _ _ _).wp _ _ _ (w1.alloc (.cells (bools (List.replicate m false)).toArray 4))
  generalize w1.alloc (.cells (bools (List.replicate m false)).toArray 4) = w2 at HU0 HB2 HW2 ⊢
  rw [hG] at HU0 HGS
  clear hG hmk
  go_wp2
  go_loopw [8, 9] (fun lv iv wr => ∃ (i left : Nat) (s : BSet) (L : List Bool), i ≤ l.length ∧ iv = .int .i64 i ∧ lv = .int .i64 left ∧ Hid (left + s.cnt = m) ∧ left ≤ 1000 ∧ Hid (UsedIs m s L) ∧ Hid (BitsAt w.heap.size wr (w.heap.size + 1) w.heap.size ((m + 63) / 64) s) ∧ Hid (BoolsBlk wr G L) ∧ Hid (Below w.heap.size w wr)) (fun _ iv _ => l.length - (intOf iv).toNat)
  case atStart => exact ⟨0, m, BSet.new m, _, Nat.zero_le _, rfl, rfl, by unfold Hid; rw [cnt_new]; rfl, m2, used_new m ⟨m1, by omega⟩, HB2.out, HU0.out, HW2.out⟩
  case round =>
    obtain ⟨i, left, s, L, hi, rfl, rfl, hls, hl1, hus, hb, hub, hB⟩ := hrel
    by_cases hlt : i < l.length
    · have i1 : (i : Int) < l.length := by omega
      obtain ⟨ga, off, rfl, hga, hc⟩ := HV.out.get hlt
      have HA : Hid (∀ W, Below w.heap.size w W → W.cell? ⟨ga, off + i, none⟩ = some (.int .i64 (l[i]?.getD 0))) := fun W hW => (hW.cell (p := ⟨ga, off + i, none⟩) hga).trans hc
      generalize l[i]?.getD 0 = x at HA
      have ca := HA.out _ hB.out
      have HMK := Lib.hid (mark_any hb.out x)
      have HLT := Lib.hid hlt
      have HMB : Hid (∀ W, Moves (fun k => k = w.heap.size + 1 ∨ k = w.heap.size) wr W → Below w.heap.size w W ∧ BoolsBlk W G L) := fun W hW => ⟨hB.out.trans (hW.below (fun j hj => by omega) hB.out.size), (hW.block G hub.out.lt (by have := HGS.out; omega)).trans hub.out⟩
      have HGW := Lib.hid hub.out.lt
      clear hc hlt
      cases hf : s.freeB x with
      | true =>
        obtain ⟨q, rfl, hq, hmq, hun, hcn⟩ := hus.out.marked hf
        rw [hf, hmq] at HMK
        have HUN := Lib.hid hun
        have HCN := Lib.hid hcn
        have HQ := Lib.hid hq
        have HLS : Hid (1 ≤ left) := by
          unfold Hid
          have h1 := hls.out
          have h2 := cnt_le (s.mark q)
          have h3 : (s.mark q).n = m := hun.n
          omega
        have q1 : (q : Int) < m := by omega
        have l1 : (1 : Int) ≤ left := by have := HLS.out; omega
        have HB3 : Hid (∀ W, BitsAt w.heap.size W (w.heap.size + 1) w.heap.size ((m + 63) / 64) (s.mark q) → Below w.heap.size w W → BoolsBlk W G L → BitsAt w.heap.size (W.setCell ⟨G, q, none⟩ (.bool true)) (w.heap.size + 1) w.heap.size ((m + 63) / 64) (s.mark q) ∧ BoolsBlk (W.setCell ⟨G, q, none⟩ (.bool true)) G (L.set q true) ∧ Below w.heap.size w (W.setCell ⟨G, q, none⟩ (.bool true))) := fun W h1 h2 h3 => by
          have hg := HGS.out
          have hm := (Moves.refl (fun k => k = G) W).setCell (p := ⟨G, q, none⟩) (fun _ => rfl) (.bool true)
          refine ⟨⟨h1.ok, (hm.block _ h1.dlt (by omega)).trans h1.blk, hm.row h1.row (fun k e h => ?_), h1.lo⟩, h3.put q true, h2.trans (hm.below (fun j hj => by omega) h2.size)⟩
          have : w.heap.size = k := by simpa [Value.ownBlock] using e
          omega
        clear hf hun hcn hq hus hmq hb hub hB
        go_wp2_with (go_at_call 10; (with_reducible refine HMK.out.mono ?_); rintro e w3 ⟨rfl, hb3, hm3⟩; obtain ⟨hB3, hU3⟩ := HMB.out _ hm3; have ca3 := HA.out _ hB3; have cf3 := blk_frozen hU3 q; have cu3 := hU3.cell (i := q) (by have := HUN.out.len; rw [List.length_set] at this; have := HQ.out; omega); have HE := Lib.hid (HB3.out _ hb3 hB3 hU3); clear hb3 hm3 hB3 hU3)
        go_roundw
        case rel =>
          have h1 := HCN.out
          have h2 := hls.out
          have h3 := HLS.out
          refine ⟨i + 1, left - 1, _, _, HLT.out, by go_num, by rw [show ((left - 1 : Nat) : Int) = (left : Int) - 1 by omega]; try rfl, by unfold Hid; omega, by omega, HUN.out, HE.out.1, HE.out.2.1, HE.out.2.2⟩
        case measure => have := HLT.out; simp [intOf]; omega
      | false =>
        have hmq : s.markI x = s := by unfold BSet.markI; rw [if_neg (by simp [hf])]
        rw [hf, hmq] at HMK
        clear hf hmq hub hB hb
        go_wp2_with (go_at_call 10; (with_reducible refine HMK.out.mono ?_); rintro e w3 ⟨rfl, hb3, hm3⟩; have HE := Lib.hid (HMB.out _ hm3); have HB4 := Lib.hid hb3; clear hb3 hm3)
        go_roundw
        case rel => exact ⟨i + 1, left, s, L, HLT.out, by go_num, rfl, hls, hl1, hus, HB4.out, HE.out.2, HE.out.1⟩
        case measure => have := HLT.out; simp [intOf]; omega
    · obtain rfl : i = l.length := by omega
      clear HV
      go_wp2
      go_loopw [8] (fun lv wr => ∃ (left : Nat) (s : BSet) (L : List Bool), lv = .int .i64 left ∧ Hid (left + s.cnt = m) ∧ left ≤ 1000 ∧ Hid (UsedIs m s L) ∧ Hid (BitsAt w.heap.size wr (w.heap.size + 1) w.heap.size ((m + 63) / 64) s) ∧ Hid (BoolsBlk wr G L) ∧ Hid (Below w.heap.size w wr)) (fun lv _ => (intOf lv).toNat)
      case atStart => exact ⟨left, s, L, rfl, hls, hl1, hus, hb, hub, hB⟩
      case round =>
        clear hls hl1 hus hb hub hB
        obtain ⟨left, s, L, rfl, hls, hl1, hus, hb, hub, hB⟩ := hrel
        have HMB : Hid (∀ W, Moves (fun k => k = w.heap.size + 1 ∨ k = w.heap.size) wr W → Below w.heap.size w W ∧ BoolsBlk W G L) := fun W hW => ⟨hB.out.trans (hW.below (fun j hj => by omega) hB.out.size), (hW.block G hub.out.lt (by have := HGS.out; omega)).trans hub.out⟩
        by_cases h0 : 0 < left
        · obtain ⟨q, hq, htr, hLq, hun, hcn⟩ := hus.out.took (by have := hls.out; omega)
          have HTK := take_any hb.out
          rw [htr] at HTK
          have HTK := Lib.hid HTK
          have HUN := Lib.hid hun
          have HCN := Lib.hid hcn
          have HQ := Lib.hid hq
          have HL0 := Lib.hid h0
          have q1 : (q : Int) < m := by omega
          have l1 : (1 : Int) ≤ left := by omega
          have HLQ : Hid (∀ W, BoolsBlk W G L → W.cell? ⟨G, q, none⟩ = some (.bool false)) := fun W hW => by
            have := hW.cell (i := q) (by rw [hus.out.len]; exact hq)
            rwa [hLq] at this
          have HB3 : Hid (∀ W, BitsAt w.heap.size W (w.heap.size + 1) w.heap.size ((m + 63) / 64) s.take → Below w.heap.size w W → BoolsBlk W G L → BitsAt w.heap.size (W.setCell ⟨G, q, none⟩ (.bool true)) (w.heap.size + 1) w.heap.size ((m + 63) / 64) s.take ∧ BoolsBlk (W.setCell ⟨G, q, none⟩ (.bool true)) G (L.set q true) ∧ Below w.heap.size w (W.setCell ⟨G, q, none⟩ (.bool true))) := fun W h1 h2 h3 => by
            have hg := HGS.out
            have hm := (Moves.refl (fun k => k = G) W).setCell (p := ⟨G, q, none⟩) (fun _ => rfl) (.bool true)
            refine ⟨⟨h1.ok, (hm.block _ h1.dlt (by omega)).trans h1.blk, hm.row h1.row (fun k e h => ?_), h1.lo⟩, h3.put q true, h2.trans (hm.below (fun j hj => by omega) h2.size)⟩
            have : w.heap.size = k := by simpa [Value.ownBlock] using e
            omega
          clear h0 hq htr hLq hun hcn hus hb hub hB
          go_wp2_with (go_at_call 16; (with_reducible refine HTK.out.mono ?_); rintro e w3 ⟨rfl, hb3, hm3⟩; obtain ⟨hB3, hU3⟩ := HMB.out _ hm3; have cf3 := blk_frozen hU3 q; have cu3 := HLQ.out _ hU3; have HE := Lib.hid (HB3.out _ hb3 hB3 hU3); clear hb3 hm3 hB3 hU3)
          go_roundw
          case rel =>
            have h1 := HCN.out
            have h2 := hls.out
            have h3 := HL0.out
            refine ⟨left - 1, _, _, by rw [show ((left - 1 : Nat) : Int) = (left : Int) - 1 by omega]; try rfl, by unfold Hid; omega, by omega, HUN.out, HE.out.1, HE.out.2.1, HE.out.2.2⟩
          case measure => have := HL0.out; simp [intOf]; omega
        · obtain rfl : left = 0 := by omega
          have hcm : s.cnt = m := by have := hls.out; omega
          obtain ⟨f1, f2, f3⟩ := hus.out.full hcm
          have hkm : N % m < m := Nat.mod_lt _ (by omega)
          obtain ⟨g1, g2, g3, g4, g5⟩ := hus.out.again hcm hkm
          have hkk : (N : Int) % (m : Int) = ((N % m : Nat) : Int) := by push_cast; rfl
          have hkb : ((N % m : Nat) : Int) ≤ 1000 := by omega
          generalize N % m = k at hkk hkb hkm g1 g2 g3 g4 g5
          have HTK := take_any hb.out
          rw [f1, f2] at HTK
          have HTK := Lib.hid HTK
          have HF3 := Lib.hid f3
          have HCA : Hid (∀ W, BitsAt w.heap.size W (w.heap.size + 1) w.heap.size ((m + 63) / 64) s → Calls Tryd.prog 18 #[.pointer (some ⟨w.heap.size + 1, 0, none⟩)] W fun e w' => e = .returned (.int .i64 m) ∧ W = w') := fun W hW => by
            have := count_any hW
            rwa [hcm] at this
          have HAA : Hid (∀ W, BitsAt w.heap.size W (w.heap.size + 1) w.heap.size ((m + 63) / 64) s → Below w.heap.size w W → Calls Tryd.prog 21 #[.pointer (some ⟨w.heap.size + 1, 0, none⟩)] W fun e w' => (∃ a c, e = .returned (.slice a m c)) ∧ BitsAt w.heap.size w' (w.heap.size + 1) w.heap.size ((m + 63) / 64) s ∧ Below w.heap.size w w') := fun W hW hb => (allB_any hW (HT.out.next hb)).mono fun e w' ⟨v, he, hv, h2⟩ => by
            obtain ⟨a, c, rfl⟩ := hv.slice
            rw [natInts_len, f3] at he
            exact ⟨⟨a, c, he⟩, hW.same h2, hb.trans (h2.mono hb.size)⟩
          have HC1 : Hid (∀ W, BitsAt w.heap.size W (w.heap.size + 1) w.heap.size ((m + 63) / 64) s → Calls Tryd.prog 12 #[.pointer (some ⟨w.heap.size + 1, 0, none⟩), .int .i64 k] W (BitsDid w.heap.size (w.heap.size + 1) w.heap.size ((m + 63) / 64) (s.clear k) (.bool true) W)) := fun W hW => by
            have := clear_any hW (k : Int)
            rwa [g1, g2] at this
          have HC2 : Hid (∀ W, BitsAt w.heap.size W (w.heap.size + 1) w.heap.size ((m + 63) / 64) (s.clear k) → Calls Tryd.prog 12 #[.pointer (some ⟨w.heap.size + 1, 0, none⟩), .int .i64 k] W (BitsDid w.heap.size (w.heap.size + 1) w.heap.size ((m + 63) / 64) (s.clear k) (.bool false) W)) := fun W hW => by
            have := clear_any hW (k : Int)
            rwa [g3, g4] at this
          have HH : Hid (∀ W, BitsAt w.heap.size W (w.heap.size + 1) w.heap.size ((m + 63) / 64) (s.clear k) → Calls Tryd.prog 13 #[.pointer (some ⟨w.heap.size + 1, 0, none⟩), .int .i64 k] W fun e w' => e = .returned (.bool false) ∧ ∃ n, w' = W.drewN n) := fun W hW => by
            have := has_any hW (k : Int)
            rwa [g3] at this
          have HT2 : Hid (∀ W, BitsAt w.heap.size W (w.heap.size + 1) w.heap.size ((m + 63) / 64) (s.clear k) → Calls Tryd.prog 16 #[.pointer (some ⟨w.heap.size + 1, 0, none⟩)] W (BitsDid w.heap.size (w.heap.size + 1) w.heap.size ((m + 63) / 64) (s.clear k).take (.tuple #[.int .i64 k, .bool true]) W)) := fun W hW => by
            have := take_any hW
            rwa [g5] at this
          have HBL : Hid (∀ W W', Below w.heap.size w W → Moves (fun k => k = w.heap.size + 1 ∨ k = w.heap.size) W W' → Below w.heap.size w W') := fun W W' h1 h2 => h1.trans (h2.below (fun j hj => by omega) h1.size)
          have HB0 := hB
          clear f1 f2 f3 g1 g2 g3 g4 g5 hcm hkm hus hb hub hB HMB hls HGS h0
          go_wp2_with (first
            | (go_at_call 16; (with_reducible refine HTK.out.mono ?_); rintro e w3 ⟨rfl, hb3, hm3⟩; have HB3 := Lib.hid hb3; have HW3 := Lib.hid (HBL.out _ _ HB0.out hm3); clear hb3 hm3 HTK)
            | (go_at_call 18; (with_reducible refine (HCA.out _ HB3.out).mono ?_); rintro e w4 ⟨rfl, rfl⟩)
            | (go_at_call 21; (with_reducible refine (HAA.out _ HB3.out HW3.out).mono ?_); rintro e w5 ⟨⟨a5, c5, rfl⟩, hb5, hw5⟩; have HB5 := Lib.hid hb5; have HW5 := Lib.hid hw5; clear hb5 hw5)
            | (go_at_call 12; (with_reducible refine (HC1.out _ HB5.out).mono ?_); rintro e w6 ⟨rfl, hb6, hm6⟩; have HB6 := Lib.hid hb6; have HW6 := Lib.hid (HBL.out _ _ HW5.out hm6); clear hb6 hm6 HC1)
            | (go_at_call 13; (with_reducible refine (HH.out _ HB6.out).mono ?_); rintro e w7 ⟨rfl, n7, rfl⟩; have HB7 := Lib.hid (HB6.out.drewN n7))
            | (go_at_call 12; (with_reducible refine (HC2.out _ HB7.out).mono ?_); rintro e w8 ⟨rfl, hb8, hm8⟩; have HB8 := Lib.hid hb8; have HW8 := Lib.hid (HBL.out _ _ HW6.out (((Moves.refl _ _).drewN n7).trans hm8 (fun _ _ h => h))); clear hb8 hm8)
            | (go_at_call 16; (with_reducible refine (HT2.out _ HB8.out).mono ?_); rintro e w9 ⟨rfl, hb9, hm9⟩; have HW9 := Lib.hid (HBL.out _ _ HW8.out hm9); clear hb9 hm9)
            | (go_at_call 7; (with_reducible refine (awake07 _).mono ?_); rintro e w10 ⟨rfl, hb10⟩))
          go_ret
          exact ⟨rfl, HW9.out.trans (hb10.mono HW9.out.size)⟩

set_option maxRecDepth 100000 in
theorem bitsAll_door (os : Os) (args : Array Value) : laidMetH Tryd.prog Rows.bitsAllRow.laid ((World.doorLaid Tryd.prog 400 os).forCall (fun _ _ => 0) ⟨#[], args, []⟩).memory :=
  laidMetH_of_parts3 (fuel := 8) (laidMet_of_run' 8 (by kernel_rfl) (by kernel_rfl)) (by kernel_rfl) (by kernel_rfl)
set_option maxRecDepth 100000 in
theorem bitsAll_lifted (os : Os) (started : os.Started) (H : Type) (enc : TypeId × Value → H) :
    ReturnsInHanded {} Tryd.checked os 4 .any (fun w args => (Rows.bitsAllSpec.pre enc Tryd.prog Tryd.f4 [] false w args ∧ laidMetH Tryd.prog Rows.bitsAllRow.laid w) ∧ sizedMet enc Tryd.prog Tryd.f4 (OpenSpec.ofChange Rows.bitsAllSpec) false w args) (Rows.bitsAllSpec.post enc Tryd.prog Tryd.f4 false true false false) :=
  law_lifted_laid 4 Tryd.f4 Rows.bitsAllSpec Rows.bitsAllRow.laid Tryd.func4 (by kernel_rfl) rfl rfl
    (fun ds h => by match ds, h with | [_, _], _ => rfl) (by kernel_rfl) os started
    (ChangeSpec.witness_shaped (enc := enc) (C := Tryd.checked) (os := os) (X := fun w _ => laidMetH Tryd.prog Rows.bitsAllRow.laid w) false (World.doorLaid Tryd.prog 400 os) #[.int .u16 0, .slice none 0 0] 8 rfl (World.shaped_of_RefB (by kernel_rfl) (by kernel_rfl)) (by kernel_rfl) (by kernel_rfl) (by kernel_rfl) (bitsAll_door os _))
    fun W args ds ps hval hL hA => by
      rw [Tryd.params4] at hA hval
      obtain ⟨v0, vs0, d0, ds0, p0, q0, hargs, rfl, rfl, h0, r0⟩ := trodAll_cons hA
      obtain ⟨v1, vs1, d1, ds1, p1, q1, rfl, rfl, rfl, h1, r1⟩ := trodAll_cons r0
      obtain ⟨rfl, rfl, rfl⟩ := trodAll_nil r1
      obtain rfl : args = #[v0, v1] := by cases args; simp_all
      obtain ⟨b0, o0⟩ := hval 0 _ v0 rfl rfl
      obtain ⟨b1, o1⟩ := hval 1 _ v1 rfl rfl
      obtain ⟨a0, rfl, rfl, rfl, w0⟩ := open_int Tryd.underlying47 o0 h0
      obtain ⟨x0, rfl⟩ := wf_u16 w0
      obtain ⟨l1, hb1, hm1⟩ := open_ints1 o1 h1
      exact bitsAll_walk x0 l1 _ W hb1 hm1.1 (tab_laid hL)

theorem bitsAll_row : Rows.BitsAllSaid :=
  OpenClaim.holds_of_wide 4 Tryd.f4 rfl rfl rfl rfl rfl rfl rfl ⟨rfl, rfl, rfl, rfl, rfl⟩ rfl rfl rfl rfl rfl (by kernel_rfl) Tryd.func4 (by kernel_rfl)
    (of_decide_eq_true (by kernel_rfl)) (by unfold Func.isWrapper; first | (rw [if_pos (by decide +kernel)]; kernel_rfl) | (rw [if_neg (by decide +kernel)]; exact ⟨rfl, rfl⟩))
    (fun os started H enc _ => bitsAll_lifted os started H enc)
set_option maxRecDepth 100000 in
/-- The statement. -/
theorem bitsAll_holds : Rows.BitsAllCardSaid :=
  Claim7.holds_tied_plain_at .later [] [.data] true Rows.bitsAllCard.stood.harness Rows.bitsAllCard.stood.looks
    bitsAll_row (fun _ h => by cases h) (by kernel_rfl) (fun _ h => by cases h) bitsAll_row_tie rfl ⟨rfl, rfl⟩ (by kernel_rfl) rfl
    (fun f fn hf hfn => by
      obtain rfl : f = 4 := Option.some.inj ((show Tryd.prog.funcNamed "sgraffito/sgraffitolaw07.BitsAll" = some 4 by kernel_rfl).symm.trans hf) |>.symm
      obtain rfl : fn = Tryd.f4 := (Option.some.inj (Tryd.func4.symm.trans hfn)).symm
      exact ⟨by kernel_rfl, fun j t ht => by
        rw [Tryd.params4] at ht
        have hm : t ∈ [47, 42] := by simpa using Array.mem_of_getElem? ht
        have hall : ([47, 42].all fun u => !Tryd.prog.wantsStandIn u) = true := by kernel_rfl
        exact (show Tryd.prog.wantsStandIn t = false by simpa using List.all_eq_true.1 hall t hm)⟩)
    (by kernel_rfl)
#print axioms bitsAll_holds

end Go.Proofs.YtpljbjceokoeiaaDoor

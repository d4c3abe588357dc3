/-
  What the verifier's own answers of layer 2 are: a number scrambled, a key's number, the highest bits of a number.
  Conditions: none.
-/
import Derived.Test.YtiilgfgkapgoeaaRefBits
import Derived.Test.YtiilgfgkapgoeaaMixHashM
import Derived.Deep.DeepCutAuto
import Derived.Deep.RegionHeld3
import Derived.Outline
namespace Go.Proofs.Ytiilgfgkapgoeaa
open Go.RowKit

set_option maxRecDepth 100000 in
set_option maxHeartbeats 1000000 in
theorem refScramble_any (x : BitVec 64) (w : World) : Calls Try.prog 6 #[.int .u64 (U x)] w fun e w' => e = .returned (.int .u64 (U (scr x))) ∧ Below w.heap.size w w' := by
  obtain ⟨y1, hy1⟩ : ∃ y, y = x ^^^ x >>> 30 := ⟨_, rfl⟩
  obtain ⟨z1, hz1⟩ : ∃ z, z = y1 * BitVec.ofInt 64 13787848793156543929 := ⟨_, rfl⟩
  obtain ⟨y2, hy2⟩ : ∃ y, y = z1 ^^^ z1 >>> 27 := ⟨_, rfl⟩
  obtain ⟨z2, hz2⟩ : ∃ z, z = y2 * BitVec.ofInt 64 10723151780598845931 := ⟨_, rfl⟩
  obtain ⟨y3, hy3⟩ : ∃ y, y = z2 ^^^ z2 >>> 31 := ⟨_, rfl⟩
  have HS : Hid (scr x = y3) := by show _ = _; rw [hy3, hz2, hy2, hz1, hy1]; rfl
  have HO := Lib.hid (fun x W => bitsOf_any x W)
  have HN := Lib.hid (fun x W => bitsNumber_any x W)
  have D1 := Lib.hid (fun W => (hy1 ▸ bitsDown_any x 30 (by omega) W : Calls Try.prog 13 #[.agg (BA x), .int .i64 30] W fun e w' => e = .returned (.agg (BA y1)) ∧ Below W.heap.size W w'))
  have D2 := Lib.hid (fun W => (hy2 ▸ bitsDown_any z1 27 (by omega) W : Calls Try.prog 13 #[.agg (BA z1), .int .i64 27] W fun e w' => e = .returned (.agg (BA y2)) ∧ Below W.heap.size W w'))
  have D3 := Lib.hid (fun W => (hy3 ▸ bitsDown_any z2 31 (by omega) W : Calls Try.prog 13 #[.agg (BA z2), .int .i64 31] W fun e w' => e = .returned (.agg (BA y3)) ∧ Below W.heap.size W w'))
  have m1 := mul_u64 y1 13787848793156543929
  have m2 := mul_u64 y2 10723151780598845931
  rw [← hz1] at m1
  rw [← hz2] at m2
  have HB0 := Lib.hid (Below.refl w.heap.size w)
  rw [HS.out]
  clear HS hy1 hy2 hy3 hz1 hz2
  go_enter Try.func6, Try.ntmps6
  go_wp2_with (first
    | (go_at_call 14; (with_reducible refine (HO.out _ _).mono ?_); rintro e w1 ⟨rfl, hb⟩; have HB1 := Lib.hid (HB0.out.trans (hb.mono HB0.out.size)); clear hb HB0; have HB0 := HB1; clear HB1)
    | (go_at_call 12; (with_reducible refine (HN.out _ _).mono ?_); rintro e w1 ⟨rfl, hb⟩; have HB1 := Lib.hid (HB0.out.trans (hb.mono HB0.out.size)); clear hb HB0; have HB0 := HB1; clear HB1)
    | (go_at_call 13; (first | (with_reducible refine (D1.out _).mono ?_) | (with_reducible refine (D2.out _).mono ?_) | (with_reducible refine (D3.out _).mono ?_)); rintro e w1 ⟨rfl, hb⟩; have HB1 := Lib.hid (HB0.out.trans (hb.mono HB0.out.size)); clear hb HB0; have HB0 := HB1; clear HB1))
  go_ret
  exact ⟨rfl, HB0.out⟩

/-- A number's highest bits. -/
def topN (x : BitVec 64) (k : Nat) : Nat := (x >>> (64 - k)).toNat
theorem topN_zero (x : BitVec 64) : topN x 0 = 0 := by
  unfold topN
  rw [show x >>> (64 - 0) = 0#64 from BitVec.ushiftRight_eq_zero (Nat.le_refl _)]
  rfl
theorem topN_succ (x : BitVec 64) (k : Nat) (hk : k < 64) : topN x (k + 1) = 2 * topN x k + (if x.getLsbD (63 - k) then 1 else 0) := by
  have h := up_nat x (63 - k)
  have e1 : 64 - (k + 1) = 63 - k := by omega
  have e2 : 63 - k + 1 = 64 - k := by omega
  rw [e2] at h
  unfold topN
  rw [e1]
  exact h
theorem topN_lt (x : BitVec 64) (k : Nat) (hk : k ≤ 30) : topN x k < 1073741824 := by
  unfold topN
  rw [BitVec.toNat_ushiftRight, Nat.shiftRight_eq_div_pow]
  have h := x.isLt
  have h2 : 2 ^ 34 ≤ 2 ^ (64 - k) := Nat.pow_le_pow_right (by decide) (by omega)
  refine Nat.div_lt_of_lt_mul ?_
  have h3 : 2 ^ 34 * 1073741824 ≤ 2 ^ (64 - k) * 1073741824 := Nat.mul_le_mul_right _ h2
  have h4 : 2 ^ 34 * 1073741824 = 2 ^ 64 := by decide
  omega

theorem store1 (w : World) (x : BitVec 64) : (storeCells ⟨w.heap.size, 0, none⟩ (BA x).toList).run Try.prog (w.alloc (.cells (BA 0#64) 35)) = .ok () (w.alloc (.cells (BA x) 35)) := by
  rw [← World.setRow_alloc_new w (BA 0#64) (BA x)]
  exact run_storeAll (heap_alloc_new _ _) (by rw [BA_size, BA_size]) (MA_one 0 x x)

set_option maxRecDepth 100000 in
set_option maxHeartbeats 1000000 in
theorem refPrefix_in (x : BitVec 64) (b : Nat) (h1 : 1 ≤ b) (h2 : b ≤ 30) (w : World) : Calls Try.prog 10 #[.int .u64 (U x), .int .i64 b] w fun e w' => e = .returned (.int .i64 (topN x b)) ∧ Below w.heap.size w w' := by
  have hz := zeroBits
  have HO := Lib.hid (fun x W => bitsOf_any x W)
  have i1 : (1 : Int) ≤ b := by omega
  have i2 : (b : Int) ≤ 30 := by omega
  go_enter Try.func10, Try.ntmps10
  go_upto_region 4 with (first
    | (go_at_call 14; (with_reducible refine (HO.out _ _).mono ?_); rintro e w1 ⟨rfl, hb⟩; have HB1 := Lib.hid hb; clear hb; have hst := store1 w1 x))
  clear hst
  have hbw : Below w.heap.size w (w1.alloc (.cells (BA x) 35)) := HB1.out.alloc HB1.out.size _
  have hP : (w1.alloc (.cells (BA x) 35)).heap[w1.heap.size]? = some (.cells (BA x) 35 (0, 0)) := heap_alloc_new _ _
  change (Code.region _ _ _).wp _ _ _ (w1.alloc (.cells (BA x) 35))
  generalize w1.alloc (.cells (BA x) 35) = w2 at hbw hP ⊢
  generalize w1.heap.size = g at hP ⊢
  clear HB1
  have HP := Lib.hid hP
  have HB2 := Lib.hid hbw
  clear hP hbw HO hz
  go_wp2
  go_loopw [6, 7] (fun n i wr => ∃ k : Nat, k ≤ b ∧ i = .int .i64 k ∧ n = .int .i64 (topN x k) ∧ wr.heap[g]? = some (.cells (BA x) 35 (0, 0)) ∧ Below w.heap.size w wr) (fun _ i _ => b - (intOf i).toNat)
  case atStart => exact ⟨0, by omega, rfl, by rw [topN_zero]; rfl, HP.out, HB2.out⟩
  case round =>
    obtain ⟨k, hk, rfl, rfl, hT, hB⟩ := hrel
    clear HP HB2
    have k0 : (0 : Int) ≤ k := by omega
    by_cases hlt : k < b
    · have k1 : (k : Int) < b := by omega
      have hn := topN_lt x k (by omega)
      have c1 : wr.cell? ⟨g, 63 - k, none⟩ = some (.bool (x.getLsbD (63 - k))) := by rw [cell_of_row _ _ _ _ _ _ hT, BA_get _ _ (by omega)]
      have HT := Lib.hid hT
      have HS := Lib.hid (topN_succ x k (by omega))
      clear hT
      have k3 : (0 : Int) ≤ 63 - (k : Int) := by omega
      have k4 : (63 - (k : Int)).toNat = 63 - k := by omega
      have k6 : 63 - (k : Int) < 64 := by omega
      have k5 : IntKind.i64.wrap (63 - (k : Int)) = 63 - (k : Int) := by simp only [IntKind.wrap, IntKind.bits, IntKind.signed]; simp; omega
      generalize topN x k = q at hn HS
      have q0 : (0 : Int) ≤ q := by omega
      have q1 : (q : Int) < 1073741824 := by omega
      cases hb : x.getLsbD (63 - k) with
      | true =>
        rw [hb] at c1
        rw [hb, if_pos rfl] at HS
        clear hb
        go_wp2
        go_roundw
        case rel => exact ⟨k + 1, by omega, by go_num, by have := HS.out; go_num, HT.out, hB⟩
        case measure => simp [intOf]; omega
      | false =>
        rw [hb] at c1
        rw [hb, if_neg (by decide)] at HS
        clear hb
        go_wp2
        go_roundw
        case rel => exact ⟨k + 1, by omega, by go_num, by have := HS.out; go_num, HT.out, hB⟩
        case measure => simp [intOf]; omega
    · obtain rfl : k = b := by omega
      clear hT
      go_wp2
      go_ret
      exact ⟨rfl, hB⟩

set_option maxHeartbeats 1000000 in
theorem refPrefix_out (x : BitVec 64) (b : Int) (hb : b < 1 ∨ 30 < b) (w : World) : Calls Try.prog 10 #[.int .u64 (U x), .int .i64 b] w fun e w' => e = .returned (.int .i64 0) ∧ w = w' := by
  by_cases h1 : b < 1
  · clear hb
    go_enter Try.func10, Try.ntmps10
    go_wp2
    go_ret
    exact ⟨rfl, rfl⟩
  · have h2 : 30 < b := by omega
    clear hb
    go_enter Try.func10, Try.ntmps10
    go_wp2
    go_ret
    exact ⟨rfl, rfl⟩

theorem hold_use {f : Nat} {args : Array Value} {v : Value} (H : ∀ W, Calls Try.prog f args W fun e w' => e = .returned v ∧ Below W.heap.size W w') {w : World} {p : Addr} {c : Value} (hp : p.block < w.heap.size) (W : World) (h : Below w.heap.size w W ∧ W.cell? p = some c) :
    Calls Try.prog f args W fun e w' => e = .returned v ∧ (Below w.heap.size w w' ∧ w'.cell? p = some c) :=
  (H W).mono fun _ _ ⟨he, hb⟩ => ⟨he, h.1.trans (hb.mono h.1.size), (hb.cell (Nat.lt_of_lt_of_le hp h.1.size)).trans h.2⟩

set_option maxRecDepth 100000 in
set_option maxHeartbeats 4000000 in
theorem refHash_any (seed : BitVec 64) (key : List (BitVec 8)) (v : Value) (w : World) (hv : BytesAt w.heap.size w v key) (hl : key.length ≤ 1099511627776) :
    Calls Try.prog 8 #[.int .u64 (U seed), v] w fun e w' => e = .returned (.int .u64 (U (hash seed key))) ∧ Below w.heap.size w w' := by
  obtain ⟨a, cap, rfl, _, _, hv⟩ := hv
  have l1 : (key.length : Int) ≤ 1099511627776 := by omega
  have HO := Lib.hid (fun x W => bitsOf_any x W)
  have HO2 := Lib.hid (fun W => (show Calls Try.prog 14 #[.int .u64 14695981039346656037] W fun e w' => e = .returned (.agg (BA (BitVec.ofInt 64 14695981039346656037))) ∧ Below W.heap.size W w' from bitsOf_any (BitVec.ofInt 64 14695981039346656037) W))
  have HN := Lib.hid (fun x W => bitsNumber_any x W)
  have HA := Lib.hid (fun x y W => bitsApart_any x y W)
  have HSC := Lib.hid (fun x W => refScramble_any x W)
  have HH : Hid (hash seed key = scr (hashRun (seed ^^^ BitVec.ofInt 64 14695981039346656037) key + BitVec.ofInt 64 key.length)) := rfl
  have HB0 := Lib.hid (Below.refl w.heap.size w)
  obtain ⟨z0, hz0⟩ : ∃ z, BitVec.ofInt 64 14695981039346656037 = z := ⟨_, rfl⟩
  rw [hz0] at HO2 HH
  clear hz0
  obtain ⟨s0, hs0⟩ : ∃ s, seed ^^^ z0 = s := ⟨_, rfl⟩
  rw [hs0] at HH
  have HA0 := Lib.hid (fun W => (hs0 ▸ bitsApart_any seed z0 W : Calls Try.prog 16 #[.agg (BA seed), .agg (BA z0)] W fun e w' => e = .returned (.agg (BA s0)) ∧ Below W.heap.size W w'))
  clear hs0
  go_enter Try.func8, Try.ntmps8
  go_wp2_with (first
    | (go_at_call 14; (first | (with_reducible refine (HO2.out _).mono ?_) | (with_reducible refine (HO.out _ _).mono ?_)); rintro e w1 ⟨rfl, hb⟩; have HB1 := Lib.hid (HB0.out.trans (hb.mono HB0.out.size)); clear hb HB0; have HB0 := HB1; clear HB1)
    | (go_at_call 12; (with_reducible refine (HN.out _ _).mono ?_); rintro e w1 ⟨rfl, hb⟩; have HB1 := Lib.hid (HB0.out.trans (hb.mono HB0.out.size)); clear hb HB0; have HB0 := HB1; clear HB1)
    | (go_at_call 16; (with_reducible refine (HA0.out _).mono ?_); rintro e w1 ⟨rfl, hb⟩; have HB1 := Lib.hid (HB0.out.trans (hb.mono HB0.out.size)); clear hb HB0; have HB0 := HB1; clear HB1))
  clear HA0 HO2
  go_loopw [5, 6] (fun n i wr => ∃ k : Nat, k ≤ key.length ∧ i = .int .i64 k ∧ n = .int .u64 (U (hashRun s0 (key.take k))) ∧ Below w.heap.size w wr) (fun _ i _ => key.length - (intOf i).toNat)
  case atStart => exact ⟨0, Nat.zero_le _, rfl, rfl, HB0.out⟩
  case round =>
    obtain ⟨k, hk, rfl, rfl, hB⟩ := hrel
    clear HB0
    by_cases hlt : k < key.length
    · rcases hv with h | ⟨g, off, rfl, hg, hc⟩
      · subst h; simp at hlt
      have c1 := (hB.cell (p := ⟨g, off + k, none⟩) hg).trans (hc k hlt)
      have hgr : (⟨g, off + k, none⟩ : Addr).block < wr.heap.size := Nat.lt_of_lt_of_le hg hB.size
      have HT := Lib.hid (take_one key 0 k hlt)
      generalize key[k]?.getD 0 = b at c1 HT
      have HR := Lib.hid (hashRun_snoc s0 (key.take k) b)
      obtain ⟨q, hq⟩ : ∃ q, hashRun s0 (key.take k) = q := ⟨_, rfl⟩
      rw [hq] at HR ⊢
      clear hq
      have e1 := u8_u64 b
      have e2 := mul_u64 (q ^^^ b.setWidth 64) 1099511628211
      have HQ : Hid (hashStep q b = (q ^^^ b.setWidth 64) * BitVec.ofInt 64 1099511628211) := rfl
      have C1 := Lib.hid (hold_use (fun W => HO.out q W) hgr (c := .int .u8 (U b)))
      have C2 := Lib.hid (hold_use (fun W => HO.out (b.setWidth 64) W) hgr (c := .int .u8 (U b)))
      have C3 := Lib.hid (hold_use (fun W => HA.out q (b.setWidth 64) W) hgr (c := .int .u8 (U b)))
      generalize b.setWidth 64 = bw at e1 e2 C2 C3 HQ
      generalize q ^^^ bw = x at e2 C3 HQ
      have C4 := Lib.hid (hold_use (fun W => HN.out x W) hgr (c := .int .u8 (U b)))
      have k0 : (0 : Int) ≤ k := by omega
      have k1 : (k : Int) < key.length := by omega
      have HBB := Lib.hid hB
      clear hc hB HO HN HA
      go_wp2
      go_region_held3 (fun W => Below wr.heap.size wr W ∧ W.cell? ⟨g, off + k, none⟩ = some (.int .u8 (U b))) (first | assumption | exact ⟨(Below.refl _ _).drew, c1⟩) (first
        | (go_at_call 14; (first | (with_reducible refine (C1.out _ (by assumption)).mono ?_) | (with_reducible refine (C2.out _ (by assumption)).mono ?_)); rintro e w2 ⟨rfl, hb2⟩)
        | (go_at_call 16; (with_reducible refine (C3.out _ (by assumption)).mono ?_); rintro e w3 ⟨rfl, hb3⟩)
        | (go_at_call 12; (with_reducible refine (C4.out _ (by assumption)).mono ?_); rintro e w4 ⟨rfl, hb4⟩))
      all_goals go_wp2
      all_goals go_roundw
      case rel => exact ⟨k + 1, by omega, by go_num, by rw [HT.out, HR.out, HQ.out]; rfl, HBB.out.trans (hb4.1.mono HBB.out.size)⟩
      case measure => simp [intOf]; omega
    · obtain rfl : k = key.length := by omega
      rw [List.take_length]
      generalize hashRun s0 key = q at HH ⊢
      have e3 := add_u64 q (key.length : Int)
      generalize key.length = n at e3 HH l1
      generalize q + BitVec.ofInt 64 (n : Int) = z at e3 HH
      have HSZ := Lib.hid (fun W => HSC.out z W)
      have HBB := Lib.hid hB
      clear hv hB HO HN HA HSC
      go_wp2_with (go_at_call 6; (with_reducible refine (HSZ.out _).mono ?_); rintro e w5 ⟨rfl, hb5⟩)
      go_ret
      exact ⟨by rw [HH.out]; rfl, HBB.out.trans (hb5.mono HBB.out.size)⟩

end Go.Proofs.Ytiilgfgkapgoeaa

/-
  What the verifier's own answers of layer 2 are: a number scrambled, a key's number, the highest bits of a number.
  Conditions: none.
-/
import Derived.Test.YtpihncafmjbccaaRefBits
import Derived.Test.YtpihncafmjbccaaMixHashM
import Derived.Deep.DeepCutAuto
import Derived.Deep.RegionHeld3
import Derived.Outline
namespace Go.Proofs.Ytpihncafmjbccaa
open Go.RowKit

/-- A number's highest bits. -/
def topN (x : BitVec 64) (k : Nat) : Nat := (x >>> (64 - k)).toNat
theorem topN_zero (x : BitVec 64) : topN x 0 = 0 := by
  unfold topN
  rw [show x >>> (64 - 0) = 0#64 from BitVec.ushiftRight_eq_zero (Nat.le_refl _)]
  rfl
theorem topN_succ (x : BitVec 64) (k : Nat) (hk : k < 64) : topN x (k + 1) = 2 * topN x k + (if x.getLsbD (63 - k) then 1 else 0) := by
  have h := up_nat x (63 - k)
  have e1 : 64 - (k + 1) = 63 - k := by omega
  have e2 : 63 - k + 1 = 64 - k := by omega
  rw [e2] at h
  unfold topN
  rw [e1]
  exact h
theorem topN_lt (x : BitVec 64) (k : Nat) (hk : k ≤ 30) : topN x k < 1073741824 := by
  unfold topN
  rw [BitVec.toNat_ushiftRight, Nat.shiftRight_eq_div_pow]
  have h := x.isLt
  have h2 : 2 ^ 34 ≤ 2 ^ (64 - k) := Nat.pow_le_pow_right (by decide) (by omega)
  refine Nat.div_lt_of_lt_mul ?_
  have h3 : 2 ^ 34 * 1073741824 ≤ 2 ^ (64 - k) * 1073741824 := Nat.mul_le_mul_right _ h2
  have h4 : 2 ^ 34 * 1073741824 = 2 ^ 64 := by decide
  omega

theorem store1 (w : World) (x : BitVec 64) : (storeCells ⟨w.heap.size, 0, none⟩ (BA x).toList).run Try.prog (w.alloc (.cells (BA 0#64) 68)) = .ok () (w.alloc (.cells (BA x) 68)) := by
  rw [← World.setRow_alloc_new w (BA 0#64) (BA x)]
  exact run_storeAll (heap_alloc_new _ _) (by rw [BA_size, BA_size]) (MA_one 0 x x)

set_option maxRecDepth 100000 in
set_option maxHeartbeats 1000000 in
theorem refPrefix_in (x : BitVec 64) (b : Nat) (h1 : 1 ≤ b) (h2 : b ≤ 30) (w : World) : Calls Try.prog 21 #[.int .u64 (U x), .int .i64 b] w fun e w' => e = .returned (.int .i64 (topN x b)) ∧ Below w.heap.size w w' := by
  have hz := zeroBits
  have HO := Lib.hid (fun x W => bitsOf_any x W)
  have i1 : (1 : Int) ≤ b := by omega
  have i2 : (b : Int) ≤ 30 := by omega
  go_enter Try.func21, Try.ntmps21
  go_upto_region 4 with (first
    | (go_at_call 33; (with_reducible refine (HO.out _ _).mono ?_); rintro e w1 ⟨rfl, hb⟩; have HB1 := Lib.hid hb; clear hb; have hst := store1 w1 x))
  clear hst
  have hbw : Below w.heap.size w (w1.alloc (.cells (BA x) 68)) := HB1.out.alloc HB1.out.size _
  have hP : (w1.alloc (.cells (BA x) 68)).heap[w1.heap.size]? = some (.cells (BA x) 68 (0, 0)) := heap_alloc_new _ _
  change (Code.region _ _ _).wp _ _ _ (w1.alloc (.cells (BA x) 68))
  generalize w1.alloc (.cells (BA x) 68) = w2 at hbw hP ⊢
  generalize w1.heap.size = g at hP ⊢
  clear HB1
  have HP := Lib.hid hP
  have HB2 := Lib.hid hbw
  clear hP hbw HO hz
  go_wp2
  go_loopw [6, 7] (fun n i wr => ∃ k : Nat, k ≤ b ∧ i = .int .i64 k ∧ n = .int .i64 (topN x k) ∧ wr.heap[g]? = some (.cells (BA x) 68 (0, 0)) ∧ Below w.heap.size w wr) (fun _ i _ => b - (intOf i).toNat)
  case atStart => exact ⟨0, by omega, rfl, by rw [topN_zero]; rfl, HP.out, HB2.out⟩
  case round =>
    obtain ⟨k, hk, rfl, rfl, hT, hB⟩ := hrel
    clear HP HB2
    have k0 : (0 : Int) ≤ k := by omega
    by_cases hlt : k < b
    · have k1 : (k : Int) < b := by omega
      have hn := topN_lt x k (by omega)
      have c1 : wr.cell? ⟨g, 63 - k, none⟩ = some (.bool (x.getLsbD (63 - k))) := by rw [cell_of_row _ _ _ _ _ _ hT, BA_get _ _ (by omega)]
      have HT := Lib.hid hT
      have HS := Lib.hid (topN_succ x k (by omega))
      clear hT
      have k3 : (0 : Int) ≤ 63 - (k : Int) := by omega
      have k4 : (63 - (k : Int)).toNat = 63 - k := by omega
      have k6 : 63 - (k : Int) < 64 := by omega
      have k5 : IntKind.i64.wrap (63 - (k : Int)) = 63 - (k : Int) := by simp only [IntKind.wrap, IntKind.bits, IntKind.signed]; simp; omega
      generalize topN x k = q at hn HS
      have q0 : (0 : Int) ≤ q := by omega
      have q1 : (q : Int) < 1073741824 := by omega
      cases hb : x.getLsbD (63 - k) with
      | true =>
        rw [hb] at c1
        rw [hb, if_pos rfl] at HS
        clear hb
        go_wp2
        go_roundw
        case rel => exact ⟨k + 1, by omega, by go_num, by have := HS.out; go_num, HT.out, hB⟩
        case measure => simp [intOf]; omega
      | false =>
        rw [hb] at c1
        rw [hb, if_neg (by decide)] at HS
        clear hb
        go_wp2
        go_roundw
        case rel => exact ⟨k + 1, by omega, by go_num, by have := HS.out; go_num, HT.out, hB⟩
        case measure => simp [intOf]; omega
    · obtain rfl : k = b := by omega
      clear hT
      go_wp2
      go_ret
      exact ⟨rfl, hB⟩

set_option maxHeartbeats 1000000 in
theorem refPrefix_out (x : BitVec 64) (b : Int) (hb : b < 1 ∨ 30 < b) (w : World) : Calls Try.prog 21 #[.int .u64 (U x), .int .i64 b] w fun e w' => e = .returned (.int .i64 0) ∧ w = w' := by
  by_cases h1 : b < 1
  · clear hb
    go_enter Try.func21, Try.ntmps21
    go_wp2
    go_ret
    exact ⟨rfl, rfl⟩
  · have h2 : 30 < b := by omega
    clear hb
    go_enter Try.func21, Try.ntmps21
    go_wp2
    go_ret
    exact ⟨rfl, rfl⟩

theorem hold_use {f : Nat} {args : Array Value} {v : Value} (H : ∀ W, Calls Try.prog f args W fun e w' => e = .returned v ∧ Below W.heap.size W w') {w : World} {p : Addr} {c : Value} (hp : p.block < w.heap.size) (W : World) (h : Below w.heap.size w W ∧ W.cell? p = some c) :
    Calls Try.prog f args W fun e w' => e = .returned v ∧ (Below w.heap.size w w' ∧ w'.cell? p = some c) :=
  (H W).mono fun _ _ ⟨he, hb⟩ => ⟨he, h.1.trans (hb.mono h.1.size), (hb.cell (Nat.lt_of_lt_of_le hp h.1.size)).trans h.2⟩

end Go.Proofs.Ytpihncafmjbccaa

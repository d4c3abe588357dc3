/-
  What the verifier's own answers of layer 2 are: a number scrambled, a key's number, the highest bits of a number.
  Conditions: none.
-/
import Derived.Test.YtalgkiagdjckiaaRefBits
import Derived.Test.YtalgkiagdjckiaaMixHashM
import Derived.Deep.DeepCutAuto
import Derived.Deep.RegionHeld3
import Derived.Outline
namespace Go.Proofs.Ytalgkiagdjckiaa
open Go.RowKit

set_option maxRecDepth 100000 in
set_option maxHeartbeats 1000000 in
theorem refScramble_any (x : BitVec 64) (w : World) : Calls Try.prog 34 #[.int .u64 (U x)] w fun e w' => e = .returned (.int .u64 (U (scr x))) ∧ Below w.heap.size w w' := by
  obtain ⟨y1, hy1⟩ : ∃ y, y = x ^^^ x >>> 30 := ⟨_, rfl⟩
  obtain ⟨z1, hz1⟩ : ∃ z, z = y1 * BitVec.ofInt 64 13787848793156543929 := ⟨_, rfl⟩
  obtain ⟨y2, hy2⟩ : ∃ y, y = z1 ^^^ z1 >>> 27 := ⟨_, rfl⟩
  obtain ⟨z2, hz2⟩ : ∃ z, z = y2 * BitVec.ofInt 64 10723151780598845931 := ⟨_, rfl⟩
  obtain ⟨y3, hy3⟩ : ∃ y, y = z2 ^^^ z2 >>> 31 := ⟨_, rfl⟩
  have HS : Hid (scr x = y3) := by show _ = _; rw [hy3, hz2, hy2, hz1, hy1]; rfl
  have HO := Lib.hid (fun x W => bitsOf_any x W)
  have HN := Lib.hid (fun x W => bitsNumber_any x W)
  have D1 := Lib.hid (fun W => (hy1 ▸ bitsDown_any x 30 (by omega) W : Calls Try.prog 38 #[.agg (BA x), .int .i64 30] W fun e w' => e = .returned (.agg (BA y1)) ∧ Below W.heap.size W w'))
  have D2 := Lib.hid (fun W => (hy2 ▸ bitsDown_any z1 27 (by omega) W : Calls Try.prog 38 #[.agg (BA z1), .int .i64 27] W fun e w' => e = .returned (.agg (BA y2)) ∧ Below W.heap.size W w'))
  have D3 := Lib.hid (fun W => (hy3 ▸ bitsDown_any z2 31 (by omega) W : Calls Try.prog 38 #[.agg (BA z2), .int .i64 31] W fun e w' => e = .returned (.agg (BA y3)) ∧ Below W.heap.size W w'))
  have m1 := mul_u64 y1 13787848793156543929
  have m2 := mul_u64 y2 10723151780598845931
  rw [← hz1] at m1
  rw [← hz2] at m2
  have HB0 := Lib.hid (Below.refl w.heap.size w)
  rw [HS.out]
  clear HS hy1 hy2 hy3 hz1 hz2
  go_enter Try.func34, Try.ntmps34
  go_wp2_with (first
    | (go_at_call 39; (with_reducible refine (HO.out _ _).mono ?_); rintro e w1 ⟨rfl, hb⟩; have HB1 := Lib.hid (HB0.out.trans (hb.mono HB0.out.size)); clear hb HB0; have HB0 := HB1; clear HB1)
    | (go_at_call 37; (with_reducible refine (HN.out _ _).mono ?_); rintro e w1 ⟨rfl, hb⟩; have HB1 := Lib.hid (HB0.out.trans (hb.mono HB0.out.size)); clear hb HB0; have HB0 := HB1; clear HB1)
    | (go_at_call 38; (first | (with_reducible refine (D1.out _).mono ?_) | (with_reducible refine (D2.out _).mono ?_) | (with_reducible refine (D3.out _).mono ?_)); rintro e w1 ⟨rfl, hb⟩; have HB1 := Lib.hid (HB0.out.trans (hb.mono HB0.out.size)); clear hb HB0; have HB0 := HB1; clear HB1))
  go_ret
  exact ⟨rfl, HB0.out⟩

/-- A number's highest bits. -/
def topN (x : BitVec 64) (k : Nat) : Nat := (x >>> (64 - k)).toNat
theorem topN_zero (x : BitVec 64) : topN x 0 = 0 := by
  unfold topN
  rw [show x >>> (64 - 0) = 0#64 from BitVec.ushiftRight_eq_zero (Nat.le_refl _)]
  rfl
theorem topN_succ (x : BitVec 64) (k : Nat) (hk : k < 64) : topN x (k + 1) = 2 * topN x k + (if x.getLsbD (63 - k) then 1 else 0) := by
  have h := up_nat x (63 - k)
  have e1 : 64 - (k + 1) = 63 - k := by omega
  have e2 : 63 - k + 1 = 64 - k := by omega
  rw [e2] at h
  unfold topN
  rw [e1]
  exact h
theorem topN_lt (x : BitVec 64) (k : Nat) (hk : k ≤ 30) : topN x k < 1073741824 := by
  unfold topN
  rw [BitVec.toNat_ushiftRight, Nat.shiftRight_eq_div_pow]
  have h := x.isLt
  have h2 : 2 ^ 34 ≤ 2 ^ (64 - k) := Nat.pow_le_pow_right (by decide) (by omega)
  refine Nat.div_lt_of_lt_mul ?_
  have h3 : 2 ^ 34 * 1073741824 ≤ 2 ^ (64 - k) * 1073741824 := Nat.mul_le_mul_right _ h2
  have h4 : 2 ^ 34 * 1073741824 = 2 ^ 64 := by decide
  omega

theorem store1 (w : World) (x : BitVec 64) : (storeCells ⟨w.heap.size, 0, none⟩ (BA x).toList).run Try.prog (w.alloc (.cells (BA 0#64) 69)) = .ok () (w.alloc (.cells (BA x) 69)) := by
  rw [← World.setRow_alloc_new w (BA 0#64) (BA x)]
  exact run_storeAll (heap_alloc_new _ _) (by rw [BA_size, BA_size]) (MA_one 0 x x)

theorem hold_use {f : Nat} {args : Array Value} {v : Value} (H : ∀ W, Calls Try.prog f args W fun e w' => e = .returned v ∧ Below W.heap.size W w') {w : World} {p : Addr} {c : Value} (hp : p.block < w.heap.size) (W : World) (h : Below w.heap.size w W ∧ W.cell? p = some c) :
    Calls Try.prog f args W fun e w' => e = .returned v ∧ (Below w.heap.size w w' ∧ w'.cell? p = some c) :=
  (H W).mono fun _ _ ⟨he, hb⟩ => ⟨he, h.1.trans (hb.mono h.1.size), (hb.cell (Nat.lt_of_lt_of_le hp h.1.size)).trans h.2⟩

end Go.Proofs.Ytalgkiagdjckiaa

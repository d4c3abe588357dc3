/-
  bucket: isPrefix, loc.May, where the answer is yes.
  Conditions: none.
-/
import Derived.Test.YtlpfjmahinfeoaaBkt9a
namespace Go.Proofs.Ytlpfjmahinfeoaa
open Go.RowKit

set_option maxRecDepth 100000 in
set_option maxHeartbeats 1000000 in
theorem isPrefix_yes (p : Int) (d : Nat) (hd : d ≤ 8) (h0 : 0 ≤ p) (h1 : p < 2 ^ d) (w : World) :
    Calls Try.prog 35 #[.int .i64 p, .int .i64 d] w fun e w' => e = .returned (.bool true) ∧ w = w' := by
  have hM : (2 : Nat) ^ d ≤ 256 := Nat.pow_le_pow_right (by decide) hd
  have e0 : ((2 : Int) ^ d) = ((2 ^ d : Nat) : Int) := by simp
  rw [e0] at h1
  obtain ⟨M, hMM⟩ : ∃ M : Nat, 2 ^ d = M := ⟨_, rfl⟩
  rw [hMM] at h1 hM e0
  have e1 : wrap64 ((2 : Int) ^ d) = (M : Int) := by rw [e0]; exact IntWalk.wrap64_in _ ⟨by omega, by omega⟩
  have d0 : (d : Int) ≤ 8 := by omega
  clear hMM e0
  go_enter Try.func35, Try.ntmps35
  go_wp2
  go_ret
  exact ⟨rfl, rfl⟩
set_option maxRecDepth 100000 in
set_option maxHeartbeats 1000000 in
theorem lmay_yes (r a s : Int) (r0 : 0 ≤ r) (r1 : r ≤ 1099511627776) (a0 : 0 ≤ a) (a1 : a ≤ 65535) (s0 : 0 ≤ s) (s1 : s ≤ 65535) (w : World) :
    Calls Try.prog 36 #[.agg #[.int .i64 r, .int .i64 a, .int .i64 s]] w fun e w' => e = .returned (.bool true) ∧ Below w.heap.size w w' := by
  go_enter Try.func36, Try.ntmps36
  go_wp2
  go_ret
  exact ⟨rfl, (Below.refl _ w).alloc (Nat.le_refl _) _⟩
end Go.Proofs.Ytlpfjmahinfeoaa

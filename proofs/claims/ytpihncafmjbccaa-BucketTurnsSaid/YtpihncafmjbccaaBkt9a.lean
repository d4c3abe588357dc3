/-
  sgraffitoref14's Right: what it asks; its head.
  Conditions: none.
-/
import Derived.Test.YtpihncafmjbccaaBkt8
import Derived.Test.YtpihncafmjbccaaRefHash
import Derived.Test.YtpihncafmjbccaaQuietB
namespace Go.Proofs.Ytpihncafmjbccaa
open Go.RowKit

theorem refPrefix_any (x : BitVec 64) (b : Int) (w : World) : Calls Try.prog 21 #[.int .u64 (U x), .int .i64 b] w fun e w' => e = .returned (.int .i64 (preI x b)) ∧ Below w.heap.size w w' := by
  unfold preI
  by_cases h : 1 ≤ b ∧ b ≤ 30
  · rw [if_pos h]
    obtain ⟨c, rfl⟩ := Int.eq_ofNat_of_zero_le (a := b) (by omega)
    exact refPrefix_in x c (by omega) (by omega) w
  · rw [if_neg h]
    exact (refPrefix_out x b (by omega) w).mono fun _ _ h => ⟨h.1, h.2 ▸ Below.refl _ _⟩
/-- An entry of a bucket: at the place i. -/
structure OkE (d p : Int) (es : List Ent) (i : Nat) : Prop where
  r0 : 0 ≤ (es[i]?.getD default).reg
  r1 : (es[i]?.getD default).reg ≤ 1099511627776
  a0 : 0 ≤ (es[i]?.getD default).at_
  a1 : (es[i]?.getD default).at_ ≤ 65535
  s0 : 0 ≤ (es[i]?.getD default).size
  s1 : (es[i]?.getD default).size ≤ 65535
  pre : preI (es[i]?.getD default).hash d = p
  ord : 0 < i → U (es[i - 1]?.getD default).hash < U (es[i]?.getD default).hash
structure Head14 (d p s : Int) (n : Nat) : Prop where
  s1 : 1 ≤ s
  s2 : s ≤ 255
  len : (n : Int) ≤ s
  d0 : 0 ≤ d
  d1 : d ≤ 8
/-- It is a bucket. -/
structure Right14 (d p s : Int) (es : List Ent) : Prop where
  head : Head14 d p s es.length
  p0 : 0 ≤ p
  p1 : p < 2 ^ d.toNat
  all : ∀ i, i < es.length → OkE d p es i
def RightRet (d p s : Int) (es : List Ent) (w : World) (e : Ending) (w' : World) : Prop := ∃ r : Bool, e = .returned (.bool r) ∧ (r = true ↔ Right14 d p s es) ∧ Below w.heap.size w w'

theorem pow_wrap (k : Nat) (hk : k < 8) : wrap64 (((2 ^ k : Nat) : Int) * 2) = ((2 ^ (k + 1) : Nat) : Int) := by
  have h : (2 : Nat) ^ k ≤ 2 ^ 8 := Nat.pow_le_pow_right (by decide) (by omega)
  have e : ((2 ^ (k + 1) : Nat) : Int) = ((2 ^ k : Nat) : Int) * 2 := by rw [Nat.pow_succ]; simp
  rw [e]
  have h2 : (2 : Nat) ^ k ≤ 256 := h
  clear e h
  generalize 2 ^ k = M at h2 ⊢
  exact IntWalk.wrap64_in _ ⟨by omega, by omega⟩
set_option maxRecDepth 100000 in
set_option maxHeartbeats 4000000 in
theorem refRight_out (d p s : Int) (a : Option Addr) (m c : Nat) (es : List Ent) (w : World) (hE : EntsAt w.heap.size w (.slice a m c) es) (hh : ¬ Head14 d p s es.length) :
    Calls Try.prog 4 #[.agg #[.int .i64 d, .int .i64 p, .slice a m c], .int .i64 s] w (RightRet d p s es w) := by
  obtain ⟨_, _, e0, hc0⟩ := hE.slice
  cases e0
  have HN : Hid (¬ Right14 d p s es) := fun h => hh h.head
  have HB := Lib.hid ((Below.refl _ w).alloc (Nat.le_refl _) (.cells #[.int .i64 d, .int .i64 p, .slice a es.length c] 24))
  have hd : s < 1 ∨ 255 < s ∨ s < es.length ∨ d < 0 ∨ 8 < d := by
    refine Classical.byContradiction fun hn => hh ⟨?_, ?_, ?_, ?_, ?_⟩ <;> omega
  clear hh hE
  generalize es.length = n at hd hc0 HB ⊢
  go_enter Try.func4, Try.ntmps4
  by_cases h1 : s < 1
  · go_wp2
    go_ret
    exact ⟨false, rfl, ⟨fun h => (by cases h), fun h => (HN.out h).elim⟩, HB.out⟩
  by_cases h2 : 255 < s
  · go_wp2
    go_ret
    exact ⟨false, rfl, ⟨fun h => (by cases h), fun h => (HN.out h).elim⟩, HB.out⟩
  by_cases h3 : s < n
  · go_wp2
    go_ret
    exact ⟨false, rfl, ⟨fun h => (by cases h), fun h => (HN.out h).elim⟩, HB.out⟩
  by_cases h4 : d < 0
  · go_wp2
    go_ret
    exact ⟨false, rfl, ⟨fun h => (by cases h), fun h => (HN.out h).elim⟩, HB.out⟩
  have h5 : 8 < d := by omega
  go_wp2
  go_ret
  exact ⟨false, rfl, ⟨fun h => (by cases h), fun h => (HN.out h).elim⟩, HB.out⟩
end Go.Proofs.Ytpihncafmjbccaa

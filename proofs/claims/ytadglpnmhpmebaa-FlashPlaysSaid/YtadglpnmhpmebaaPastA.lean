/-
  slices.Backward over a row of slices of bytes: the iterator.
  Conditions: none.
-/
import Derived.Test.YtadglpnmhpmebaaInvRange
import Derived.Test.YtadglpnmhpmebaaFlashHere
import Derived.LoopIn
import Derived.LoopNIn
import Derived.TacticsInMore
namespace Go.Proofs.Ytadglpnmhpmebaa
open Go.RowKit Go.Shelf
attribute [local go_sem] Oper.semAt_some

/-- What is given to a round: how many were given ahead of it. -/
def bkEnc (us : List Value) (s : Nat) : Array Value := #[.int .i64 ((us.length : Int) - 1 - s), us[us.length - 1 - s]?.getD undef]
/-- At no bound of its room a round is the same within a round of another loop. -/
theorem yield_wide {l m m' l' : Nat} {args : Array Value} {W : World} {R : Ending → World → Prop} (h : YieldAt Fence.wide m Try.prog l args W R) : YieldAt (Fence.wide.inRound l') m' Try.prog l args W R := by
  obtain ⟨fn, tmps, assign, body, h1, h2⟩ := h
  exact ⟨fn, tmps, assign, body, h1, h2.1, fun c cs _ => h2.2 c cs (room_wide _)⟩
set_option maxRecDepth 100000 in
set_option maxHeartbeats 2000000 in
theorem backward1_in (n : Nat) (hn : 1 ≤ n) (l B : Nat) (a : Option Addr) (c : Nat) (us : List Value) (hlen : us.length ≤ 1099511627776) (J : Nat → World → Prop) (JS : World → Prop) (W0 : World)
    (hfacts : ∀ s W, J s W → W.cell? ⟨B, 0, none⟩ = some (.slice a us.length c) ∧ ∀ i, i < us.length → ∃ g, a = some ⟨g, 0, none⟩ ∧ W.cell? ⟨g, i, none⟩ = some (us[i]?.getD undef))
    (h0 : J 0 W0)
    (hY : ∀ s W, J s W → s < us.length → YieldAt Fence.wide (n - 1) Try.prog l (bkEnc us s) W fun e W' => (e = .returned (.bool true) ∧ J (s + 1) W') ∨ (e = .returned (.bool false) ∧ JS W')) :
    CallsIn Fence.wide n Try.prog 51 #[.func (.yield l) #[] #[], .pointer (some ⟨B, 0, none⟩)] W0 fun e W' => (∃ v, e = .returned v) ∧ ((∃ s, ¬ s < us.length ∧ J s W') ∨ JS W') := by
  have HF := Lib.hid hfacts
  have HY := Lib.hid hY
  have c0 := (hfacts _ _ h0).1
  have a1 : (us.length : Int) ≤ 1099511627776 := by omega
  have w1 : wrap64 ((us.length : Int) - 1) = (us.length : Int) - 1 := by unfold wrap64; omega
  clear hfacts hY
  refine callsIn_of_wp Try.func51 rfl trivial ?_ rfl
  simp only [Try.ntmps51, List.size_toArray, List.length_cons, List.length_nil, Nat.reduceAdd, Nat.reduceSub, Array.replicate_succ, Array.replicate_zero, List.push_toArray, List.append_toArray, List.nil_append, List.cons_append]
  gi_wp2
  clear c0
  gi_loopw [3] (fun v wr => ∃ s : Nat, v = .int .i64 ((us.length : Int) - 1 - s) ∧ s ≤ us.length ∧ J s wr) (fun v _ => (intOf v + 1).toNat)
  case atStart => exact ⟨0, by simp, Nat.zero_le _, h0⟩
  case round =>
    obtain ⟨s, rfl, hs, hJ⟩ := hrel
    obtain ⟨cb, ce⟩ := HF.out _ _ hJ
    by_cases hlt : s < us.length
    · obtain ⟨g, rfl, ci⟩ := ce (us.length - 1 - s) (by omega)
      obtain ⟨i, hi⟩ : ∃ i : Nat, us.length - 1 - s = i := ⟨_, rfl⟩
      have hi2 : (us.length : Int) - 1 - s = (i : Int) := by omega
      have HYR := HY.out s wr hJ hlt
      unfold bkEnc at HYR
      rw [hi, hi2] at HYR
      rw [hi] at ci
      obtain ⟨fn, tmps, assign, body, hy, hR⟩ := HYR
      have i0 : (0 : Int) ≤ i := by omega
      have i1 : (i : Int) < us.length := by omega
      have w2 : wrap64 ((i : Int) - 1) = (i : Int) - 1 := by unfold wrap64; omega
      have HI := Lib.hid hi
      have HI2 := Lib.hid hi2
      have HS := Lib.hid hs
      have HLT := Lib.hid hlt
      rw [hi2]
      clear hi hi2 hJ hs ce w1 hlt
      gi_wp2
      refine hR.mono ?_
      rintro e W3 (⟨rfl, hJ3⟩ | ⟨rfl, hJx3⟩)
      · have hJ4 := Lib.hid hJ3
        clear hJ3 hy hR
        gi_wp2
        go_roundw
        case rel => exact ⟨s + 1, by have := HI2.out; congr 1; omega, by have := HLT.out; omega, hJ4.out⟩
        case measure => (simp [intOf]; try omega)
      · have hJ4 := Lib.hid hJx3
        clear hJx3 hy hR
        gi_wp2
        refine bodyPost_ret (results_none rfl _ _ _) rfl ?_
        exact ⟨⟨_, rfl⟩, .inr hJ4.out⟩
    · have hJ4 := Lib.hid hJ
      have n1 : ¬ ((0 : Int) ≤ (us.length : Int) - 1 - s) := by omega
      clear hJ cb ce w1 hs
      have HLT := Lib.hid hlt
      clear hlt
      gi_wp2
      go_end0
      exact ⟨⟨_, rfl⟩, .inl ⟨s, by have := HLT.out; omega, hJ4.out⟩⟩
end Go.Proofs.Ytadglpnmhpmebaa

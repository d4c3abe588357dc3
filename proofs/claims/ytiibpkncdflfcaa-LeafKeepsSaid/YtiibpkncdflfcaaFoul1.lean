/-
  leaf: the iterator over what a device reads.
  Conditions: the device is up.
-/
import Derived.Test.YtiibpkncdflfcaaPastC
import Derived.Test.YtiibpkncdflfcaaJL2
namespace Go.Proofs.Ytiibpkncdflfcaa
open Go.RowKit Go.Shelf
attribute [local go_sem] Oper.semAt_some

theorem sectorsOf_any (D : Nat) (w : World) : Calls Try.prog 28 #[.pointer (some ⟨D, 0, none⟩)] w fun e w' => e = .returned (.func (.func 46) #[] #[.pointer (some ⟨w.heap.size, 0, none⟩)]) ∧ w.alloc (.cells #[.pointer (some ⟨D, 0, none⟩)] 26) = w' := by
  go_enter Try.func28, Try.ntmps28
  go_wp2
  go_ret
  exact ⟨rfl, rfl⟩
/-- A sector that is there, of a device that is up, is read. -/
theorem here_read_ok {w W : World} {D : Nat} {d : Dev} (h : DevHere w D d W) (hdn : d.down = false) (k : Nat) (hk : k < d.sectors) :
    Calls Try.prog 11 #[.pointer (some ⟨D, 0, none⟩), .int .i64 k] W fun e W' => DevHere w D d W' ∧ Below W.heap.size W W' ∧ (d.cur k).length = d.size ∧ ∃ a c, e = .returned (.tuple #[.slice a d.size c, .int .i64 0]) ∧ BytesAt W'.heap.size W' (.slice a d.size c) (d.cur k) := by
  refine (here_read h (k : Int)).mono ?_
  rintro e W' ⟨h1, h2, v, h3, h4⟩
  have ha : askErr d.sectors d.down (k : Int) = 0 := by
    unfold askErr
    rw [hdn]
    simp
    omega
  rw [ha] at h3 h4
  rcases h4 with ⟨h4, _⟩ | ⟨_, h4, h5⟩
  · exact absurd rfl h4
  · rw [Int.toNat_natCast] at h4 h5
    obtain ⟨a, c, rfl⟩ := owns_slice h4
    exact ⟨h1, h2, h5, a, c, h3, by rw [← h5] at h4 ⊢; exact BytesAt.of_owns h4⟩
set_option maxRecDepth 100000 in
set_option maxHeartbeats 2000000 in
theorem sectorsOf1_in (n : Nat) (hn : 1 ≤ n) (l B D : Nat) (w : World) (d : Dev) (hdn : d.down = false) (hsec : d.sectors ≤ 16384) (J : Nat → World → Prop) (W0 : World)
    (hfacts : ∀ s W, J s W → W.cell? ⟨B, 0, none⟩ = some (.pointer (some ⟨D, 0, none⟩)) ∧ DevHere w D d W)
    (hbel : ∀ s W W', J s W → Below W.heap.size W W' → J s W')
    (h0 : J 0 W0)
    (hY : ∀ (s : Nat) v W, J s W → s < d.sectors → BytesAt W.heap.size W v (d.cur s) → YieldAt Fence.wide (n - 1) Try.prog l #[.int .i64 s, v] W fun e W' => e = .returned (.bool true) ∧ J (s + 1) W') :
    CallsIn Fence.wide n Try.prog 46 #[.func (.yield l) #[] #[], .pointer (some ⟨B, 0, none⟩)] W0 fun e W' => (∃ v, e = .returned v) ∧ J d.sectors W' := by
  have HF := Lib.hid hfacts
  have HY := Lib.hid hY
  have HB := Lib.hid hbel
  obtain ⟨c0, hd0⟩ := hfacts _ _ h0
  have HSEC := Lib.hid (callsIn_wide (n := n - 1).2 (here_sectors hd0))
  have HRD := Lib.hid (fun (s : Nat) (hs : s < d.sectors) W (hj : J s W) => callsIn_wide (n := n - 1).2 (here_read_ok (hfacts s W hj).2 hdn s hs))
  have a1 : (d.sectors : Int) ≤ 16384 := by omega
  have t1 : Fence.wide.fn 47 := trivial
  have t2 : Fence.wide.fn 11 := trivial
  clear hfacts hY hbel hd0
  refine callsIn_of_wp Try.func46 rfl trivial ?_ rfl
  simp only [Try.ntmps46, List.size_toArray, List.length_cons, List.length_nil, Nat.reduceAdd, Nat.reduceSub, Array.replicate_succ, Array.replicate_zero, List.push_toArray, List.append_toArray, List.nil_append, List.cons_append]
  gi_wp2_with (gi_at_call 47; (with_reducible refine HSEC.out.mono ?_); rintro e w' ⟨rfl, rfl⟩)
  clear c0
  gi_loopw [8] (fun v wr => ∃ s : Nat, v = .int .i64 s ∧ s ≤ d.sectors ∧ J s wr) (fun v _ => d.sectors - (intOf v).toNat)
  case atStart => exact ⟨0, rfl, Nat.zero_le _, h0⟩
  case round =>
    obtain ⟨s, rfl, hs, hJ⟩ := hrel
    have cb := (HF.out _ _ hJ).1
    by_cases hlt : s < d.sectors
    · have HR := Lib.hid (HRD.out s hlt wr hJ)
      have i1 : (s : Int) < d.sectors := by omega
      have HS := Lib.hid hlt
      have HJ := Lib.hid hJ
      clear hJ hs hlt
      gi_wp2_with (gi_at_call 11; (with_reducible refine HR.out.mono ?_); rintro e w3 ⟨hd3, hb3, hl3, av, cv, rfl, hv⟩; have hj3 := HB.out _ _ _ HJ.out hb3; obtain ⟨fn, tmps, assign, body, hy, hR⟩ := HY.out s _ w3 hj3 HS.out hv; clear hd3 hb3 hl3 hv hj3 cb)
      refine hR.mono ?_
      rintro e W3 ⟨rfl, hJ3⟩
      have hJ4 := Lib.hid hJ3
      clear hJ3 hy hR
      gi_wp2
      go_roundw
      case rel => exact ⟨s + 1, by simp, by have := HS.out; omega, hJ4.out⟩
      case measure => (simp [intOf]; try omega)
    · obtain rfl : s = d.sectors := by omega
      have hJ4 := Lib.hid hJ
      clear hJ cb hs hlt
      gi_wp2
      go_end0
      exact ⟨⟨_, rfl⟩, hJ4.out⟩
end Go.Proofs.Ytiibpkncdflfcaa

/-
  What slices.Clone of bytes does.
  Conditions: none.
-/
import Derived.Test.YtadglpnmhpmebaaMem
import Derived.WalkKit
namespace Go.Proofs.Ytadglpnmhpmebaa
open Go.RowKit

set_option maxHeartbeats 1000000 in
theorem clone_any (n₀ : Nat) (u : Value) (bs : List (BitVec 8)) (w : World) (hu : BytesAt n₀ w u bs) (hn : n₀ ≤ w.heap.size) (hl : bs.length ≤ 1099511627776) :
    Calls Try.prog 38 #[u] w fun e w' => ∃ v, e = .returned v ∧ w'.ownsRow w.heap.size 5 1 v bs.length (cellsOf bs) ∧ Below w.heap.size w w' := by
  obtain ⟨i0, hi, hz0, hz1, hz2⟩ := info_parts Try.infoU8
  have hu0 := hu
  obtain ⟨a, cap, rfl, _, _, _⟩ := hu
  cases a with
  | none =>
    obtain ⟨e0, rfl, rfl⟩ := hu0.none_nil
    have hnil := fun W => Lib.run_eql_slice_nil (P := Try.prog) W 42 5 none 0 0 0 0 Try.underlying42
    go_enter Try.func38, Try.ntmps38
    go_wp2
    go_ret
    exact ⟨_, rfl, World.ownsRow_nil _ _ _ _, Below.refl _ _⟩
  | some ad =>
    have hu1 := (hu0.mono hn).below (((Below.refl w.heap.size w).alloc (Nat.le_refl _) (.cells #[] 5)))
    have HU := Lib.hid hu1
    clear hu0 hu1
    have hnil := fun W => Lib.run_eql_slice_nil (P := Try.prog) W 42 5 (some ad) bs.length cap 0 0 Try.underlying42
    go_enter Try.func38, Try.ntmps38
    go_wp2_with (at_builtin; go_must (refine wpList_append_bytes rfl (.tmp 5) (.tmp 6) rfl rfl w.heap.size i0 hi hz0 hz1 hz2 _ rfl [] (own_empty w w.heap.size (Nat.le_refl _)) _ rfl _ bs HU.out (by simp; omega) (by simp) ?_); intro v1 w1 n1 HN hown1 hgrow1 hat1; rw [List.nil_append] at hown1 HN)
    go_ret
    obtain rfl := HN.out
    exact ⟨_, rfl, hown1, ((Below.refl w.heap.size w).alloc (Nat.le_refl _) _).grown hgrow1 (by simp) (fun k e => by cases e; exact Nat.le_refl _)⟩

theorem clone_nil (w : World) : Calls Try.prog 38 #[.slice none 0 0] w fun e w' => e = .returned (.slice none 0 0) ∧ w = w' := by
  have hnil := fun W => Lib.run_eql_slice_nil (P := Try.prog) W 42 5 none 0 0 0 0 Try.underlying42
  go_enter Try.func38, Try.ntmps38
  go_wp2
  go_ret
  exact ⟨rfl, rfl⟩

end Go.Proofs.Ytadglpnmhpmebaa

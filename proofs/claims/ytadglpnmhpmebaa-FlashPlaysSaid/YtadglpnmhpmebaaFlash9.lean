/-
  flash: done.
  Conditions: none.
-/
import Derived.Test.YtadglpnmhpmebaaFlash8
namespace Go.Proofs.Ytadglpnmhpmebaa
open Go.RowKit

/-- How many first bytes of a write a fate does. -/
def doneOf (size : Nat) (fate : Int) : Nat := (fate % ((size : Int) + 1)).toNat
theorem doneOf_le (size : Nat) (fate : Int) : doneOf size fate ≤ size := by
  unfold doneOf
  have := Int.emod_lt_of_pos fate (show (0 : Int) < (size : Int) + 1 by omega)
  have := Int.emod_nonneg fate (show ((size : Int) + 1) ≠ 0 by omega)
  omega
theorem done_math (size : Nat) (fate : Int) : (fate.tmod ((size : Int) + 1) + ((size : Int) + 1)) % ((size : Int) + 1) = (doneOf size fate : Int) := by
  have := Int.emod_nonneg fate (show ((size : Int) + 1) ≠ 0 by omega)
  rw [Int.add_emod_right]
  unfold doneOf
  rw [Int.toNat_of_nonneg this, Int.tmod_def]
  exact Int.sub_mul_emod_self_left ..

set_option maxHeartbeats 1000000 in
theorem done_any (n₀ : Nat) (O : Foot) (w : World) (D : Nat) (d : Dev) (h : DevAt n₀ O w D d) (fate : Int) :
    Calls Try.prog 41 #[.pointer (some ⟨D, 0, none⟩), .int .i64 fate] w fun e w' => e = .returned (.int .i64 (doneOf d.size fate)) ∧ w = w' := by
  obtain ⟨F, P, L, lv, fm, pm, lm, h⟩ := h
  have c1 : w.cell? ⟨D, 1, none⟩ = some (.int .i64 d.size) := blk_cell h.blk 1
  have hsz := h.right.2
  have s4 : (d.size : Int) ≤ 512 := by omega
  have hm := done_math d.size fate
  have h0 : (0 : Int) < (d.size : Int) + 1 := by omega
  have m1 := Int.lt_tmod_of_pos fate h0
  have m2 := Int.tmod_lt_of_pos fate h0
  have HM := Lib.hid hm
  clear h hm
  go_enter Try.func41, Try.ntmps41
  go_wp2_with fail
  go_ret
  exact ⟨congrArg (fun x => Ending.returned (.int .i64 x)) HM.out, rfl⟩

end Go.Proofs.Ytadglpnmhpmebaa

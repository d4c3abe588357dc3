/-
  flash: the past of a sector that is not there.
  Conditions: none.
-/
import Derived.Test.YtadglpnmhpmebaaFlashHere
namespace Go.Proofs.Ytadglpnmhpmebaa
open Go.RowKit

theorem past_out {w W : World} {D : Nat} {d : Dev} (h : DevHere w D d W) (at_ : Int) (ho : ¬ (0 ≤ at_ ∧ at_ < d.sectors)) : Calls Try.prog 28 #[.pointer (some ⟨D, 0, none⟩), .int .i64 at_] W fun e w' => e = .returned (.slice none 0 0) ∧ W = w' := by
  obtain ⟨O, ⟨F, P, L, lv, fm, pm, lm, hd⟩, _⟩ := h
  have hh := fhas_any hd.blk at_
  rw [decide_eq_false ho] at hh
  have HH := Lib.hid hh
  clear hh hd ho
  go_enter Try.func28, Try.ntmps28
  go_wp2_with (go_at_call 42; (with_reducible refine HH.out.mono ?_); rintro e w' ⟨rfl, rfl⟩)
  go_ret
  exact ⟨rfl, rfl⟩
end Go.Proofs.Ytadglpnmhpmebaa

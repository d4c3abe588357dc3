/-
  What a writer's takes and put do, and what slices.Clone of bytes does.
  Conditions: none.
-/
import Derived.Test.YtalgkiagdjckiaaWire1
import Derived.Test.YtalgkiagdjckiaaWireMath
import Derived.IntWalk
import Derived.OneCell
namespace Go.Proofs.Ytalgkiagdjckiaa
open Go.RowKit

/-- What a writer's calls may write. -/
def wS (B : Nat) (v : Value) : Nat → Prop := fun k => k = B ∨ v.ownBlock = some k
/-- What a writer's call leaves: no other block that was there has turned; its row is where it was, or new. -/
structure WStep (B : Nat) (v v' : Value) (w w' : World) : Prop where
  moves : Moves (wS B v) w w'
  own : ∀ k, v'.ownBlock = some k → v.ownBlock = some k ∨ w.heap.size ≤ k
theorem WStep.refl (B : Nat) (v : Value) (w : World) : WStep B v v w w := ⟨Moves.refl _ _, fun _ h => .inl h⟩
theorem WStep.trans {B : Nat} {v v1 v2 : Value} {a b c : World} (h : WStep B v v1 a b) (k : WStep B v1 v2 b c) : WStep B v v2 a c := by
  refine ⟨h.moves.trans k.moves fun i hi hT => ?_, fun j hj => ?_⟩
  · rcases hT with rfl | hT
    · exact .inl rfl
    · rcases h.own i hT with h1 | h1
      · exact .inr h1
      · omega
  · rcases k.own j hj with h1 | h1
    · exact h.own j h1
    · exact .inr (Nat.le_trans h.moves.size h1)

theorem wrap8_64 (x : BitVec 64) : IntKind.u8.wrap (U x) = U (x.setWidth 8) := by
  unfold U
  rw [BitVec.toNat_setWidth]
  simp [IntKind.wrap, IntKind.bits, IntKind.signed]

end Go.Proofs.Ytalgkiagdjckiaa

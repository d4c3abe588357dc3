/-
  A label within a fence.
  Conditions: none.
-/
import Derived.Test.YtdpjhcdkiddplaaRange
import Derived.Scope
namespace Go.Proofs.Ytdpjhcdkiddplaa
open Go.RowKit

theorem wpIn_scope {F : Fence} {n : Nat} {P : Program} {Q : Exit → Act → World → Prop} {a : Act} {w : World} {c : Code} (h : c.wpIn F n P (Exit.noGoto Q) a w) : (Code.scope c).wpIn F n P Q a w := by
  intro b k cs hro hb hr
  have f0 : (lone (b.atR a (.code (.scope c) :: k)) cs w).fenced P F := fenced_calm hb hr rfl
  have into : step P (lone (b.atR a (.code (.scope c) :: k)) cs w) = .next (lone (b.atR a (.code c :: .inScope c :: k)) cs w) :=
    step_lone_go (by simp [stepG, stepG.exec, Frame.atR])
  have out : ∀ (a' : Act) (w' : World), step P (lone (b.atR a' (.inScope c :: k)) cs w') = .next (lone (b.atR a' k) cs w') := fun _ _ =>
    step_lone_go (by simp [stepG, stepG.exec, Frame.atR])
  obtain ⟨e, a', w', hq, harr⟩ := h b (.inScope c :: k) cs hro hb hr
  have hx : ∀ id, exitTo id (.inScope c :: k) = exitTo id k := fun id => by simp [exitTo]
  cases e with
  | normal => exact ⟨_, a', w', hq, .head f0 into (StepsIn.trans harr (.one (fenced_calm hb hr rfl) (out _ _)))⟩
  | exit id =>
    refine ⟨_, a', w', hq, fun k' hk => .head f0 into (harr.1 k' (by rw [hx]; exact hk)), fun hr' hk => ?_⟩
    obtain ⟨k₁, h1, h2⟩ := harr.2 hr' (by rw [hx]; exact hk)
    exact ⟨k₁, h1, .head f0 into h2⟩
  | goto l => exact hq.elim
  | ret => exact ⟨_, a', w', hq, .of_steps (.one f0 into) harr⟩
  | panic ch => exact ⟨_, a', w', hq, .of_steps (.one f0 into) harr⟩
  | outgrown => exact ⟨_, a', w', hq, .of_steps (.one f0 into) harr⟩
end Go.Proofs.Ytdpjhcdkiddplaa

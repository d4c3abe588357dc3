/-
  What a writer's calls do: wire.NewWriter, Number, Text, Raw, Full and Bytes, for any state of the writer.
  Conditions: none.
-/
import Derived.Test.YtalgkiagdjckiaaMem
import Derived.WalkKit
import Derived.Deep.QuietTactic
import Derived.BigQuiet
namespace Go.Proofs.Ytalgkiagdjckiaa
open Go.RowKit

/-- How many bytes a number may have. -/
def MayHave (k : Int) : Prop := k = 1 ∨ k = 2 ∨ k = 4 ∨ k = 8
instance (k : Int) : Decidable (MayHave k) := by unfold MayHave; infer_instance

/-- Is it among these? -/
def amongB (x : Int) (l : List Int) : Bool := l.any (· == x)

def mayB (k : Int) : Bool := decide (k = 1 ∨ k = 2 ∨ k = 4 ∨ k = 8)
theorem among_may (k : Int) : amongB k [1, 2, 4, 8] = mayB k := by
  unfold amongB mayB
  rw [Bool.eq_iff_iff]
  simp
  omega

end Go.Proofs.Ytalgkiagdjckiaa

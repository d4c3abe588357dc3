/-
  What a writer's Text does, and what its calls answer where there is no writer.
  Conditions: none.
-/
import Derived.Test.YtalgkiagdjckiaaWire3
namespace Go.Proofs.Ytalgkiagdjckiaa
open Go.RowKit

/-! No writer -/
end Go.Proofs.Ytalgkiagdjckiaa

/-
  What slices.Clone of bytes does.
  Conditions: none.
-/
import Derived.Test.YtalgkiagdjckiaaMem
import Derived.WalkKit
namespace Go.Proofs.Ytalgkiagdjckiaa
open Go.RowKit

end Go.Proofs.Ytalgkiagdjckiaa

/-
  sgraffitolaw03's awake: the chapter's examples hold.
  Conditions: none.
-/
import Derived.Test.YtalgkiagdjckiaaWire6
import Derived.Lib.SlBytesConst
namespace Go.Proofs.Ytalgkiagdjckiaa
open Go.RowKit

end Go.Proofs.Ytalgkiagdjckiaa

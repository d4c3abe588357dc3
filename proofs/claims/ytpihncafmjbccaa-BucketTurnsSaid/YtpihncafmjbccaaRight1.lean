/-
  bucket: isPrefix, loc.May, where the answer is yes.
  Conditions: none.
-/
import Derived.Test.YtpihncafmjbccaaBkt9a
namespace Go.Proofs.Ytpihncafmjbccaa
open Go.RowKit

end Go.Proofs.Ytpihncafmjbccaa

/-
  bucket: Right, where the answer is yes.
  Conditions: none.
-/
import Derived.Test.YtpihncafmjbccaaRight1
import Derived.Test.YtpihncafmjbccaaBkt1F
import Derived.Test.YtpihncafmjbccaaQuietR
namespace Go.Proofs.Ytpihncafmjbccaa
open Go.RowKit Go.Shelf
attribute [local go_sem] Oper.semAt_some

end Go.Proofs.Ytpihncafmjbccaa

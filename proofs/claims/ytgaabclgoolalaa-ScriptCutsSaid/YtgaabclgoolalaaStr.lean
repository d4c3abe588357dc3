/-
  Two texts of bytes, compared as strings.
  Conditions: none.
-/
import Derived.Test.YtgaabclgoolalaaMem
import Derived.Laws.StructEq
namespace Go.Proofs.Ytgaabclgoolalaa
open Go.RowKit

theorem strB_beq (xs ys : List (BitVec 8)) : ((strB xs).toList == (strB ys).toList) = decide (xs = ys) := by
  rw [ByteArray.toList_eq, ByteArray.toList_eq, Bool.eq_iff_iff]
  simp only [beq_iff_eq, decide_eq_true_eq]
  exact ⟨fun h => strB_inj.1 (congrArg ByteArray.mk (Array.toList_inj.1 h)), fun h => by rw [h]⟩
end Go.Proofs.Ytgaabclgoolalaa

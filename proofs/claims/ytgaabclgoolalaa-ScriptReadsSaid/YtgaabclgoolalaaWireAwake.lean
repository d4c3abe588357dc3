/-
  sgraffitolaw03's awake: the chapter's examples hold.
  Conditions: none.
-/
import Derived.Test.YtgaabclgoolalaaWire6
import Derived.Lib.SlBytesConst
namespace Go.Proofs.Ytgaabclgoolalaa
open Go.RowKit

theorem text_apart {n₀ B : Nat} {w : World} {v : Value} {row : List (BitVec 8)} {limit : Int} {full : Bool} (h : WriterAt n₀ w B v row limit full) {n c : Nat} : ∀ k, (Value.slice (some ⟨w.heap.size, 0, none⟩) n c).ownBlock = some k → ¬ wS B v k := by
  intro k e hk
  have e : w.heap.size = k := by simpa [Value.ownBlock] using e
  rcases hk with hk | hk
  · have := blk_lt h.blk; omega
  · have := (h.own.lt k hk).2; omega
end Go.Proofs.Ytgaabclgoolalaa

/-
  sgraffitoref03: Number, Of, Put, Take.
  Conditions: none.
-/
import Derived.Test.YtgaabclgoolalaaWireAwake
import Derived.StillTailTactics
import Derived.Deep.DeepCutAuto
import Derived.Outline
namespace Go.Proofs.Ytgaabclgoolalaa
open Go.RowKit

theorem shr8_64 (x : BitVec 64) : U x / (256 : Int) = U (x >>> 8) := shr_U x 8 _ (by decide)
theorem quo8_64 (x : BitVec 64) : IntKind.u64.wrap ((U x).tdiv 256) = U (x >>> 8) := by
  rw [Int.tdiv_eq_ediv_of_nonneg (U_nonneg x), shr8_64, wrap_u64_U]
theorem low8_64 (x : BitVec 64) : IntKind.u8.wrap (U x % (256 : Int)) = U (x.setWidth 8) := by
  rw [← wrap8_64]
  simp [IntKind.wrap, IntKind.bits, IntKind.signed]

theorem refPut_own {w1 : World} {base n : Nat} {a : Option Addr} {cp : Nat} {row : List (BitVec 8)} (h : w1.ownsRow base 5 1 (.slice a n cp) n (cellsOf row)) (hn : n = row.length) : w1.ownsRow base 5 1 (.slice a n cp) row.length (cellsOf row) := by
  subst hn; exact h
theorem refPut_below {w w1 : World} {o1 o2 o3 : Obj} {n c : Nat} (hb : ∀ o1 o2 : Obj, Below w.heap.size w ((w.alloc o1).alloc o2)) (hg : (((w.alloc o1).alloc o2).alloc o3).grownBy w1 (Value.slice (some ⟨w.heap.size + 1 + 1, 0, none⟩) n c).ownBlock) : Below w.heap.size w w1 :=
  ((hb o1 o2).alloc (by simp; omega) o3).grown hg (by simp; omega) (fun k e => by
    have e : w.heap.size + 1 + 1 = k := by simpa [Value.ownBlock] using e
    omega)
theorem refPut_P {w w1 : World} {o1 o2 o3 : Obj} {n c : Nat} (hg : (((w.alloc o1).alloc o2).alloc o3).grownBy w1 (Value.slice (some ⟨w.heap.size + 1 + 1, 0, none⟩) n c).ownBlock) : w1.heap[w.heap.size]? = some o1 :=
  blk_keep (blk_alloc (blk_alloc (heap_alloc_new w o1) o2) o3) hg (by simp [Value.ownBlock]; omega)
theorem refPut_Q {w w1 : World} {o1 o2 o3 : Obj} {n c : Nat} (hg : (((w.alloc o1).alloc o2).alloc o3).grownBy w1 (Value.slice (some ⟨w.heap.size + 1 + 1, 0, none⟩) n c).ownBlock) : w1.heap[w.heap.size + 1]? = some o2 :=
  blk_keep (by have := blk_alloc (heap_alloc_new (w.alloc o1) o2) o3; simpa using this) hg (by simp [Value.ownBlock])
theorem refPut_ne {w1 : World} {base n m g : Nat} {v : Value} {cs : List Value} (h : w1.ownsRow base 5 m v n cs) (hg : g < base) : v.ownBlock ≠ some g := fun e => by
  have := (h.lt g e).1; omega
/-- What the reference's Put answers. -/
def refPut (row : List (BitVec 8)) (limit : Int) (full : Bool) (bs : List (BitVec 8)) : List (BitVec 8) × Bool := (wRow row limit full (some bs), wFull row limit full (some bs))

end Go.Proofs.Ytgaabclgoolalaa

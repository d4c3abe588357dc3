/-
  bucket: a bucket's load: loc.Write, Pack.
  Conditions: none.
-/
import Derived.Test.YtpihncafmjbccaaBkt11
import Derived.Test.YtpihncafmjbccaaJW
namespace Go.Proofs.Ytpihncafmjbccaa
open Go.RowKit Go.Shelf
attribute [local go_sem] Oper.semAt_some

/-- An entry's bytes. -/
def entB (x : Ent) : List (BitVec 8) := leB 8 x.hash ++ (leI 8 x.reg ++ leI 2 x.at_ ++ leI 2 x.size)
theorem entB_len (x : Ent) : (entB x).length = 20 := by
  unfold entB
  simp only [List.length_append, leI_len, leB_len]
  rfl
/-- A bucket's load. -/
def bktB (d p : Int) (es : List Ent) : List (BitVec 8) := leI 1 d ++ leI 1 es.length ++ leI 8 p ++ es.flatMap entB
theorem ents_bytes_len (es : List Ent) : (es.flatMap entB).length = 20 * es.length := by
  induction es with
  | nil => rfl
  | cons x es ih => rw [List.flatMap_cons, List.length_append, ih, entB_len, List.length_cons]; omega
theorem take_flat (es : List Ent) (k : Nat) (hk : k < es.length) : (es.take (k + 1)).flatMap entB = (es.take k).flatMap entB ++ entB (es[k]?.getD default) := by
  rw [List.take_add_one, List.flatMap_append, List.getElem?_eq_getElem hk]
  simp
end Go.Proofs.Ytpihncafmjbccaa

/-
  A struct by value, of one-cell fields, as an argument.
  Conditions: none.
-/
import Derived.Test.YtfbddbigmbmcaaaLaw
import Derived.Test.YtfbddbigmbmcaaaMem
import Derived.Deep.Fields
namespace Go.Proofs.Ytfbddbigmbmcaaa
open Go.ChangeShapes Go.WideShapes Go.ChangeAt Go.RowKit Go.Deep
section
variable {H : Type} {enc : TypeId × Value → H} {P : Program} {w : World} {base : Nat} {spare : Nat → Bool} {held : Bool}
/-- A struct of one-cell fields, by value: its cells, and what each reads as. -/
theorem open_agg_one {r : Reach} {b0 : Nat} {t : TypeId} {fs : Array Field} {v : Value} {d : DataW H} {p : List MemPlace} (hs : P.underlying t = some (.struct fs)) (hone : oneCellFields P fs = true)
    (hv : Value.okWide P w r b0 t v) (h : DataW.Trod enc P w base spare held t v d p) :
    ∃ (cs : List Value) (n : Nat), v = .agg cs.toArray ∧ cs.length = P.cellsOf t ∧ ∀ (j : Nat) (f : Field) (u : Value), fs[j]? = some f → cs[j]? = some u → ∃ y, DataW.trod enc P w base spare held n f.type [u] = some y := by
  obtain ⟨cs, rfl, hsz⟩ := okWide_struct hs hv
  obtain ⟨l⟩ := cs
  obtain ⟨fuel, hf⟩ := h
  obtain ⟨xs, n, _, hx, _, hlen, hg⟩ := DataW.trod_struct hs hf
  refine ⟨l, n, rfl, hsz, fun j f u hj hu => ?_⟩
  obtain ⟨o, k⟩ := hone_of hone j f hj
  have hjl : j < xs.length := by rw [hlen]; exact (Array.getElem?_eq_some_iff.1 hj).1
  have h1 := hg j f hj
  have hul : j < l.length := (List.getElem?_eq_some_iff.1 hu).1
  have hue : l[j] = u := (List.getElem?_eq_some_iff.1 hu).2
  refine ⟨xs[j], ?_⟩
  rw [o, k] at h1
  have e : ((Value.agg ⟨l⟩).cells.toList.drop j).take 1 = [u] := by
    simp only [Value.cells]
    rw [List.drop_eq_getElem_cons hul, hue]
    rfl
  rw [e] at h1
  rw [h1, List.getElem?_eq_getElem hjl]
end
end Go.Proofs.Ytfbddbigmbmcaaa

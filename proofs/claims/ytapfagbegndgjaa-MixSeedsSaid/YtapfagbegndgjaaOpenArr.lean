/-
  Two words, two bytes, in an array by value.
  Conditions: none.
-/
import Derived.Test.YtapfagbegndgjaaOpenBn
import Derived.OpenShut
namespace Go.Proofs.Ytapfagbegndgjaa
open Go.ChangeShapes Go.WideShapes Go.ChangeAt Go.RowKit Go.Deep
variable {H : Type} {enc : TypeId × Value → H}
set_option maxRecDepth 100000 in
theorem open_pair {W : World} {base : Nat} {t e : TypeId} {v : Value} {d : DataW H} {p : List MemPlace} (ht : Try.prog.underlying t = some (.array 2 e)) (hc : Try.prog.cellsOf t = 2) (he : Try.prog.cellsOf e = 1)
    (o : Value.okWide Try.prog W .any base t v) (h : DataW.Trod enc Try.prog W 0 (fun _ => true) true t v d p) :
    ∃ c0 c1, v = .agg #[c0, c1] ∧ ∃ (fuel : Nat) (y0 y1 : DataW H × List MemPlace), DataW.trod enc Try.prog W 0 (fun _ => true) true fuel e [c0] = some y0 ∧ DataW.trod enc Try.prog W 0 (fun _ => true) true fuel e [c1] = some y1 := by
  obtain ⟨cs, rfl, hsz, _⟩ : ∃ cs, v = .agg cs ∧ cs.size = Try.prog.cellsOf t ∧ Row.okWide Try.prog W .any base t cs := by
    have := o
    simpa [Value.okWide, ht] using this
  rw [hc] at hsz
  obtain ⟨l⟩ := cs
  obtain ⟨fuel, hf⟩ := h
  match l, hsz with
  | [c0, c1], _ =>
    obtain ⟨xs, m, _, _, _, hl, hel⟩ := DataW.trod_array ht hf
    have h0 := hel 0 (by decide)
    have h1 := hel 1 (by decide)
    rw [he] at h0 h1
    match xs, hl with
    | [y0, y1], _ => exact ⟨c0, c1, rfl, m, y0, y1, h0, h1⟩
set_option maxRecDepth 100000 in
theorem open_words {W : World} {base : Nat} {v : Value} {d : DataW H} {p : List MemPlace} (o : Value.okWide Try.prog W .any base 23 v) (h : DataW.Trod enc Try.prog W 0 (fun _ => true) true 23 v d p) :
    ∃ q : BitVec 64 × BitVec 64, v = .agg #[.int .u64 (U q.1), .int .u64 (U q.2)] ∧ True := by
  obtain ⟨c0, c1, rfl, fuel, y0, y1, h0, h1⟩ := open_pair Try.underlying23 (by kernel_rfl) (by kernel_rfl) o h
  obtain ⟨n0, e0, _, w0⟩ := DataW.trod_int Try.underlying22 h0
  obtain ⟨n1, e1, _, w1⟩ := DataW.trod_int Try.underlying22 h1
  obtain ⟨a, rfl⟩ := wf_u64 w0
  obtain ⟨b, rfl⟩ := wf_u64 w1
  simp at e0 e1
  subst e0 e1
  exact ⟨(a, b), rfl, trivial⟩
set_option maxRecDepth 100000 in
theorem open_two {W : World} {base : Nat} {v : Value} {d : DataW H} {p : List MemPlace} (o : Value.okWide Try.prog W .any base 25 v) (h : DataW.Trod enc Try.prog W 0 (fun _ => true) true 25 v d p) :
    ∃ q : BitVec 8 × BitVec 8, v = .agg #[.int .u8 (U q.1), .int .u8 (U q.2)] ∧ True := by
  obtain ⟨c0, c1, rfl, fuel, y0, y1, h0, h1⟩ := open_pair Try.underlying25 (by kernel_rfl) (by kernel_rfl) o h
  obtain ⟨n0, e0, _, w0⟩ := DataW.trod_int Try.underlying5 h0
  obtain ⟨n1, e1, _, w1⟩ := DataW.trod_int Try.underlying5 h1
  obtain ⟨a, rfl⟩ := wf_u8 w0
  obtain ⟨b, rfl⟩ := wf_u8 w1
  simp at e0 e1
  subst e0 e1
  exact ⟨(a, b), rfl, trivial⟩
end Go.Proofs.Ytapfagbegndgjaa

/-
  A document's head as an argument.
  Conditions: none.
-/
import Derived.Test.YtfdipeaddofjaaaSup15
import Derived.Test.YtfdipeaddofjaaaJP2
namespace Go.Proofs.Ytfdipeaddofjaaa
open Go.ChangeShapes Go.WideShapes Go.ChangeAt Go.RowKit Go.Deep

structure HeadP.I (x : HeadP) : Prop where
  gen : I64 x.gen
  page : I64 x.page
  stamp : I64 x.stamp
  depth : I64 x.depth
  log : I64 x.log
  region : I64 x.region
  time : I64 x.time
theorem HeadP.I.wf {x : HeadP} (h : x.I) : x.Wf := ⟨h.gen.2, h.stamp.2, h.log.2, h.region.2⟩
theorem one3 : Try.prog.cellsOf 3 = 1 := by kernel_rfl
theorem one22 : Try.prog.cellsOf 22 = 1 := by kernel_rfl
theorem eight24 : Try.prog.cellsOf 24 = 8 := by kernel_rfl
section
variable {H : Type} {enc : TypeId × Value → H}
set_option maxRecDepth 100000 in
theorem plan_row {W : World} {n : Nat} {c0 c1 c2 c3 c4 c5 c6 c7 : Value} {y : DataW H × List MemPlace} (h : DataW.trod enc Try.prog W 0 (fun _ => true) true n 24 [c0, c1, c2, c3, c4, c5, c6, c7] = some y) : ∃ q : PlanP, #[c0, c1, c2, c3, c4, c5, c6, c7] = q.cells := by
  obtain ⟨xs, m, _, _, _, hlen, hg⟩ := DataW.trod_struct Try.underlying24 h
  have hl : xs.length = 8 := hlen
  have g0 : DataW.trod enc Try.prog W 0 (fun _ => true) true m 3 (List.take (Try.prog.cellsOf 3) [c0, c1, c2, c3, c4, c5, c6, c7]) = xs[0]? := hg 0 _ rfl
  rw [one3] at g0
  change DataW.trod enc Try.prog W 0 (fun _ => true) true m 3 [c0] = xs[0]? at g0
  rw [List.getElem?_eq_getElem (by omega)] at g0
  obtain ⟨i0, rfl, _⟩ := int_of g0
  have g1 : DataW.trod enc Try.prog W 0 (fun _ => true) true m 3 (List.take (Try.prog.cellsOf 3) [c1, c2, c3, c4, c5, c6, c7]) = xs[1]? := hg 1 _ rfl
  rw [one3] at g1
  change DataW.trod enc Try.prog W 0 (fun _ => true) true m 3 [c1] = xs[1]? at g1
  rw [List.getElem?_eq_getElem (by omega)] at g1
  obtain ⟨i1, rfl, _⟩ := int_of g1
  have g2 : DataW.trod enc Try.prog W 0 (fun _ => true) true m 3 (List.take (Try.prog.cellsOf 3) [c2, c3, c4, c5, c6, c7]) = xs[2]? := hg 2 _ rfl
  rw [one3] at g2
  change DataW.trod enc Try.prog W 0 (fun _ => true) true m 3 [c2] = xs[2]? at g2
  rw [List.getElem?_eq_getElem (by omega)] at g2
  obtain ⟨i2, rfl, _⟩ := int_of g2
  have g3 : DataW.trod enc Try.prog W 0 (fun _ => true) true m 3 (List.take (Try.prog.cellsOf 3) [c3, c4, c5, c6, c7]) = xs[3]? := hg 3 _ rfl
  rw [one3] at g3
  change DataW.trod enc Try.prog W 0 (fun _ => true) true m 3 [c3] = xs[3]? at g3
  rw [List.getElem?_eq_getElem (by omega)] at g3
  obtain ⟨i3, rfl, _⟩ := int_of g3
  have g4 : DataW.trod enc Try.prog W 0 (fun _ => true) true m 3 (List.take (Try.prog.cellsOf 3) [c4, c5, c6, c7]) = xs[4]? := hg 4 _ rfl
  rw [one3] at g4
  change DataW.trod enc Try.prog W 0 (fun _ => true) true m 3 [c4] = xs[4]? at g4
  rw [List.getElem?_eq_getElem (by omega)] at g4
  obtain ⟨i4, rfl, _⟩ := int_of g4
  have g5 : DataW.trod enc Try.prog W 0 (fun _ => true) true m 3 (List.take (Try.prog.cellsOf 3) [c5, c6, c7]) = xs[5]? := hg 5 _ rfl
  rw [one3] at g5
  change DataW.trod enc Try.prog W 0 (fun _ => true) true m 3 [c5] = xs[5]? at g5
  rw [List.getElem?_eq_getElem (by omega)] at g5
  obtain ⟨i5, rfl, _⟩ := int_of g5
  have g6 : DataW.trod enc Try.prog W 0 (fun _ => true) true m 3 (List.take (Try.prog.cellsOf 3) [c6, c7]) = xs[6]? := hg 6 _ rfl
  rw [one3] at g6
  change DataW.trod enc Try.prog W 0 (fun _ => true) true m 3 [c6] = xs[6]? at g6
  rw [List.getElem?_eq_getElem (by omega)] at g6
  obtain ⟨i6, rfl, _⟩ := int_of g6
  have g7 : DataW.trod enc Try.prog W 0 (fun _ => true) true m 22 (List.take (Try.prog.cellsOf 22) [c7]) = xs[7]? := hg 7 _ rfl
  rw [one22] at g7
  change DataW.trod enc Try.prog W 0 (fun _ => true) true m 22 [c7] = xs[7]? at g7
  rw [List.getElem?_eq_getElem (by omega)] at g7
  obtain ⟨x7, rfl⟩ := u64_of g7
  exact ⟨⟨i0, i1, i2, i3, i4, i5, i6, x7⟩, rfl⟩
set_option maxRecDepth 100000 in
theorem open_head {W : World} {base : Nat} {v : Value} {d : DataW H} {p : List MemPlace} (o : Value.okWide Try.prog W .any base 26 v) (h : DataW.Trod enc Try.prog W 0 (fun _ => true) true 26 v d p) : ∃ q : HeadP, v = .agg q.cells ∧ q.I := by
  obtain ⟨cs, rfl, hsz⟩ := okWide_struct Try.underlying26 o
  obtain ⟨l⟩ := cs
  obtain ⟨fuel, hf⟩ := h
  obtain ⟨xs, n, _, _, hcl, hlen, hg⟩ := DataW.trod_struct Try.underlying26 hf
  have hl : xs.length = 8 := hlen
  have h15 : l.length = 15 := by
    have e : Try.prog.cellsOf 26 = 15 := by kernel_rfl
    rw [e] at hcl
    exact hcl
  match l, h15 with
  | [c0, c1, c2, c3, c4, c5, c6, c7, c8, c9, c10, c11, c12, c13, c14], _ =>
    have g0 : DataW.trod enc Try.prog W 0 (fun _ => true) true n 24 (List.take (Try.prog.cellsOf 24) [c0, c1, c2, c3, c4, c5, c6, c7, c8, c9, c10, c11, c12, c13, c14]) = xs[0]? := hg 0 _ rfl
    rw [eight24] at g0
    change DataW.trod enc Try.prog W 0 (fun _ => true) true n 24 [c0, c1, c2, c3, c4, c5, c6, c7] = xs[0]? at g0
    rw [List.getElem?_eq_getElem (by omega)] at g0
    obtain ⟨q, hq⟩ := plan_row g0
    have g1 : DataW.trod enc Try.prog W 0 (fun _ => true) true n 3 (List.take (Try.prog.cellsOf 3) [c8, c9, c10, c11, c12, c13, c14]) = xs[1]? := hg 1 _ rfl
    rw [one3] at g1
    change DataW.trod enc Try.prog W 0 (fun _ => true) true n 3 [c8] = xs[1]? at g1
    rw [List.getElem?_eq_getElem (by omega)] at g1
    obtain ⟨i1, rfl, w1⟩ := int_of g1
    have g2 : DataW.trod enc Try.prog W 0 (fun _ => true) true n 3 (List.take (Try.prog.cellsOf 3) [c9, c10, c11, c12, c13, c14]) = xs[2]? := hg 2 _ rfl
    rw [one3] at g2
    change DataW.trod enc Try.prog W 0 (fun _ => true) true n 3 [c9] = xs[2]? at g2
    rw [List.getElem?_eq_getElem (by omega)] at g2
    obtain ⟨i2, rfl, w2⟩ := int_of g2
    have g3 : DataW.trod enc Try.prog W 0 (fun _ => true) true n 3 (List.take (Try.prog.cellsOf 3) [c10, c11, c12, c13, c14]) = xs[3]? := hg 3 _ rfl
    rw [one3] at g3
    change DataW.trod enc Try.prog W 0 (fun _ => true) true n 3 [c10] = xs[3]? at g3
    rw [List.getElem?_eq_getElem (by omega)] at g3
    obtain ⟨i3, rfl, w3⟩ := int_of g3
    have g4 : DataW.trod enc Try.prog W 0 (fun _ => true) true n 3 (List.take (Try.prog.cellsOf 3) [c11, c12, c13, c14]) = xs[4]? := hg 4 _ rfl
    rw [one3] at g4
    change DataW.trod enc Try.prog W 0 (fun _ => true) true n 3 [c11] = xs[4]? at g4
    rw [List.getElem?_eq_getElem (by omega)] at g4
    obtain ⟨i4, rfl, w4⟩ := int_of g4
    have g5 : DataW.trod enc Try.prog W 0 (fun _ => true) true n 3 (List.take (Try.prog.cellsOf 3) [c12, c13, c14]) = xs[5]? := hg 5 _ rfl
    rw [one3] at g5
    change DataW.trod enc Try.prog W 0 (fun _ => true) true n 3 [c12] = xs[5]? at g5
    rw [List.getElem?_eq_getElem (by omega)] at g5
    obtain ⟨i5, rfl, w5⟩ := int_of g5
    have g6 : DataW.trod enc Try.prog W 0 (fun _ => true) true n 3 (List.take (Try.prog.cellsOf 3) [c13, c14]) = xs[6]? := hg 6 _ rfl
    rw [one3] at g6
    change DataW.trod enc Try.prog W 0 (fun _ => true) true n 3 [c13] = xs[6]? at g6
    rw [List.getElem?_eq_getElem (by omega)] at g6
    obtain ⟨i6, rfl, w6⟩ := int_of g6
    have g7 : DataW.trod enc Try.prog W 0 (fun _ => true) true n 3 (List.take (Try.prog.cellsOf 3) [c14]) = xs[7]? := hg 7 _ rfl
    rw [one3] at g7
    change DataW.trod enc Try.prog W 0 (fun _ => true) true n 3 [c14] = xs[7]? at g7
    rw [List.getElem?_eq_getElem (by omega)] at g7
    obtain ⟨i7, rfl, w7⟩ := int_of g7
    refine ⟨⟨q, i1, i2, i3, i4, i5, i6, i7⟩, ?_, ⟨w1, w2, w3, w4, w5, w6, w7⟩⟩
    change Value.agg (#[c0, c1, c2, c3, c4, c5, c6, c7] ++ #[.int .i64 i1, .int .i64 i2, .int .i64 i3, .int .i64 i4, .int .i64 i5, .int .i64 i6, .int .i64 i7]) = _
    rw [hq]
    rfl
end
end Go.Proofs.Ytfdipeaddofjaaa

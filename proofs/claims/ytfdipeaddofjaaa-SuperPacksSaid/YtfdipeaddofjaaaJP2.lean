/-
  Joined: PlanLaw, PlanLaw2.
  Conditions: none.
-/
import Derived.Test.YtfdipeaddofjaaaPlan3
import Derived.Test.YtfdipeaddofjaaaLaw
import Derived.Deep.Fields
namespace Go.Proofs.Ytfdipeaddofjaaa
open Go.ChangeShapes Go.WideShapes Go.ChangeAt Go.RowKit Go.Deep

section
variable {H : Type} {enc : TypeId × Value → H} {P : Program} {w : World} {base : Nat} {spare : Nat → Bool} {held : Bool}
/-- A struct of one-cell fields, by value: its cells, and what each reads as. -/
theorem open_agg_any {r : Reach} {b0 : Nat} {t : TypeId} {fs : Array Field} {v : Value} {d : DataW H} {p : List MemPlace} (hs : P.underlying t = some (.struct fs)) (hone : oneCellFields P fs = true)
    (hv : Value.okWide P w r b0 t v) (h : DataW.Trod enc P w base spare held t v d p) :
    ∃ (cs : List Value) (n : Nat), v = .agg cs.toArray ∧ cs.length = P.cellsOf t ∧ ∀ (j : Nat) (f : Field) (u : Value), fs[j]? = some f → cs[j]? = some u → ∃ y, DataW.trod enc P w base spare held n f.type [u] = some y := by
  obtain ⟨cs, rfl, hsz⟩ := okWide_struct hs hv
  obtain ⟨l⟩ := cs
  obtain ⟨fuel, hf⟩ := h
  obtain ⟨xs, n, _, hx, _, hlen, hg⟩ := DataW.trod_struct hs hf
  refine ⟨l, n, rfl, hsz, fun j f u hj hu => ?_⟩
  obtain ⟨o, k⟩ := hone_of hone j f hj
  have hjl : j < xs.length := by rw [hlen]; exact (Array.getElem?_eq_some_iff.1 hj).1
  have h1 := hg j f hj
  have hul : j < l.length := (List.getElem?_eq_some_iff.1 hu).1
  have hue : l[j] = u := (List.getElem?_eq_some_iff.1 hu).2
  refine ⟨xs[j], ?_⟩
  rw [o, k] at h1
  have e : ((Value.agg ⟨l⟩).cells.toList.drop j).take 1 = [u] := by
    simp only [Value.cells]
    rw [List.drop_eq_getElem_cons hul, hue]
    rfl
  rw [e] at h1
  rw [h1, List.getElem?_eq_getElem hjl]
end

/-- The plan's numbers are numbers of 64 bits. -/
def I64 (i : Int) : Prop := -9223372036854775808 ≤ i ∧ i ≤ 9223372036854775807
structure PlanP.wf (p : PlanP) : Prop where
  sectors : I64 p.sectors
  size : I64 p.size
  regions : I64 p.regions
  rs : I64 p.rs
  log : I64 p.log
  depth : I64 p.depth
  memory : I64 p.memory
section
variable {H : Type} {enc : TypeId × Value → H}
set_option maxRecDepth 100000 in
theorem int_of {W : World} {n : Nat} {u : Value} {y : DataW H × List MemPlace} (h : DataW.trod enc Try.prog W 0 (fun _ => true) true n 3 [u] = some y) : ∃ i, u = .int .i64 i ∧ I64 i := by
  obtain ⟨k, e1, _, hw⟩ := DataW.trod_int Try.underlying3 h
  refine ⟨k, by simpa using e1, ?_⟩
  have := hw
  simp [Lit.wf, IntKind.min, IntKind.max, IntKind.bits, IntKind.signed] at this
  exact ⟨by omega, by omega⟩
set_option maxRecDepth 100000 in
theorem u64_of {W : World} {n : Nat} {u : Value} {y : DataW H × List MemPlace} (h : DataW.trod enc Try.prog W 0 (fun _ => true) true n 22 [u] = some y) : ∃ x : BitVec 64, u = .int .u64 (U x) := by
  obtain ⟨k, e1, _, hw⟩ := DataW.trod_int Try.underlying22 h
  obtain ⟨x, rfl⟩ := wf_u64 hw
  exact ⟨x, by simpa using e1⟩
set_option maxRecDepth 100000 in
theorem open_plan {W : World} {base : Nat} {v : Value} {d : DataW H} {p : List MemPlace} (o : Value.okWide Try.prog W .any base 24 v) (h : DataW.Trod enc Try.prog W 0 (fun _ => true) true 24 v d p) : ∃ q : PlanP, v = .agg q.cells ∧ q.wf := by
  obtain ⟨cs, n, rfl, hlen, hc⟩ := open_agg_any Try.underlying24 (by kernel_rfl) o h
  have h8 : Try.prog.cellsOf 24 = 8 := by kernel_rfl
  rw [h8] at hlen
  match cs, hlen with
  | [c0, c1, c2, c3, c4, c5, c6, c7], _ =>
    obtain ⟨_, y0⟩ := hc 0 _ c0 rfl rfl
    obtain ⟨_, y1⟩ := hc 1 _ c1 rfl rfl
    obtain ⟨_, y2⟩ := hc 2 _ c2 rfl rfl
    obtain ⟨_, y3⟩ := hc 3 _ c3 rfl rfl
    obtain ⟨_, y4⟩ := hc 4 _ c4 rfl rfl
    obtain ⟨_, y5⟩ := hc 5 _ c5 rfl rfl
    obtain ⟨_, y6⟩ := hc 6 _ c6 rfl rfl
    obtain ⟨_, y7⟩ := hc 7 _ c7 rfl rfl
    obtain ⟨i0, rfl, w0⟩ := int_of y0
    obtain ⟨i1, rfl, w1⟩ := int_of y1
    obtain ⟨i2, rfl, w2⟩ := int_of y2
    obtain ⟨i3, rfl, w3⟩ := int_of y3
    obtain ⟨i4, rfl, w4⟩ := int_of y4
    obtain ⟨i5, rfl, w5⟩ := int_of y5
    obtain ⟨i6, rfl, w6⟩ := int_of y6
    obtain ⟨x7, rfl⟩ := u64_of y7
    exact ⟨⟨i0, i1, i2, i3, i4, i5, i6, x7⟩, rfl, ⟨w0, w1, w2, w3, w4, w5, w6⟩⟩
end

/-- The example's plan. -/
def plan06 : PlanP := ⟨300, 96, 3, 2, 4, 3, 8, 0#64⟩
theorem plan06_cells : plan06.cells = #[.int .i64 300, .int .i64 96, .int .i64 3, .int .i64 2, .int .i64 4, .int .i64 3, .int .i64 8, .int .u64 0] := rfl
theorem plan06_fit : plan06.fit.cells = #[.int .i64 2, .int .i64 6, .int .i64 12, .int .i64 288, .int .i64 6, .int .i64 3, .int .i64 11, .int .i64 154] := by kernel_rfl
theorem plan06_err : plan06.err = 0 := by kernel_rfl
end Go.Proofs.Ytfdipeaddofjaaa
namespace Go.Proofs.Ytfdipeaddofjaaa
open Go.RowKit

theorem kr_sz (p : PlanP) : (Try.prog.info? 24).map (·.size) = some p.cells.size := by show _ = some 8; kernel_rfl
/-- Behind a call of 'of' and one of 'Fit': the layout lies in a block of its own, all else is as it was. -/
theorem round_lay {W w1 w2 : World} (x : LayP) {B : Nat} {cs : Array Value} {t : TypeId} (hB : W.heap[B]? = some (.cells cs t (0, 0))) (h1 : Below W.heap.size W w1) (h2 : Below w1.heap.size w1 w2) :
    ((w2.alloc (.cells LayP.zero.cells 60)).setRow w2.heap.size x.cells).heap[B]? = some (.cells cs t (0, 0)) ∧ ((w2.alloc (.cells LayP.zero.cells 60)).setRow w2.heap.size x.cells).heap[w2.heap.size]? = some (.cells x.cells 60 (0, 0)) ∧
      Below W.heap.size W ((w2.alloc (.cells LayP.zero.cells 60)).setRow w2.heap.size x.cells) ∧ W.heap.size ≤ w2.heap.size ∧ B < w2.heap.size := by
  have l1 := h1.size
  have l2 := h2.size
  have lB := blk_lt hB
  refine ⟨?_, setRow_heap _ _ _ _ _ _ (heap_alloc_new _ _), ?_, by omega, by omega⟩
  · rw [setRow_other (by omega), Below.heap_alloc _ _ _ (by omega), h2.block _ (by omega), h1.block _ (by omega)]
    exact hB
  · exact below_setRow ((h1.trans (h2.mono l1)).alloc (by omega) _) (by omega) _

theorem fit_yes {p : PlanP} (h : p.fits = true) : p.fit = p.lay ∧ p.err = 0 := by unfold PlanP.fit PlanP.err; rw [h]; exact ⟨rfl, rfl⟩
theorem fit_no {p : PlanP} (h : p.fits = false) : p.fit = LayP.zero ∧ p.err = 12 := by unfold PlanP.fit PlanP.err; rw [h]; exact ⟨rfl, rfl⟩
/-- The plan with other sectors. -/
def PlanP.withS (p : PlanP) (s : Int) : PlanP := { p with sectors := s }
theorem withS_cells (p : PlanP) (s : Int) : p.cells.setIfInBounds 0 (.int .i64 s) = (p.withS s).cells := rfl
theorem withS_lay (p : PlanP) (s : Int) : (p.withS s).lay = { p.lay with pages := s - p.lay.page } := rfl
theorem fits_iff (p : PlanP) : p.fits = true ↔ p.Alone ∧ (1 ≤ p.many ∧ p.many ≤ p.lay.per * p.lay.per) ∧ (3 * p.lay.tree + 4 ≤ p.lay.pages ∧ p.lay.pages ≤ 16384) := by
  unfold PlanP.fits
  rw [Bool.and_eq_true, alone_iff]
  unfold PlanP.together Bnd.ok
  simp only [List.all_cons, List.all_nil, Bool.and_true, Bool.and_eq_true, decide_eq_true_eq]
theorem alone_withS {p : PlanP} (h : p.Alone) {s : Int} (hs : 1 ≤ s ∧ s ≤ 16384) : (p.withS s).Alone := ⟨h.size, hs, h.regions, h.rs, h.log, h.depth, h.memory⟩
theorem fits_withS {p : PlanP} (h : p.fits = true) {s : Int} (h1 : p.lay.page + 3 * p.lay.tree + 4 ≤ s) (h2 : s ≤ 16384) : (p.withS s).fits = true := by
  obtain ⟨ha, hb, hc⟩ := (fits_iff p).1 h
  have hl := lay_bound ha
  have hpg : 2 ≤ p.lay.page := by
    show 2 ≤ 2 + p.log + p.regions * p.rs
    have := ha.log; have := hl.2.2.2.1.1; omega
  have htr := hl.2.2.1
  refine (fits_iff _).2 ⟨alone_withS ha ⟨by omega, h2⟩, hb, ?_⟩
  rw [withS_lay]
  show 3 * p.lay.tree + 4 ≤ s - p.lay.page ∧ s - p.lay.page ≤ 16384
  omega
theorem fits_less {p : PlanP} {s : Int} (h1 : s < p.lay.page + 3 * p.lay.tree + 4) : (p.withS s).fits = false := by
  cases e : (p.withS s).fits with
  | false => rfl
  | true =>
    obtain ⟨_, _, hc, _⟩ := (fits_iff _).1 e
    rw [withS_lay] at hc
    have hc : 3 * p.lay.tree + 4 ≤ s - p.lay.page := hc
    omega

end Go.Proofs.Ytfdipeaddofjaaa

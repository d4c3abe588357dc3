/-
  What the laws of plan share: a plan as an argument, sgraffitolaw06.of, awake.
  Conditions: none.
-/
import Derived.Test.YthdclndpckojcaaPlan3
import Derived.Test.YthdclndpckojcaaLaw
import Derived.Deep.Fields
namespace Go.Proofs.Ythdclndpckojcaa
open Go.ChangeShapes Go.WideShapes Go.ChangeAt Go.RowKit Go.Deep

section
variable {H : Type} {enc : TypeId × Value → H} {P : Program} {w : World} {base : Nat} {spare : Nat → Bool} {held : Bool}
/-- A struct of one-cell fields, by value: its cells, and what each reads as. -/
theorem open_agg_any {r : Reach} {b0 : Nat} {t : TypeId} {fs : Array Field} {v : Value} {d : DataW H} {p : List MemPlace} (hs : P.underlying t = some (.struct fs)) (hone : oneCellFields P fs = true)
    (hv : Value.okWide P w r b0 t v) (h : DataW.Trod enc P w base spare held t v d p) :
    ∃ (cs : List Value) (n : Nat), v = .agg cs.toArray ∧ cs.length = P.cellsOf t ∧ ∀ (j : Nat) (f : Field) (u : Value), fs[j]? = some f → cs[j]? = some u → ∃ y, DataW.trod enc P w base spare held n f.type [u] = some y := by
  obtain ⟨cs, rfl, hsz⟩ := okWide_struct hs hv
  obtain ⟨l⟩ := cs
  obtain ⟨fuel, hf⟩ := h
  obtain ⟨xs, n, _, hx, _, hlen, hg⟩ := DataW.trod_struct hs hf
  refine ⟨l, n, rfl, hsz, fun j f u hj hu => ?_⟩
  obtain ⟨o, k⟩ := hone_of hone j f hj
  have hjl : j < xs.length := by rw [hlen]; exact (Array.getElem?_eq_some_iff.1 hj).1
  have h1 := hg j f hj
  have hul : j < l.length := (List.getElem?_eq_some_iff.1 hu).1
  have hue : l[j] = u := (List.getElem?_eq_some_iff.1 hu).2
  refine ⟨xs[j], ?_⟩
  rw [o, k] at h1
  have e : ((Value.agg ⟨l⟩).cells.toList.drop j).take 1 = [u] := by
    simp only [Value.cells]
    rw [List.drop_eq_getElem_cons hul, hue]
    rfl
  rw [e] at h1
  rw [h1, List.getElem?_eq_getElem hjl]
end

/-- The plan's numbers are numbers of 64 bits. -/
def I64 (i : Int) : Prop := -9223372036854775808 ≤ i ∧ i ≤ 9223372036854775807
structure PlanP.wf (p : PlanP) : Prop where
  sectors : I64 p.sectors
  size : I64 p.size
  regions : I64 p.regions
  rs : I64 p.rs
  log : I64 p.log
  depth : I64 p.depth
  memory : I64 p.memory
section
variable {H : Type} {enc : TypeId × Value → H}
set_option maxRecDepth 100000 in
theorem int_of {W : World} {n : Nat} {u : Value} {y : DataW H × List MemPlace} (h : DataW.trod enc Try.prog W 0 (fun _ => true) true n 3 [u] = some y) : ∃ i, u = .int .i64 i ∧ I64 i := by
  obtain ⟨k, e1, _, hw⟩ := DataW.trod_int Try.underlying3 h
  refine ⟨k, by simpa using e1, ?_⟩
  have := hw
  simp [Lit.wf, IntKind.min, IntKind.max, IntKind.bits, IntKind.signed] at this
  exact ⟨by omega, by omega⟩
set_option maxRecDepth 100000 in
theorem u64_of {W : World} {n : Nat} {u : Value} {y : DataW H × List MemPlace} (h : DataW.trod enc Try.prog W 0 (fun _ => true) true n 22 [u] = some y) : ∃ x : BitVec 64, u = .int .u64 (U x) := by
  obtain ⟨k, e1, _, hw⟩ := DataW.trod_int Try.underlying22 h
  obtain ⟨x, rfl⟩ := wf_u64 hw
  exact ⟨x, by simpa using e1⟩
set_option maxRecDepth 100000 in
theorem open_plan {W : World} {base : Nat} {v : Value} {d : DataW H} {p : List MemPlace} (o : Value.okWide Try.prog W .any base 24 v) (h : DataW.Trod enc Try.prog W 0 (fun _ => true) true 24 v d p) : ∃ q : PlanP, v = .agg q.cells ∧ q.wf := by
  obtain ⟨cs, n, rfl, hlen, hc⟩ := open_agg_any Try.underlying24 (by kernel_rfl) o h
  have h8 : Try.prog.cellsOf 24 = 8 := by kernel_rfl
  rw [h8] at hlen
  match cs, hlen with
  | [c0, c1, c2, c3, c4, c5, c6, c7], _ =>
    obtain ⟨_, y0⟩ := hc 0 _ c0 rfl rfl
    obtain ⟨_, y1⟩ := hc 1 _ c1 rfl rfl
    obtain ⟨_, y2⟩ := hc 2 _ c2 rfl rfl
    obtain ⟨_, y3⟩ := hc 3 _ c3 rfl rfl
    obtain ⟨_, y4⟩ := hc 4 _ c4 rfl rfl
    obtain ⟨_, y5⟩ := hc 5 _ c5 rfl rfl
    obtain ⟨_, y6⟩ := hc 6 _ c6 rfl rfl
    obtain ⟨_, y7⟩ := hc 7 _ c7 rfl rfl
    obtain ⟨i0, rfl, w0⟩ := int_of y0
    obtain ⟨i1, rfl, w1⟩ := int_of y1
    obtain ⟨i2, rfl, w2⟩ := int_of y2
    obtain ⟨i3, rfl, w3⟩ := int_of y3
    obtain ⟨i4, rfl, w4⟩ := int_of y4
    obtain ⟨i5, rfl, w5⟩ := int_of y5
    obtain ⟨i6, rfl, w6⟩ := int_of y6
    obtain ⟨x7, rfl⟩ := u64_of y7
    exact ⟨⟨i0, i1, i2, i3, i4, i5, i6, x7⟩, rfl, ⟨w0, w1, w2, w3, w4, w5, w6⟩⟩
end

set_option maxRecDepth 100000 in
set_option maxHeartbeats 1000000 in
theorem of06 (p : PlanP) (w : World) : Calls Try.prog 6 #[.agg p.cells] w fun e w' => e = .returned (.agg p.cells) ∧ Below w.heap.size w w' := by
  unfold PlanP.cells
  go_enter Try.func6, Try.ntmps6
  go_wp2
  refine bodyPost_ret (v := .agg p.cells) (by simp [PlanP.cells, results, Try.results6, go_sem]) rfl ⟨rfl, ?_⟩
  exact ((Below.refl _ w).alloc (Nat.le_refl _) _).alloc (by simp) _

/-- The example's plan. -/
def plan06 : PlanP := ⟨300, 96, 3, 2, 4, 3, 8, 0#64⟩
theorem plan06_cells : plan06.cells = #[.int .i64 300, .int .i64 96, .int .i64 3, .int .i64 2, .int .i64 4, .int .i64 3, .int .i64 8, .int .u64 0] := rfl
theorem plan06_fit : plan06.fit.cells = #[.int .i64 2, .int .i64 6, .int .i64 12, .int .i64 288, .int .i64 6, .int .i64 3, .int .i64 11, .int .i64 154] := by kernel_rfl
theorem plan06_err : plan06.err = 0 := by kernel_rfl
set_option maxRecDepth 100000 in
set_option maxHeartbeats 1000000 in
theorem awake06 (w : World) : Calls Try.prog 10 #[] w fun e w' => e = .returned (.bool true) ∧ Below w.heap.size w w' := by
  have HF := Lib.hid (fit_any plan06)
  rw [plan06_cells, plan06_fit, plan06_err] at HF
  go_enter Try.func10, Try.ntmps10
  go_wp2_with ((go_at_call 5; (with_reducible refine (HF.out _).mono ?_); rintro e w1 ⟨rfl, hb1⟩; have HB := Lib.hid hb1; clear hb1))
  go_ret
  exact ⟨rfl, HB.out.alloc HB.out.size _⟩

end Go.Proofs.Ythdclndpckojcaa

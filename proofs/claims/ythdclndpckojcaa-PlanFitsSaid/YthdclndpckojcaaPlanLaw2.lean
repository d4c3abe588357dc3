/-
  What PlanLeast and PlanParts share: a plan is fitted, its layout lies in a block of its own; a plan with other sectors.
  Conditions: none.
-/
import Derived.Test.YthdclndpckojcaaPlanLaw
namespace Go.Proofs.Ythdclndpckojcaa
open Go.RowKit

theorem kr_sz (p : PlanP) : (Try.prog.info? 24).map (·.size) = some p.cells.size := by show _ = some 8; kernel_rfl
/-- Behind a call of 'of' and one of 'Fit': the layout lies in a block of its own, all else is as it was. -/
theorem round_lay {W w1 w2 : World} (x : LayP) {B : Nat} {cs : Array Value} {t : TypeId} (hB : W.heap[B]? = some (.cells cs t (0, 0))) (h1 : Below W.heap.size W w1) (h2 : Below w1.heap.size w1 w2) :
    ((w2.alloc (.cells LayP.zero.cells 26)).setRow w2.heap.size x.cells).heap[B]? = some (.cells cs t (0, 0)) ∧ ((w2.alloc (.cells LayP.zero.cells 26)).setRow w2.heap.size x.cells).heap[w2.heap.size]? = some (.cells x.cells 26 (0, 0)) ∧
      Below W.heap.size W ((w2.alloc (.cells LayP.zero.cells 26)).setRow w2.heap.size x.cells) ∧ W.heap.size ≤ w2.heap.size ∧ B < w2.heap.size := by
  have l1 := h1.size
  have l2 := h2.size
  have lB := blk_lt hB
  refine ⟨?_, setRow_heap _ _ _ _ _ _ (heap_alloc_new _ _), ?_, by omega, by omega⟩
  · rw [setRow_other (by omega), Below.heap_alloc _ _ _ (by omega), h2.block _ (by omega), h1.block _ (by omega)]
    exact hB
  · exact below_setRow ((h1.trans (h2.mono l1)).alloc (by omega) _) (by omega) _

theorem fit_yes {p : PlanP} (h : p.fits = true) : p.fit = p.lay ∧ p.err = 0 := by unfold PlanP.fit PlanP.err; rw [h]; exact ⟨rfl, rfl⟩
theorem fit_no {p : PlanP} (h : p.fits = false) : p.fit = LayP.zero ∧ p.err = 12 := by unfold PlanP.fit PlanP.err; rw [h]; exact ⟨rfl, rfl⟩
/-- The plan with other sectors. -/
def PlanP.withS (p : PlanP) (s : Int) : PlanP := { p with sectors := s }
theorem withS_cells (p : PlanP) (s : Int) : p.cells.setIfInBounds 0 (.int .i64 s) = (p.withS s).cells := rfl
theorem withS_lay (p : PlanP) (s : Int) : (p.withS s).lay = { p.lay with pages := s - p.lay.page } := rfl
theorem fits_iff (p : PlanP) : p.fits = true ↔ p.Alone ∧ (1 ≤ p.many ∧ p.many ≤ p.lay.per * p.lay.per) ∧ (3 * p.lay.tree + 4 ≤ p.lay.pages ∧ p.lay.pages ≤ 16384) := by
  unfold PlanP.fits
  rw [Bool.and_eq_true, alone_iff]
  unfold PlanP.together Bnd.ok
  simp only [List.all_cons, List.all_nil, Bool.and_true, Bool.and_eq_true, decide_eq_true_eq]
theorem alone_withS {p : PlanP} (h : p.Alone) {s : Int} (hs : 1 ≤ s ∧ s ≤ 16384) : (p.withS s).Alone := ⟨h.size, hs, h.regions, h.rs, h.log, h.depth, h.memory⟩
theorem fits_withS {p : PlanP} (h : p.fits = true) {s : Int} (h1 : p.lay.page + 3 * p.lay.tree + 4 ≤ s) (h2 : s ≤ 16384) : (p.withS s).fits = true := by
  obtain ⟨ha, hb, hc⟩ := (fits_iff p).1 h
  have hl := lay_bound ha
  have hpg : 2 ≤ p.lay.page := by
    show 2 ≤ 2 + p.log + p.regions * p.rs
    have := ha.log; have := hl.2.2.2.1.1; omega
  have htr := hl.2.2.1
  refine (fits_iff _).2 ⟨alone_withS ha ⟨by omega, h2⟩, hb, ?_⟩
  rw [withS_lay]
  show 3 * p.lay.tree + 4 ≤ s - p.lay.page ∧ s - p.lay.page ≤ 16384
  omega
theorem fits_less {p : PlanP} {s : Int} (h1 : s < p.lay.page + 3 * p.lay.tree + 4) : (p.withS s).fits = false := by
  cases e : (p.withS s).fits with
  | false => rfl
  | true =>
    obtain ⟨_, _, hc, _⟩ := (fits_iff _).1 e
    rw [withS_lay] at hc
    have hc : 3 * p.lay.tree + 4 ≤ s - p.lay.page := hc
    omega

end Go.Proofs.Ythdclndpckojcaa

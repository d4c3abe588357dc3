/-
  Slices of pairs of ints, as arguments.
  Conditions: none.
-/
import Derived.Test.YtjcpiljgbomceaaInts
import Derived.OpenShut
namespace Go.Proofs.Ytjcpiljgbomceaa
open Go.ChangeShapes Go.WideShapes Go.ChangeAt Go.RowKit Go.Deep

/-- A slice of pairs, in a block below n₀. -/
def PairsAt (n₀ : Nat) (w : World) (v : Value) (l : List (Int × Int)) : Prop :=
  ∃ a cap, v = .slice a l.length cap ∧ l.length ≤ cap ∧ (l = [] ∨ ∃ g off, a = some ⟨g, off, none⟩ ∧ g < n₀ ∧ ∀ i, i < l.length → w.cell? ⟨g, off + i * 2, none⟩ = some (.int .i64 (l[i]?.getD default).1) ∧ w.cell? ⟨g, off + i * 2 + 1, none⟩ = some (.int .i64 (l[i]?.getD default).2))
theorem PairsAt.below {n₀ : Nat} {w w' : World} {v : Value} {l : List (Int × Int)} (h : PairsAt n₀ w v l) (hb : Below n₀ w w') : PairsAt n₀ w' v l := by
  obtain ⟨a, cap, rfl, hl, h⟩ := h
  refine ⟨a, cap, rfl, hl, h.imp id ?_⟩
  rintro ⟨g, off, rfl, hg, hc⟩
  exact ⟨g, off, rfl, hg, fun i hi => ⟨(hb.cell (p := ⟨g, _, none⟩) hg).trans (hc i hi).1, (hb.cell (p := ⟨g, _, none⟩) hg).trans (hc i hi).2⟩⟩
theorem PairsAt.get {n : Nat} {w : World} {a : Option Addr} {k c : Nat} {l : List (Int × Int)} (h : PairsAt n w (.slice a k c) l) {i : Nat} (hi : i < l.length) : ∃ g off, a = some ⟨g, off, none⟩ ∧ g < n ∧ w.cell? ⟨g, off + i * 2, none⟩ = some (.int .i64 (l[i]?.getD default).1) ∧ w.cell? ⟨g, off + i * 2 + 1, none⟩ = some (.int .i64 (l[i]?.getD default).2) := by
  obtain ⟨a', c', e, hl, h⟩ := h
  cases e
  rcases h with h | ⟨g, off, rfl, hg, hc⟩
  · subst h; simp at hi
  · exact ⟨g, off, rfl, hg, hc i hi⟩
section
variable {H : Type} {enc : TypeId × Value → H}
set_option maxRecDepth 100000 in
theorem open_pairs {W : World} {base : Nat} {v : Value} {d : DataW H} {p : List MemPlace} (o : Value.okWide Try.prog W .any base 22 v) (h : DataW.Trod enc Try.prog W 0 (fun _ => true) true 22 v d p) :
    ∃ l, PairsAt W.heap.size W v l ∧ (l.length ≤ maxLen ∧ ∀ i, i < l.length → (Lit.int .i64 (l[i]?.getD default).1).wf = true ∧ (Lit.int .i64 (l[i]?.getD default).2).wf = true) := by
  obtain ⟨a, len, cap, rfl⟩ := okWide_slice Try.underlying22 o
  obtain ⟨fuel, hf⟩ := h
  rcases open_slice Try.underlying22 hf with ⟨hcs, _⟩ | ⟨x, l, c, m, n, D, Pl, hcs, _, hl, hm, hmm, _, hi⟩
  · simp [Value.cells] at hcs
    obtain ⟨rfl, rfl, rfl⟩ := hcs
    exact ⟨[], ⟨none, 0, rfl, Nat.le_refl _, .inl rfl⟩, Nat.zero_le _, fun i hi => (by simp at hi)⟩
  · simp [Value.cells] at hcs
    obtain ⟨rfl, rfl, rfl⟩ := hcs
    simp only [if_true] at hmm
    subst hmm
    have hC : Try.prog.cellsOf 30 = 2 := by kernel_rfl
    have hC1 : Try.prog.cellsOf 3 = 1 := by kernel_rfl
    have each : ∀ i, i < len → ∃ q : Int × Int, W.cell? (x.add (i * 2)) = some (.int .i64 q.1) ∧ W.cell? (x.add (i * 2 + 1)) = some (.int .i64 q.2) ∧ (Lit.int .i64 q.1).wf = true ∧ (Lit.int .i64 q.2).wf = true := by
      intro i hil
      obtain ⟨cs', hc, ht'⟩ := hi i (by omega)
      rw [hC] at hc
      obtain ⟨_, hcl, hat⟩ := World.cells?_some hc
      match cs', hcl with
      | [c0, c1], _ =>
        obtain ⟨xs, m', _, _, _, hl', hel⟩ := DataW.trod_array Try.underlying30 ht'
        have h0 := hel 0 (by decide)
        have h1 := hel 1 (by decide)
        rw [hC1] at h0 h1
        match xs, hl' with
        | [y0, y1], _ =>
          obtain ⟨n0, e0, _, w0⟩ := DataW.trod_int Try.underlying3 h0
          obtain ⟨n1, e1, _, w1⟩ := DataW.trod_int Try.underlying3 h1
          simp at e0 e1
          subst e0 e1
          have a0 := hat 0 (by decide)
          have a1 := hat 1 (by decide)
          rw [Go.Deep.add_add] at a0 a1
          exact ⟨(n0, n1), a0, a1, w0, w1⟩
    refine ⟨(List.range len).map fun i => if hi : i < len then Classical.choose (each i hi) else default, ⟨some x, m, by simp, by simpa using hl, ?_⟩, by simp; omega, fun i hi => ?_⟩
    rotate_left
    · have hi' : i < len := by simpa using hi
      simp only [List.getElem?_map, List.getElem?_range hi', Option.map_some, Option.getD_some, dif_pos hi']
      exact (Classical.choose_spec (each i hi')).2.2
    by_cases h0 : len = 0
    · subst h0; exact .inl rfl
    · obtain ⟨q0, c0, _⟩ := each 0 (by omega)
      obtain ⟨b, off, spot⟩ := x
      obtain rfl := cell_at (by simpa using c0)
      refine .inr ⟨b, off, rfl, ?_, fun i hi => ?_⟩
      · have := World.block_lt_of_cell? _ _ c0
        rw [add_plain] at this
        exact this
      · have hi' : i < len := by simpa using hi
        obtain ⟨s0, s1, _⟩ := Classical.choose_spec (each i hi')
        simp only [List.getElem?_map, List.getElem?_range hi', Option.map_some, Option.getD_some, dif_pos hi', Nat.add_assoc]
        rw [← add_plain, ← add_plain]
        exact ⟨s0, s1⟩
end
end Go.Proofs.Ytjcpiljgbomceaa

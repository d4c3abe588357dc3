/-
  Arguments that are slices of bools or numbers, opened: they read as lists.
  Conditions: none.
-/
import Derived.Test.YtadglpnmhpmebaaOpenBn
import Derived.Test.YtadglpnmhpmebaaFlashHere
namespace Go.Proofs.Ytadglpnmhpmebaa
open Go.ChangeShapes Go.WideShapes Go.ChangeAt Go.RowKit Go.Deep

section
variable {H : Type} {enc : TypeId × Value → H}
set_option maxRecDepth 100000 in
/-- A slice whose elements are of one cell: what each reads as. -/
theorem cells_cell {W : World} {fuel : Nat} {v : Value} {y : DataW H × List MemPlace} {t e : TypeId} (ht : Try.prog.underlying t = some (.slice e)) (hC : Try.prog.cellsOf e = 1) (hv : v.cells = #[v]) (h : DataW.trod enc Try.prog W 0 (fun _ => true) true fuel t [v] = some y) :
    ∃ a len cap, v = .slice a len cap ∧ len ≤ cap ∧ len ≤ maxLen ∧ (a = none → cap = 0) ∧ (len = 0 ∨ ∃ g off, a = some ⟨g, off, none⟩ ∧ g < W.heap.size ∧ ∀ i, i < len →
      ∃ (u : Value) (y : DataW H × List MemPlace) (n : Nat), W.cell? ⟨g, off + i, none⟩ = some u ∧ DataW.trod enc Try.prog W 0 (fun _ => true) true n e [u] = some y) := by
  rcases open_slice ht h with ⟨hcs, _⟩ | ⟨x, l, c, m, n, D, Pl, hcs, _, hl, hm, hmm, _, hi⟩
  · simp at hcs
    subst hcs
    exact ⟨none, 0, 0, rfl, Nat.le_refl _, Nat.zero_le _, fun _ => rfl, .inl rfl⟩
  · simp at hcs
    subst hcs
    simp only [if_true] at hmm
    subst hmm
    refine ⟨some x, l, m, rfl, hl, by omega, fun h => (by cases h), ?_⟩
    by_cases h0 : l = 0
    · exact .inl h0
    · have key : ∀ i, i < l → ∃ (u : Value) (y : DataW H × List MemPlace) (n : Nat), W.cell? (x.add i) = some u ∧ DataW.trod enc Try.prog W 0 (fun _ => true) true n e [u] = some y := by
        intro i hil
        obtain ⟨cs', hc, ht'⟩ := hi i (by omega)
        rw [hC, Nat.mul_one] at hc
        obtain ⟨_, hcl, hat⟩ := World.cells?_some hc
        match cs', hcl with
        | [u], _ =>
          have h1 := hat 0 (by simp)
          rw [Go.Deep.add_add, Nat.add_zero] at h1
          exact ⟨u, _, _, by simpa using h1, ht'⟩
      obtain ⟨u0, _, _, h1, _⟩ := key 0 (by omega)
      obtain ⟨b, off, spot⟩ := x
      obtain rfl := cell_at h1
      refine .inr ⟨b, off, rfl, ?_, fun i hil => ?_⟩
      · have := World.block_lt_of_cell? _ _ h1
        rw [add_plain] at this
        exact this
      · obtain ⟨u, y, n', hu, hy⟩ := key i hil
        rw [add_plain] at hu
        exact ⟨u, y, n', hu, hy⟩

set_option maxRecDepth 100000 in
theorem ints_cell {W : World} {fuel : Nat} {v : Value} {y : DataW H × List MemPlace} (h : DataW.trod enc Try.prog W 0 (fun _ => true) true fuel 35 [v] = some y) (hv : v.cells = #[v]) : ∃ l, IntsIn W.heap.size W v l ∧ l.length ≤ maxLen := by
  obtain ⟨a, len, cap, rfl, hl, hm, ha, hr⟩ := cells_cell Try.underlying35 (by kernel_rfl) hv h
  rcases hr with rfl | ⟨g, off, rfl, hg, hf⟩
  · exact ⟨[], ⟨a, cap, rfl, .inl rfl⟩, Nat.zero_le _⟩
  · have each : ∀ i, i < len → ∃ b : Int, W.cell? ⟨g, off + i, none⟩ = some (.int .i64 b) := by
      intro i hi
      obtain ⟨u, _, _, c, t⟩ := hf i hi
      obtain ⟨b, rfl, _⟩ := int_cell t
      exact ⟨b, c⟩
    refine ⟨(List.range len).map fun i => if hi : i < len then Classical.choose (each i hi) else default, ⟨some ⟨g, off, none⟩, cap, by simp, .inr ⟨g, off, rfl, hg, fun i hi => ?_⟩⟩, by simpa using hm⟩
    have hi' : i < len := by simpa using hi
    simp only [List.getElem?_map, List.getElem?_range hi', Option.map_some, Option.getD_some, dif_pos hi']
    exact Classical.choose_spec (each i hi')
set_option maxRecDepth 100000 in
theorem slice_self {a : Option Addr} {l c : Nat} : (Value.slice a l c).cells = #[.slice a l c] := rfl
set_option maxRecDepth 100000 in
theorem open_ints_arg {W : World} {base : Nat} {v : Value} {d : DataW H} {p : List MemPlace} (o : Value.okWide Try.prog W .any base 35 v) (h : DataW.Trod enc Try.prog W 0 (fun _ => true) true 35 v d p) : ∃ l, IntsIn W.heap.size W v l ∧ l.length ≤ maxLen := by
  obtain ⟨a, len, cap, rfl⟩ := okWide_slice Try.underlying35 o
  obtain ⟨fuel, hf⟩ := h
  exact ints_cell hf rfl
end

end Go.Proofs.Ytadglpnmhpmebaa

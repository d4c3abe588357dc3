/-
  The document's acts as an argument.
  Conditions: none.
-/
import Derived.Test.YtgaabclgoolalaaScr10
namespace Go.Proofs.Ytgaabclgoolalaa
open Go.ChangeShapes Go.WideShapes Go.ChangeAt Go.RowKit Go.Deep

/-- Numbers that an int may be. -/
def SAct.wf (x : SAct) : Prop := N64 x.kind ∧ N64 x.num ∧ ∀ y ∈ x.nums, N64 y
section
variable {H : Type} {enc : TypeId × Value → H}
set_option maxRecDepth 100000 in
theorem open_docs {W : World} {base : Nat} {v : Value} {d : DataW H} {p : List MemPlace} (o : Value.okWide Try.prog W .any base 27 v) (h : DataW.Trod enc Try.prog W 0 (fun _ => true) true 27 v d p) : ∃ l, DocsAt W.heap.size W v l ∧ l.length ≤ maxLen ∧ ∀ x ∈ l, x.wf := by
  obtain ⟨a, len, cap, rfl, hl, hm, ha, hr⟩ := open_structs Try.underlying27 Try.underlying54 (by kernel_rfl) (by kernel_rfl) (by decide) o h
  rcases hr with rfl | ⟨g, off, rfl, hg, hf⟩
  · exact ⟨[], ⟨a, cap, rfl, Nat.zero_le _, .inl rfl⟩, Nat.zero_le _, by simp⟩
  · have each : ∀ i, i < len → ∃ x : SAct, x.wf ∧ DocAt W.heap.size W g (off + i * 5) x := by
      intro i hi
      obtain ⟨u0, _, _, c0, t0⟩ := hf i hi 0 _ rfl
      obtain ⟨u1, _, _, c1, t1⟩ := hf i hi 1 _ rfl
      obtain ⟨u2, _, _, c2, t2⟩ := hf i hi 2 _ rfl
      obtain ⟨u3, _, _, c3, t3⟩ := hf i hi 3 _ rfl
      obtain ⟨u4, _, _, c4, t4⟩ := hf i hi 4 _ rfl
      obtain ⟨kind, rfl, w0⟩ := int_cellv t0
      obtain ⟨key, rfl, w1⟩ := str_cellv t1
      obtain ⟨val, rfl, w2⟩ := str_cellv t2
      obtain ⟨num, rfl, w3⟩ := int_cellv t3
      obtain ⟨nums, hn, _, w4⟩ := ints_cell t4
      obtain ⟨a3, c3', rfl, k1⟩ := hn
      exact ⟨⟨kind, key, val, num, nums⟩, ⟨w0, w3, fun y hy => wf_i64 (w4 y hy)⟩, a3, c3', ⟨c0, c1, c2, c3, c4⟩, ⟨a3, c3', rfl, k1⟩⟩
    refine ⟨(List.range len).map fun i => if hi : i < len then Classical.choose (each i hi) else default, ⟨some ⟨g, off, none⟩, cap, by simp, by simpa using hl, .inr ⟨g, off, rfl, hg, fun i hi => ?_⟩⟩, by simpa using hm, ?_⟩
    · have hi' : i < len := by simpa using hi
      simp only [List.getElem?_map, List.getElem?_range hi', Option.map_some, Option.getD_some, dif_pos hi']
      exact (Classical.choose_spec (each i hi')).2
    · intro x hx
      obtain ⟨i, hi, rfl⟩ := List.mem_map.1 hx
      have hi := List.mem_range.1 hi
      rw [dif_pos hi]
      exact (Classical.choose_spec (each i hi)).1
end
end Go.Proofs.Ytgaabclgoolalaa

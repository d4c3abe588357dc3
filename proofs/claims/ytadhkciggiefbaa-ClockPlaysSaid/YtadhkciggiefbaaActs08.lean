/-
  clock's acts as lists.
  Conditions: none.
-/
import Derived.Test.YtadhkciggiefbaaOpenBn
namespace Go.Proofs.Ytadhkciggiefbaa
open Go.ChangeShapes Go.WideShapes Go.ChangeAt Go.RowKit Go.Deep

/-- An act. -/
structure Act8 where
  kind : Int
  key : Int
  thing : Int
instance : Inhabited Act8 := ⟨⟨0, 0, 0⟩⟩
def Act8.wf (x : Act8) : Prop := (-9223372036854775808 ≤ x.kind ∧ x.kind ≤ 9223372036854775807) ∧ (-9223372036854775808 ≤ x.key ∧ x.key ≤ 9223372036854775807) ∧ (-9223372036854775808 ≤ x.thing ∧ x.thing ≤ 9223372036854775807)
def ActAt8 (w : World) (g o : Nat) (x : Act8) : Prop := w.cell? ⟨g, o, none⟩ = some (.int .i64 x.kind) ∧ w.cell? ⟨g, o + 1, none⟩ = some (.int .i64 x.key) ∧ w.cell? ⟨g, o + 2, none⟩ = some (.int .i64 x.thing)
/-- A slice of acts. -/
def ActsAt8 (n₀ : Nat) (w : World) (v : Value) (l : List Act8) : Prop :=
  ∃ a cap, v = .slice a l.length cap ∧ l.length ≤ cap ∧ (∀ i, i < l.length → (l[i]?.getD default).wf) ∧ (l = [] ∨ ∃ g off, a = some ⟨g, off, none⟩ ∧ g < n₀ ∧ ∀ i, i < l.length → ActAt8 w g (off + i * 3) (l[i]?.getD default))
theorem ActAt8.below {n₀ : Nat} {w w' : World} {g o : Nat} {x : Act8} (h : ActAt8 w g o x) (hb : Below n₀ w w') (hg : g < n₀) : ActAt8 w' g o x := by
  obtain ⟨h0, h1, h2⟩ := h
  exact ⟨(hb.cell (p := ⟨g, o, none⟩) hg).trans h0, (hb.cell (p := ⟨g, o + 1, none⟩) hg).trans h1, (hb.cell (p := ⟨g, o + 2, none⟩) hg).trans h2⟩
section
variable {H : Type} {enc : TypeId × Value → H}
set_option maxRecDepth 100000 in
theorem open_acts8 {W : World} {base : Nat} {v : Value} {d : DataW H} {p : List MemPlace} (o : Value.okWide Try.prog W .any base 22 v) (h : DataW.Trod enc Try.prog W 0 (fun _ => true) true 22 v d p) : ∃ l, ActsAt8 W.heap.size W v l ∧ l.length ≤ maxLen := by
  obtain ⟨a, len, cap, rfl, hl, hm, ha, hr⟩ := open_structs Try.underlying22 Try.underlying32 (by kernel_rfl) (by kernel_rfl) (by decide) o h
  rcases hr with rfl | ⟨g, off, rfl, hg, hf⟩
  · exact ⟨[], ⟨a, cap, rfl, Nat.zero_le _, fun i hi => (by simp at hi), .inl rfl⟩, Nat.zero_le _⟩
  · have each : ∀ i, i < len → ∃ x : Act8, x.wf ∧ ActAt8 W g (off + i * 3) x := by
      intro i hi
      obtain ⟨u0, _, _, c0, t0⟩ := hf i hi 0 _ rfl
      obtain ⟨u1, _, _, c1, t1⟩ := hf i hi 1 _ rfl
      obtain ⟨u2, _, _, c2, t2⟩ := hf i hi 2 _ rfl
      obtain ⟨kind, rfl, w0⟩ := int_cell t0
      obtain ⟨key, rfl, w1⟩ := int_cell t1
      obtain ⟨thing, rfl, w2⟩ := int_cell t2
      exact ⟨⟨kind, key, thing⟩, ⟨wf_i64 w0, wf_i64 w1, wf_i64 w2⟩, c0, c1, c2⟩
    refine ⟨(List.range len).map fun i => if hi : i < len then Classical.choose (each i hi) else default, ⟨some ⟨g, off, none⟩, cap, by simp, by simpa using hl, fun i hi => ?_, .inr ⟨g, off, rfl, hg, fun i hi => ?_⟩⟩, by simpa using hm⟩
    · have hi' : i < len := by simpa using hi
      simp only [List.getElem?_map, List.getElem?_range hi', Option.map_some, Option.getD_some, dif_pos hi']
      exact (Classical.choose_spec (each i hi')).1
    · have hi' : i < len := by simpa using hi
      simp only [List.getElem?_map, List.getElem?_range hi', Option.map_some, Option.getD_some, dif_pos hi']
      exact (Classical.choose_spec (each i hi')).2
end
end Go.Proofs.Ytadhkciggiefbaa

/-
  Slices of words of 64 bits: in memory, as arguments.
  Conditions: none.
-/
import Derived.Test.YtalgkiagdjckiaaOpenBn
namespace Go.Proofs.Ytalgkiagdjckiaa
open Go.ChangeShapes Go.WideShapes Go.ChangeAt Go.RowKit Go.Deep

/-- A slice of words, in a block below n₀. -/
def WordsAt (n₀ : Nat) (w : World) (v : Value) (l : List (BitVec 64)) : Prop :=
  ∃ a cap, v = .slice a l.length cap ∧ l.length ≤ cap ∧ (a = none → cap = 0) ∧ (l = [] ∨ ∃ g off, a = some ⟨g, off, none⟩ ∧ g < n₀ ∧ ∀ j, j < l.length → w.cell? ⟨g, off + j, none⟩ = some (.int .u64 (U (l[j]?.getD 0))))
theorem WordsAt.below {n₀ : Nat} {w w' : World} {v : Value} {l : List (BitVec 64)} (h : WordsAt n₀ w v l) (hb : Below n₀ w w') : WordsAt n₀ w' v l := by
  obtain ⟨a, cap, rfl, hl, h0, h⟩ := h
  refine ⟨a, cap, rfl, hl, h0, ?_⟩
  rcases h with h | ⟨g, off, rfl, hg, hc⟩
  · exact .inl h
  · exact .inr ⟨g, off, rfl, hg, fun j hj => (hb.cell (p := ⟨g, off + j, none⟩) hg).trans (hc j hj)⟩
theorem WordsAt.nil (n : Nat) (w : World) : WordsAt n w (.slice none 0 0) [] := ⟨none, 0, rfl, Nat.le_refl _, fun _ => rfl, .inl rfl⟩
theorem WordsAt.slice {n : Nat} {w : World} {v : Value} {l : List (BitVec 64)} (h : WordsAt n w v l) : ∃ a c, v = .slice a l.length c := by
  obtain ⟨a, c, rfl, _⟩ := h; exact ⟨a, c, rfl⟩
theorem WordsAt.get {n : Nat} {w : World} {a : Option Addr} {k c : Nat} {l : List (BitVec 64)} (h : WordsAt n w (.slice a k c) l) {i : Nat} (hi : i < l.length) : ∃ g off, a = some ⟨g, off, none⟩ ∧ g < n ∧ w.cell? ⟨g, off + i, none⟩ = some (.int .u64 (U (l[i]?.getD 0))) := by
  obtain ⟨a', c', e, hl, _, h⟩ := h
  cases e
  rcases h with h | ⟨g, off, rfl, hg, hc⟩
  · subst h; simp at hi
  · exact ⟨g, off, rfl, hg, hc i hi⟩
theorem words64_of : ∀ (zs : List Int), (∀ n ∈ zs, (Lit.int .u64 n).wf = true) → ∃ bs : List (BitVec 64), zs = bs.map U
  | [], _ => ⟨[], rfl⟩
  | z :: zs, h => by
    obtain ⟨x, rfl⟩ := wf_u64 (h z (by simp))
    obtain ⟨bs, rfl⟩ := words64_of zs (fun n hn => h n (by simp [hn]))
    exact ⟨x :: bs, rfl⟩

/-- A row of bytes in memory reads as a list. -/
theorem wordsAt_of {W : World} {a : Option Addr} {len cap : Nat} {zs : List Int} (hl : len ≤ cap) (hz : zs.length = cap) (hw : ∀ n ∈ zs, (Lit.int .u64 n).wf = true) (ha : a = none → cap = 0)
    (hc : ∀ x, a = some x → ∀ i, i < cap → W.cell? (x.add i) = some (.int .u64 (zs.getD i 0))) : ∃ bs : List (BitVec 64), bs.length = len ∧ WordsAt W.heap.size W (.slice a len cap) bs := by
  obtain ⟨bs, rfl⟩ := words64_of zs hw
  have hbl : bs.length = cap := by simpa using hz
  have hbt : (bs.take len).length = len := by rw [List.length_take]; omega
  refine ⟨bs.take len, hbt, a, cap, by rw [hbt], by omega, ha, ?_⟩
  by_cases h0 : len = 0
  · subst h0; exact .inl (by simp)
  · cases a with
    | none => exact absurd (ha rfl) (by omega)
    | some x =>
      have h1 := hc x rfl 0 (by omega)
      obtain ⟨b, off, spot⟩ := x
      obtain rfl := cell_at h1
      refine .inr ⟨b, off, rfl, ?_, fun j hj => ?_⟩
      · have := World.block_lt_of_cell? _ _ h1
        rw [add_plain] at this
        exact this
      · have hj' : j < len := by omega
        have := hc _ rfl j (by omega)
        rw [add_plain] at this
        rw [this]
        have hjb : j < bs.length := by omega
        simp [hj', hjb]

section
variable {H : Type} {enc : TypeId × Value → H}
set_option maxRecDepth 100000 in
/-- A cell that reads as a slice of bytes. -/
theorem words_cell {W : World} {fuel : Nat} {v : Value} {y : DataW H × List MemPlace} (h : DataW.trod enc Try.prog W 0 (fun _ => true) true fuel 22 [v] = some y) : ∃ bs, WordsAt W.heap.size W v bs ∧ bs.length ≤ maxLen := by
  rcases open_ints Try.underlying22 Try.underlying32 (by kernel_rfl) h with ⟨hcs, _⟩ | ⟨x, l, c, zs, hcs, _, hl, hm, hz, _, hcell, hwz⟩
  · obtain rfl : v = .slice none 0 0 := by simpa using hcs
    exact ⟨[], WordsAt.nil _ _, Nat.zero_le _⟩
  · obtain rfl : v = .slice (some x) l c := by simpa using hcs
    simp only [if_true] at hz
    obtain ⟨bs, hbl, hb⟩ := wordsAt_of (W := W) (a := some x) hl hz hwz (fun e => by cases e) (fun y e i hi => by cases e; exact hcell i (by omega))
    exact ⟨bs, hb, by omega⟩
set_option maxRecDepth 100000 in
theorem open_words1 {W : World} {base : Nat} {v : Value} {d : DataW H} {p : List MemPlace} (o : Value.okWide Try.prog W .any base 22 v) (h : DataW.Trod enc Try.prog W 0 (fun _ => true) true 22 v d p) : ∃ bs, WordsAt W.heap.size W v bs ∧ bs.length ≤ maxLen := by
  obtain ⟨a, len, cap, rfl⟩ := okWide_slice Try.underlying22 o
  obtain ⟨fuel, hf⟩ := h
  exact words_cell hf

end
end Go.Proofs.Ytalgkiagdjckiaa

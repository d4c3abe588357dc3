/-
  Arguments that are slices of bytes, or slices of such, opened: they read as lists.
  Conditions: none.
-/
import Derived.Test.YtbhmieddjgklpaaLaw
import Derived.Test.YtbhmieddjgklpaaCrcPieces
import Derived.Deep.Matrix
namespace Go.Proofs.Ytbhmieddjgklpaa
open Go.ChangeShapes Go.WideShapes Go.ChangeAt Go.RowKit Go.Deep

theorem words_of : ∀ (zs : List Int), (∀ n ∈ zs, (Lit.int .u8 n).wf = true) → ∃ bs : List (BitVec 8), zs = bs.map U
  | [], _ => ⟨[], rfl⟩
  | z :: zs, h => by
    obtain ⟨x, rfl⟩ := wf_u8 (h z (by simp))
    obtain ⟨bs, rfl⟩ := words_of zs (fun n hn => h n (by simp [hn]))
    exact ⟨x :: bs, rfl⟩

/-- A row of bytes in memory reads as a list. -/
theorem bytes_of {W : World} {a : Option Addr} {len cap : Nat} {zs : List Int} (hl : len ≤ cap) (hz : zs.length = cap) (hw : ∀ n ∈ zs, (Lit.int .u8 n).wf = true) (ha : a = none → cap = 0)
    (hc : ∀ x, a = some x → ∀ i, i < cap → W.cell? (x.add i) = some (.int .u8 (zs.getD i 0))) : ∃ bs : List (BitVec 8), bs.length = len ∧ BytesAt W.heap.size W (.slice a len cap) bs := by
  obtain ⟨bs, rfl⟩ := words_of zs hw
  have hbl : bs.length = cap := by simpa using hz
  refine ⟨bs.take len, by simp [hbl]; omega, a, cap, by simp [hbl]; congr 1; omega, ha, ?_⟩
  by_cases h0 : len = 0
  · subst h0; exact .inl (by simp)
  · cases a with
    | none => exact absurd (ha rfl) (by omega)
    | some x =>
      have h1 := hc x rfl 0 (by omega)
      have hs : x.spot = none := by
        have := World.cell?_spot h1
        simpa [Addr.add] using this
      obtain ⟨b, off, spot⟩ := x
      simp only at hs
      subst hs
      have hadd : ∀ i, (⟨b, off, none⟩ : Addr).add i = ⟨b, off + i, none⟩ := fun i => by unfold Addr.add; split <;> simp_all
      refine .inr ⟨b, off, rfl, ?_, fun j hj => ?_⟩
      · have := World.block_lt_of_cell? _ _ h1
        rw [hadd] at this
        exact this
      · have hj' : j < len := by simp at hj; omega
        have := hc _ rfl j (by omega)
        rw [hadd] at this
        rw [this]
        have hjb : j < bs.length := by omega
        simp [hj', hjb]

section
variable {H : Type} {enc : TypeId × Value → H}
theorem open_bytes {W : World} {base : Nat} {v : Value} {d : DataW H} {p : List MemPlace} (o : Value.okWide Try.prog W .any base 22 v) (h : DataW.Trod enc Try.prog W 0 (fun _ => true) true 22 v d p) : ∃ bs, BytesAt W.heap.size W v bs ∧ bs.length ≤ maxLen := by
  obtain ⟨a, len, cap, rfl⟩ := okWide_slice Try.underlying22 o
  obtain ⟨fuel, hf⟩ := h
  rcases open_ints Try.underlying22 Try.underlying5 (by kernel_rfl) hf with ⟨hcs, _⟩ | ⟨x, l, c, zs, hcs, _, hl, hm, hz, _, hcell, hwz⟩
  · simp [Value.cells] at hcs
    obtain ⟨rfl, rfl, rfl⟩ := hcs
    exact ⟨[], BytesAt.nil _ _, Nat.zero_le _⟩
  · simp [Value.cells] at hcs
    obtain ⟨rfl, rfl, rfl⟩ := hcs
    simp only [if_true] at hz
    obtain ⟨bs, hbl, hb⟩ := bytes_of (W := W) (a := some x) hl hz hwz (fun e => by cases e) (fun y e i hi => by cases e; exact hcell i (by omega))
    exact ⟨bs, hb, by omega⟩

theorem open_pieces {W : World} {base : Nat} {v : Value} {d : DataW H} {p : List MemPlace} (o : Value.okWide Try.prog W .any base 31 v) (h : DataW.Trod enc Try.prog W 0 (fun _ => true) true 31 v d p) : ∃ ps, PiecesAt W.heap.size W v ps ∧ ps.length ≤ maxLen := by
  obtain ⟨a, len, cap, rfl⟩ := okWide_slice Try.underlying31 o
  obtain ⟨fuel, hf⟩ := h
  rcases open_int_rows Try.underlying31 Try.underlying22 Try.underlying5 (by kernel_rfl) (by kernel_rfl) hf with ⟨hcs, _⟩ | ⟨x, l, c, A, L, C, Z, hcs, _, hl, hm, _, hrow⟩
  · simp [Value.cells] at hcs
    obtain ⟨rfl, rfl, rfl⟩ := hcs
    exact ⟨[], ⟨none, 0, rfl, .inl rfl⟩, Nat.zero_le _⟩
  · simp [Value.cells] at hcs
    obtain ⟨rfl, rfl, rfl⟩ := hcs
    have hall : ∀ r, r < cap → ∃ bs : List (BitVec 8), BytesAt W.heap.size W (.slice (A r) (L r) (C r)) bs := fun r hr => by
      obtain ⟨_, h2, _, h4, h5, h6, h7⟩ := hrow r hr
      obtain ⟨bs, _, hb⟩ := bytes_of (W := W) h2 h4 h5 h6 (fun y e i hi => (h7 y e).2 i hi)
      exact ⟨bs, hb⟩
    refine ⟨(List.range len).map fun r => if hr : r < cap then Classical.choose (hall r hr) else [], ⟨some x, cap, by simp, ?_⟩, by simp; omega⟩
    by_cases h0 : len = 0
    · subst h0; exact .inl (by simp)
    · have h1 := (hrow 0 (by omega)).1
      have hs : x.spot = none := by
        have := World.cell?_spot h1
        simpa [Addr.add] using this
      obtain ⟨b, off, spot⟩ := x
      simp only at hs
      subst hs
      have hadd : ∀ i, (⟨b, off, none⟩ : Addr).add i = ⟨b, off + i, none⟩ := fun i => by unfold Addr.add; split <;> simp_all
      refine .inr ⟨b, off, rfl, ?_, fun i hi => ?_⟩
      · have := World.block_lt_of_cell? _ _ h1
        rw [hadd] at this
        exact this
      · have hi' : i < len := by simpa using hi
        have hc := (hrow i (by omega)).1
        rw [hadd] at hc
        refine ⟨_, hc, ?_⟩
        have hic : i < cap := by omega
        simp only [List.getElem?_map, List.getElem?_range hi', Option.map_some, Option.getD_some, dif_pos hic]
        exact Classical.choose_spec (hall i hic)
end

/-- The cells of bytes. -/
def cellsOf (bs : List (BitVec 8)) : List Value := bs.map fun b => .int .u8 (U b)
theorem cellsOf_len (bs : List (BitVec 8)) : (cellsOf bs).length = bs.length := by simp [cellsOf]
theorem cellsOf_one (bs : List (BitVec 8)) : ∀ u ∈ cellsOf bs, u.oneCell' = true := by
  intro u hu
  obtain ⟨b, _, rfl⟩ := List.mem_map.1 hu
  rfl
theorem cellsOf_append (xs ys : List (BitVec 8)) : cellsOf (xs ++ ys) = cellsOf xs ++ cellsOf ys := by simp [cellsOf]
theorem BytesAt.of_owns {w : World} {base : Nat} {v : Value} {bs : List (BitVec 8)} (h : w.ownsRow base 5 1 v bs.length (cellsOf bs)) : BytesAt w.heap.size w v bs := by
  have h0 := h
  rcases h.2 with ⟨rfl, h1⟩ | ⟨g, cap, cur, rfl, _, hg, _⟩
  · obtain rfl : bs = [] := by simpa using h1
    exact BytesAt.nil _ _
  · refine ⟨_, cap, rfl, fun h => (by cases h), .inr ⟨g, 0, rfl, (Array.getElem?_eq_some_iff.1 hg).1, fun j hj => ?_⟩⟩
    have := h0.cellAt j (by simpa using hj)
    rw [Nat.zero_add, this]
    simp [cellsOf, hj]
/-- What a slice of bytes holds, for an append from it. -/
theorem BytesAt.news {n₀ : Nat} {w : World} {ad : Addr} {len cap : Nat} {bs : List (BitVec 8)} (h : BytesAt n₀ w (.slice (some ad) len cap) bs) :
    len = bs.length ∧ ∀ j u, (cellsOf bs)[j]? = some u → w.cell? (ad.add j) = some u := by
  obtain ⟨a, cap', e, _, h⟩ := h
  simp only [Value.slice.injEq] at e
  obtain ⟨rfl, rfl, rfl⟩ := e
  refine ⟨rfl, fun j u hj => ?_⟩
  have hlt : j < bs.length := by
    have := (List.getElem?_eq_some_iff.1 hj).1
    rwa [cellsOf_len] at this
  rcases h with rfl | ⟨g, off, hg, _, hc⟩
  · simp at hlt
  · cases hg
    have hadd : (⟨g, off, none⟩ : Addr).add j = ⟨g, off + j, none⟩ := by unfold Addr.add; split <;> simp_all
    rw [hadd, hc j hlt]
    simp [cellsOf, hlt] at hj
    simp [hlt, hj]
theorem BytesAt.none_nil {n₀ : Nat} {w : World} {len cap : Nat} {bs : List (BitVec 8)} (h : BytesAt n₀ w (.slice none len cap) bs) : len = 0 ∧ cap = 0 ∧ bs = [] := by
  obtain ⟨a, cap', e, h0, h⟩ := h
  simp only [Value.slice.injEq] at e
  obtain ⟨rfl, rfl, rfl⟩ := e
  rcases h with rfl | ⟨g, off, hg, _⟩
  · exact ⟨rfl, h0 rfl, rfl⟩
  · cases hg
theorem Try.infoU8 : (Try.prog.info? 5).map (fun i => (i.zero, i.size, i.bytes)) = some (some (.int .u8 0), 1, 1) := by kernel_rfl

end Go.Proofs.Ytbhmieddjgklpaa

/-
  Arguments that are slices of bytes, opened: they read as lists.
  Conditions: none.
-/
import Derived.Test.YtalgkiagdjckiaaLaw
import Derived.Test.YtalgkiagdjckiaaMem
import Derived.Deep.Matrix
import Derived.Deep.Fields
namespace Go.Proofs.Ytalgkiagdjckiaa
open Go.ChangeShapes Go.WideShapes Go.ChangeAt Go.RowKit Go.Deep

theorem words_of : ∀ (zs : List Int), (∀ n ∈ zs, (Lit.int .u8 n).wf = true) → ∃ bs : List (BitVec 8), zs = bs.map U
  | [], _ => ⟨[], rfl⟩
  | z :: zs, h => by
    obtain ⟨x, rfl⟩ := wf_u8 (h z (by simp))
    obtain ⟨bs, rfl⟩ := words_of zs (fun n hn => h n (by simp [hn]))
    exact ⟨x :: bs, rfl⟩

theorem cell_at {W : World} {b off : Nat} {spot} {v : Value} (h : W.cell? ((⟨b, off, spot⟩ : Addr).add 0) = some v) : spot = none := by
  have := World.cell?_spot h
  simpa [Addr.add] using this

/-- A row of bytes in memory reads as a list. -/
theorem bytes_of {W : World} {a : Option Addr} {len cap : Nat} {zs : List Int} (hl : len ≤ cap) (hz : zs.length = cap) (hw : ∀ n ∈ zs, (Lit.int .u8 n).wf = true) (ha : a = none → cap = 0)
    (hc : ∀ x, a = some x → ∀ i, i < cap → W.cell? (x.add i) = some (.int .u8 (zs.getD i 0))) : ∃ bs : List (BitVec 8), bs.length = len ∧ BytesAt W.heap.size W (.slice a len cap) bs := by
  obtain ⟨bs, rfl⟩ := words_of zs hw
  have hbl : bs.length = cap := by simpa using hz
  have hbt : (bs.take len).length = len := by rw [List.length_take]; omega
  refine ⟨bs.take len, hbt, a, cap, by rw [hbt], by omega, ha, ?_⟩
  by_cases h0 : len = 0
  · subst h0; exact .inl (by simp)
  · cases a with
    | none => exact absurd (ha rfl) (by omega)
    | some x =>
      have h1 := hc x rfl 0 (by omega)
      obtain ⟨b, off, spot⟩ := x
      obtain rfl := cell_at h1
      refine .inr ⟨b, off, rfl, ?_, fun j hj => ?_⟩
      · have := World.block_lt_of_cell? _ _ h1
        rw [add_plain] at this
        exact this
      · have hj' : j < len := by omega
        have := hc _ rfl j (by omega)
        rw [add_plain] at this
        rw [this]
        have hjb : j < bs.length := by omega
        simp [hj', hjb]

section
variable {H : Type} {enc : TypeId × Value → H}
set_option maxRecDepth 100000 in
/-- A cell that reads as a slice of bytes. -/
theorem bytes_cell {W : World} {fuel : Nat} {v : Value} {y : DataW H × List MemPlace} (h : DataW.trod enc Try.prog W 0 (fun _ => true) true fuel 34 [v] = some y) : ∃ bs, BytesAt W.heap.size W v bs ∧ bs.length ≤ maxLen := by
  rcases open_ints Try.underlying34 Try.underlying5 (by kernel_rfl) h with ⟨hcs, _⟩ | ⟨x, l, c, zs, hcs, _, hl, hm, hz, _, hcell, hwz⟩
  · obtain rfl : v = .slice none 0 0 := by simpa using hcs
    exact ⟨[], BytesAt.nil _ _, Nat.zero_le _⟩
  · obtain rfl : v = .slice (some x) l c := by simpa using hcs
    simp only [if_true] at hz
    obtain ⟨bs, hbl, hb⟩ := bytes_of (W := W) (a := some x) hl hz hwz (fun e => by cases e) (fun y e i hi => by cases e; exact hcell i (by omega))
    exact ⟨bs, hb, by omega⟩
set_option maxRecDepth 100000 in
theorem open_bytes {W : World} {base : Nat} {v : Value} {d : DataW H} {p : List MemPlace} (o : Value.okWide Try.prog W .any base 34 v) (h : DataW.Trod enc Try.prog W 0 (fun _ => true) true 34 v d p) : ∃ bs, BytesAt W.heap.size W v bs ∧ bs.length ≤ maxLen := by
  obtain ⟨a, len, cap, rfl⟩ := okWide_slice Try.underlying34 o
  obtain ⟨fuel, hf⟩ := h
  exact bytes_cell hf

set_option maxRecDepth 100000 in
/-- A slice of structs, each field one cell: what each field reads as. -/
theorem open_structs {W : World} {base : Nat} {v : Value} {d : DataW H} {p : List MemPlace} {t e : TypeId} {fs : Array Field} (ht : Try.prog.underlying t = some (.slice e)) (he : Try.prog.underlying e = some (.struct fs)) (hone : oneCellFields Try.prog fs = true) (hC : Try.prog.cellsOf e = fs.size) (hpos : 0 < fs.size)
    (o : Value.okWide Try.prog W .any base t v) (h : DataW.Trod enc Try.prog W 0 (fun _ => true) true t v d p) :
    ∃ a len cap, v = .slice a len cap ∧ len ≤ cap ∧ len ≤ maxLen ∧ (a = none → cap = 0) ∧ (len = 0 ∨ ∃ g off, a = some ⟨g, off, none⟩ ∧ g < W.heap.size ∧ ∀ i, i < len → ∀ (j : Nat) (f : Field), fs[j]? = some f →
      ∃ (u : Value) (y : DataW H × List MemPlace) (n : Nat), W.cell? ⟨g, off + (i * fs.size + j), none⟩ = some u ∧ DataW.trod enc Try.prog W 0 (fun _ => true) true n f.type [u] = some y) := by
  obtain ⟨a, len, cap, rfl⟩ := okWide_slice ht o
  obtain ⟨fuel, hf⟩ := h
  rcases open_slice ht hf with ⟨hcs, _⟩ | ⟨x, l, c, m, n, D, Pl, hcs, _, hl, hm, hmm, _, hi⟩
  · simp [Value.cells] at hcs
    obtain ⟨rfl, rfl, rfl⟩ := hcs
    exact ⟨none, 0, 0, rfl, Nat.le_refl _, Nat.zero_le _, fun _ => rfl, .inl rfl⟩
  · simp [Value.cells] at hcs
    obtain ⟨rfl, rfl, rfl⟩ := hcs
    simp only [if_true] at hmm
    subst hmm
    refine ⟨some x, len, m, rfl, hl, by omega, fun h => (by cases h), ?_⟩
    by_cases h0 : len = 0
    · exact .inl h0
    · have key : ∀ i, i < len → ∀ (j : Nat) (f : Field), fs[j]? = some f → ∃ (u : Value) (y : DataW H × List MemPlace) (n : Nat), W.cell? (x.add (i * fs.size + j)) = some u ∧ DataW.trod enc Try.prog W 0 (fun _ => true) true n f.type [u] = some y := by
        intro i hil j f hj
        obtain ⟨cs', hc, ht'⟩ := hi i (by omega)
        rw [hC] at hc
        obtain ⟨ys, n', _, _, hlen, hyl, hfl⟩ := DataW.trod_struct he ht'
        obtain ⟨_, hcl, hat⟩ := World.cells?_some hc
        obtain ⟨ho, hk⟩ := hone_of hone j f hj
        have hjl : j < fs.size := (Array.getElem?_eq_some_iff.1 hj).1
        have h1 := hfl j f hj
        rw [ho, hk] at h1
        have htk : (cs'.drop j).take 1 = [cs'[j]'(by omega)] := by
          rw [List.drop_eq_getElem_cons (by omega)]
          rfl
        rw [htk] at h1
        have hys : ys[j]? = some (ys[j]'(by omega)) := List.getElem?_eq_getElem (by omega)
        refine ⟨_, _, n', ?_, h1.trans hys⟩
        rw [← Go.Deep.add_add, hat j hjl]
        exact List.getElem?_eq_getElem (by omega)
      obtain ⟨u0, _, _, h1, _⟩ := key 0 (by omega) 0 (fs[0]) (by simp [hpos])
      obtain ⟨b, off, spot⟩ := x
      obtain rfl := cell_at (by simpa using h1)
      refine .inr ⟨b, off, rfl, ?_, fun i hil j f hj => ?_⟩
      · have := World.block_lt_of_cell? _ _ h1
        rw [add_plain] at this
        exact this
      · obtain ⟨u, y, n', hu, hy⟩ := key i hil j f hj
        rw [add_plain] at hu
        exact ⟨u, y, n', hu, hy⟩

set_option maxRecDepth 100000 in
/-- A cell that reads as an int, as a word of 64 bits. -/
theorem int_cell {W : World} {fuel : Nat} {v : Value} {y : DataW H × List MemPlace} (h : DataW.trod enc Try.prog W 0 (fun _ => true) true fuel 3 [v] = some y) : ∃ i, v = .int .i64 i ∧ (Lit.int .i64 i).wf = true := by
  obtain ⟨n, h1, _, h2⟩ := DataW.trod_int Try.underlying3 h
  exact ⟨n, by simpa using h1, h2⟩
end

theorem wf_i64 {i : Int} (h : (Lit.int .i64 i).wf = true) : -9223372036854775808 ≤ i ∧ i ≤ 9223372036854775807 := by
  have := h; simp [Lit.wf, IntKind.min, IntKind.max, IntKind.bits, IntKind.signed] at this
  omega

end Go.Proofs.Ytalgkiagdjckiaa

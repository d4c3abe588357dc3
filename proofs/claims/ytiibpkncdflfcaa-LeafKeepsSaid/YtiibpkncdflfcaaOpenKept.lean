/-
  The argument of sgraffitolaw05.LeafKeeps, opened.
  Conditions: none.
-/
import Derived.Test.YtiibpkncdflfcaaJL2
import Derived.Test.YtiibpkncdflfcaaOpenBn
import Derived.Test.YtiibpkncdflfcaaJF2
import Derived.Deep.Matrix
import Derived.Deep.Fields
namespace Go.Proofs.Ytiibpkncdflfcaa
open Go.ChangeShapes Go.WideShapes Go.ChangeAt Go.RowKit Go.Deep

/-- A put. -/
structure PutP where
  at_ : Int
  leaf : LeafP
  raw : Bool
  bs : List (BitVec 8)
instance : Inhabited PutP := ⟨⟨0, LeafP.zero, false, []⟩⟩
def PutP.wf (x : PutP) : Prop := x.leaf.wf ∧ x.bs.length ≤ maxLen
/-- The seven cells of a put. -/
def PutAt7 (n₀ : Nat) (w : World) (g o : Nat) (x : PutP) : Prop :=
  w.cell? ⟨g, o, none⟩ = some (.int .i64 x.at_) ∧ w.cell? ⟨g, o + 1, none⟩ = some (.int .i64 x.leaf.kind) ∧ w.cell? ⟨g, o + 2, none⟩ = some (.int .i64 x.leaf.place) ∧ w.cell? ⟨g, o + 3, none⟩ = some (.int .i64 x.leaf.stamp) ∧ w.cell? ⟨g, o + 4, none⟩ = some (.string (strB x.leaf.load)) ∧ w.cell? ⟨g, o + 5, none⟩ = some (.bool x.raw) ∧ ∃ u, w.cell? ⟨g, o + 6, none⟩ = some u ∧ BytesAt n₀ w u x.bs
theorem PutAt7.below {n₀ : Nat} {w w' : World} {g o : Nat} {x : PutP} (h : PutAt7 n₀ w g o x) (hb : Below n₀ w w') (hg : g < n₀) : PutAt7 n₀ w' g o x := by
  obtain ⟨h0, h1, h2, h3, h4, h5, u, h6, h7⟩ := h
  exact ⟨(hb.cell (p := ⟨g, _, none⟩) hg).trans h0, (hb.cell (p := ⟨g, _, none⟩) hg).trans h1, (hb.cell (p := ⟨g, _, none⟩) hg).trans h2, (hb.cell (p := ⟨g, _, none⟩) hg).trans h3, (hb.cell (p := ⟨g, _, none⟩) hg).trans h4, (hb.cell (p := ⟨g, _, none⟩) hg).trans h5, u, (hb.cell (p := ⟨g, _, none⟩) hg).trans h6, h7.below hb⟩
/-- A slice of puts. -/
def PutsAt (n₀ : Nat) (w : World) (v : Value) (l : List PutP) : Prop :=
  ∃ a cap, v = .slice a l.length cap ∧ l.length ≤ cap ∧ (∀ x ∈ l, x.wf) ∧ (l = [] ∨ ∃ g off, a = some ⟨g, off, none⟩ ∧ g < n₀ ∧ ∀ i, i < l.length → PutAt7 n₀ w g (off + i * 7) (l[i]?.getD default))
section
variable {H : Type} {enc : TypeId × Value → H}
set_option maxRecDepth 100000 in
/-- A slice of structs in a cell: the cells of each. -/
theorem slots_cell {W : World} {fuel : Nat} {v : Value} {y : DataW H × List MemPlace} {t e : TypeId} {C : Nat} (ht : Try.prog.underlying t = some (.slice e)) (hC : Try.prog.cellsOf e = C) (hpos : 0 < C)
    (hf : DataW.trod enc Try.prog W 0 (fun _ => true) true fuel t [v] = some y) :
    ∃ a len cap, v = .slice a len cap ∧ len ≤ cap ∧ len ≤ maxLen ∧ (len = 0 ∨ ∃ g off, a = some ⟨g, off, none⟩ ∧ g < W.heap.size ∧ ∀ i, i < len → ∃ (cs : List Value) (n : Nat) (z : DataW H × List MemPlace), cs.length = C ∧ (∀ j, j < C → W.cell? ⟨g, off + (i * C + j), none⟩ = cs[j]?) ∧ DataW.trod enc Try.prog W 0 (fun _ => true) true n e cs = some z) := by
  rcases open_slice ht hf with ⟨hcs, _⟩ | ⟨x, l, c, m, n, D, Pl, hcs, _, hl, hm, hmm, _, hi⟩
  · simp at hcs
    subst hcs
    exact ⟨none, 0, 0, rfl, Nat.le_refl _, Nat.zero_le _, .inl rfl⟩
  · simp at hcs
    subst hcs
    simp only [if_true] at hmm
    subst hmm
    refine ⟨some x, l, m, rfl, hl, by omega, ?_⟩
    by_cases h0 : l = 0
    · exact .inl h0
    · have key : ∀ i, i < l → ∃ (cs : List Value) (n : Nat) (z : DataW H × List MemPlace), cs.length = C ∧ (∀ j, j < C → W.cell? (x.add (i * C + j)) = cs[j]?) ∧ DataW.trod enc Try.prog W 0 (fun _ => true) true n e cs = some z := by
        intro i hil
        obtain ⟨cs', hc, ht'⟩ := hi i (by omega)
        rw [hC] at hc
        obtain ⟨_, hcl, hat⟩ := World.cells?_some hc
        refine ⟨cs', n, _, hcl, fun j hj => ?_, ht'⟩
        rw [← Go.Deep.add_add]
        exact hat j hj
      obtain ⟨cs0, _, _, hl0, h1, _⟩ := key 0 (by omega)
      have h1 := h1 0 hpos
      rw [List.getElem?_eq_getElem (by omega)] at h1
      obtain ⟨b, off, spot⟩ := x
      obtain rfl := cell_at (by simpa using h1)
      refine .inr ⟨b, off, rfl, ?_, fun i hil => ?_⟩
      · have := World.block_lt_of_cell? _ _ h1
        rw [add_plain] at this
        exact this
      · obtain ⟨cs, n', z, hl, hc, hz⟩ := key i hil
        refine ⟨cs, n', z, hl, fun j hj => ?_, hz⟩
        rw [← hc j hj, add_plain]
set_option maxRecDepth 100000 in
theorem put7_cell {W : World} {n : Nat} {cs : List Value} {z : DataW H × List MemPlace} (hl : cs.length = 7) (h : DataW.trod enc Try.prog W 0 (fun _ => true) true n 32 cs = some z) :
    ∃ (x : PutP) (u : Value), x.wf ∧ cs = [.int .i64 x.at_, .int .i64 x.leaf.kind, .int .i64 x.leaf.place, .int .i64 x.leaf.stamp, .string (strB x.leaf.load), .bool x.raw, u] ∧ BytesAt W.heap.size W u x.bs := by
  obtain ⟨xs, n', _, hx, _, hlen, hg⟩ := DataW.trod_struct Try.underlying32 h
  match cs, hl with
  | [c0, c1, c2, c3, c4, c5, c6], _ =>
    have g0 := hg 0 _ rfl
    have g1 := hg 1 _ rfl
    have g2 := hg 2 _ rfl
    have g3 := hg 3 _ rfl
    have hl4 : xs.length = 4 := hlen
    match xs, hl4 with
    | [x0, x1, x2, x3], _ =>
      obtain ⟨at_, rfl, w0⟩ := int_cellv (u := c0) (y := x0) g0
      have g1' : DataW.trod enc Try.prog W 0 (fun _ => true) true n' 29 [c1, c2, c3, c4] = some x1 := g1
      obtain ⟨ys, n2, _, _, _, hlen2, hg2⟩ := DataW.trod_struct Try.underlying29 g1'
      have k0 := hg2 0 _ rfl
      have k1 := hg2 1 _ rfl
      have k2 := hg2 2 _ rfl
      have k3 := hg2 3 _ rfl
      have hl5 : ys.length = 4 := hlen2
      match ys, hl5 with
      | [y0, y1, y2, y3], _ =>
        obtain ⟨i0, rfl, w1⟩ := int_cellv (u := c1) (y := y0) k0
        obtain ⟨i1, rfl, w2⟩ := int_cellv (u := c2) (y := y1) k1
        obtain ⟨i2, rfl, w3⟩ := int_cellv (u := c3) (y := y2) k2
        obtain ⟨bs, rfl, w4⟩ := str_cellv (u := c4) (y := y3) k3
        obtain ⟨r, e5, _⟩ := DataW.trod_bool (t := 4) Try.underlying4 (cs := [c5]) (x := x2) g2
        obtain rfl : c5 = .bool r := by simpa using e5
        obtain ⟨b6, hb6, hb7⟩ := bytes_cell (v := c6) (y := x3) g3
        exact ⟨⟨at_, ⟨i0, i1, i2, bs⟩, r, b6⟩, c6, ⟨⟨w1, w2, w3, w4⟩, hb7⟩, rfl, hb6⟩
set_option maxRecDepth 100000 in
theorem puts_cell {W : World} {fuel : Nat} {v : Value} {y : DataW H × List MemPlace} (h : DataW.trod enc Try.prog W 0 (fun _ => true) true fuel 22 [v] = some y) : ∃ l, PutsAt W.heap.size W v l ∧ l.length ≤ maxLen := by
  obtain ⟨a, len, cap, rfl, hl, hm, hr⟩ := slots_cell Try.underlying22 (C := 7) (by kernel_rfl) (by decide) h
  rcases hr with rfl | ⟨g, off, rfl, hg, hf⟩
  · exact ⟨[], ⟨a, cap, rfl, Nat.zero_le _, by simp, .inl rfl⟩, Nat.zero_le _⟩
  · have each : ∀ i, i < len → ∃ x : PutP, x.wf ∧ PutAt7 W.heap.size W g (off + i * 7) x := by
      intro i hi
      obtain ⟨cs, n, z, h1, h2, h3⟩ := hf i hi
      obtain ⟨x, u, hx, rfl, hu⟩ := put7_cell h1 h3
      have e : ∀ j, off + i * 7 + j = off + (i * 7 + j) := fun j => by omega
      exact ⟨x, hx, h2 0 (by decide), by rw [e]; exact h2 1 (by decide), by rw [e]; exact h2 2 (by decide), by rw [e]; exact h2 3 (by decide), by rw [e]; exact h2 4 (by decide), by rw [e]; exact h2 5 (by decide), u, by rw [e]; exact h2 6 (by decide), hu⟩
    refine ⟨(List.range len).map fun i => if hi : i < len then Classical.choose (each i hi) else default, ⟨some ⟨g, off, none⟩, cap, by simp, by simpa using hl, ?_, .inr ⟨g, off, rfl, hg, fun i hi => ?_⟩⟩, by simpa using hm⟩
    · intro x hx
      obtain ⟨i, hi, rfl⟩ := List.mem_map.1 hx
      have hi := List.mem_range.1 hi
      rw [dif_pos hi]
      exact (Classical.choose_spec (each i hi)).1
    · have hi' : i < len := by simpa using hi
      simp only [List.getElem?_map, List.getElem?_range hi', Option.map_some, Option.getD_some, dif_pos hi']
      exact (Classical.choose_spec (each i hi')).2
/-- Puts, fates, a kind, a place. -/
structure KeptV where
  v0 : Value
  v1 : Value
  kind : Int
  place : Int
  ps : List PutP
  fs : List Int
def KeptV.cells (q : KeptV) : Array Value := #[q.v0, q.v1, .int .i64 q.kind, .int .i64 q.place]
structure KeptV.At (q : KeptV) (W : World) : Prop where
  h0 : PutsAt W.heap.size W q.v0 q.ps
  n0 : q.ps.length ≤ maxLen
  h1 : IntsIn W.heap.size W q.v1 q.fs
  n1 : q.fs.length ≤ maxLen
set_option maxRecDepth 100000 in
theorem ints_in_cell {W : World} {fuel : Nat} {v : Value} {y : DataW H × List MemPlace} (h : DataW.trod enc Try.prog W 0 (fun _ => true) true fuel 23 [v] = some y) : ∃ l, IntsIn W.heap.size W v l ∧ l.length ≤ maxLen := by
  rcases open_ints Try.underlying23 Try.underlying3 (by kernel_rfl) h with ⟨hcs, _⟩ | ⟨x, l, c, zs, hcs, _, hl, hm, hz, _, hcell, hwz⟩
  · obtain rfl : v = .slice none 0 0 := by simpa using hcs
    exact ⟨[], ⟨none, 0, rfl, .inl rfl⟩, Nat.zero_le _⟩
  · obtain rfl : v = .slice (some x) l c := by simpa using hcs
    simp only [if_true] at hz
    have hbt : (zs.take l).length = l := by rw [List.length_take]; omega
    refine ⟨zs.take l, ⟨some x, c, by rw [hbt], ?_⟩, by omega⟩
    by_cases h0 : l = 0
    · subst h0; exact .inl (by simp)
    · have h1 := hcell 0 (by omega)
      obtain ⟨b, off, spot⟩ := x
      obtain rfl := cell_at h1
      refine .inr ⟨b, off, rfl, ?_, fun j hj => ?_⟩
      · have := World.block_lt_of_cell? _ _ h1
        rw [add_plain] at this
        exact this
      · have hj' : j < l := by omega
        have := hcell j (by omega)
        rw [add_plain] at this
        rw [this]
        have hjb : j < zs.length := by omega
        simp [hj', hjb]
set_option maxRecDepth 100000 in
theorem open_kept {W : World} {base : Nat} {v : Value} {d : DataW H} {p : List MemPlace} (o : Value.okWide Try.prog W .any base 25 v) (h : DataW.Trod enc Try.prog W 0 (fun _ => true) true 25 v d p) : ∃ q : KeptV, v = .agg q.cells ∧ q.At W := by
  obtain ⟨cs, n, rfl, hlen, hc⟩ := open_agg_one Try.underlying25 (by kernel_rfl) o h
  have h8 : Try.prog.cellsOf 25 = 4 := by kernel_rfl
  rw [h8] at hlen
  match cs, hlen with
  | [c0, c1, c2, c3], _ =>
    obtain ⟨_, y0⟩ := hc 0 _ c0 rfl rfl
    obtain ⟨_, y1⟩ := hc 1 _ c1 rfl rfl
    obtain ⟨_, y2⟩ := hc 2 _ c2 rfl rfl
    obtain ⟨_, y3⟩ := hc 3 _ c3 rfl rfl
    obtain ⟨l0, b0, m0⟩ := puts_cell y0
    obtain ⟨fs, b1, m1⟩ := ints_in_cell y1
    obtain ⟨i2, rfl, w2⟩ := int_cellv y2
    obtain ⟨i3, rfl, w3⟩ := int_cellv y3
    exact ⟨⟨c0, c1, i2, i3, l0, fs⟩, rfl, ⟨b0, m0, b1, m1⟩⟩
end
end Go.Proofs.Ytiibpkncdflfcaa

/-
  A document's bucket, an entry, as arguments.
  Conditions: none.
-/
import Derived.Test.YtpihncafmjbccaaBkt9a
import Derived.Test.YtpihncafmjbccaaOpenBn
import Derived.Deep.Matrix
import Derived.Deep.Fields
namespace Go.Proofs.Ytpihncafmjbccaa
open Go.ChangeShapes Go.WideShapes Go.ChangeAt Go.RowKit Go.Deep

section
variable {H : Type} {enc : TypeId × Value → H}
set_option maxRecDepth 100000 in
/-- A slice of structs in a cell. -/
theorem structs_cell {W : World} {fuel : Nat} {v : Value} {y : DataW H × List MemPlace} {t e : TypeId} {fs : Array Field} (ht : Try.prog.underlying t = some (.slice e)) (he : Try.prog.underlying e = some (.struct fs)) (hone : oneCellFields Try.prog fs = true) (hC : Try.prog.cellsOf e = fs.size) (hpos : 0 < fs.size)
    (hf : DataW.trod enc Try.prog W 0 (fun _ => true) true fuel t [v] = some y) :
    ∃ a len cap, v = .slice a len cap ∧ len ≤ cap ∧ len ≤ maxLen ∧ (a = none → cap = 0) ∧ (len = 0 ∨ ∃ g off, a = some ⟨g, off, none⟩ ∧ g < W.heap.size ∧ ∀ i, i < len → ∀ (j : Nat) (f : Field), fs[j]? = some f →
      ∃ (u : Value) (y : DataW H × List MemPlace) (n : Nat), W.cell? ⟨g, off + (i * fs.size + j), none⟩ = some u ∧ DataW.trod enc Try.prog W 0 (fun _ => true) true n f.type [u] = some y) := by
  rcases open_slice ht hf with ⟨hcs, _⟩ | ⟨x, l, c, m, n, D, Pl, hcs, _, hl, hm, hmm, _, hi⟩
  · simp at hcs
    subst hcs
    exact ⟨none, 0, 0, rfl, Nat.le_refl _, Nat.zero_le _, fun _ => rfl, .inl rfl⟩
  · simp at hcs
    subst hcs
    simp only [if_true] at hmm
    subst hmm
    refine ⟨some x, l, m, rfl, hl, by omega, fun h => (by cases h), ?_⟩
    by_cases h0 : l = 0
    · exact .inl h0
    · have key : ∀ i, i < l → ∀ (j : Nat) (f : Field), fs[j]? = some f → ∃ (u : Value) (y : DataW H × List MemPlace) (n : Nat), W.cell? (x.add (i * fs.size + j)) = some u ∧ DataW.trod enc Try.prog W 0 (fun _ => true) true n f.type [u] = some y := by
        intro i hil j f hj
        obtain ⟨cs', hc, ht'⟩ := hi i (by omega)
        rw [hC] at hc
        obtain ⟨ys, n', _, _, hlen, hyl, hfl⟩ := DataW.trod_struct he ht'
        obtain ⟨_, hcl, hat⟩ := World.cells?_some hc
        obtain ⟨ho, hk⟩ := hone_of hone j f hj
        have hjl : j < fs.size := (Array.getElem?_eq_some_iff.1 hj).1
        have h1 := hfl j f hj
        rw [ho, hk] at h1
        have htk : (cs'.drop j).take 1 = [cs'[j]'(by omega)] := by
          rw [List.drop_eq_getElem_cons (by omega)]
          rfl
        rw [htk] at h1
        have hys : ys[j]? = some (ys[j]'(by omega)) := List.getElem?_eq_getElem (by omega)
        refine ⟨_, _, n', ?_, h1.trans hys⟩
        rw [← Go.Deep.add_add, hat j hjl]
        exact List.getElem?_eq_getElem (by omega)
      obtain ⟨u0, _, _, h1, _⟩ := key 0 (by omega) 0 (fs[0]) (by simp [hpos])
      obtain ⟨b, off, spot⟩ := x
      obtain rfl := cell_at (by simpa using h1)
      refine .inr ⟨b, off, rfl, ?_, fun i hil j f hj => ?_⟩
      · have := World.block_lt_of_cell? _ _ h1
        rw [add_plain] at this
        exact this
      · obtain ⟨u, y, n', hu, hy⟩ := key i hil j f hj
        rw [add_plain] at hu
        exact ⟨u, y, n', hu, hy⟩
set_option maxRecDepth 100000 in
theorem u64_cell {W : World} {fuel : Nat} {v : Value} {y : DataW H × List MemPlace} (h : DataW.trod enc Try.prog W 0 (fun _ => true) true fuel 25 [v] = some y) : ∃ x : BitVec 64, v = .int .u64 (U x) := by
  obtain ⟨n, h1, _, h2⟩ := DataW.trod_int Try.underlying25 h
  obtain ⟨x, rfl⟩ := wf_u64 h2
  exact ⟨x, by simpa using h1⟩
/-- Numbers that an int may be. -/
def Ent.wf (x : Ent) : Prop := (-9223372036854775808 ≤ x.reg ∧ x.reg ≤ 9223372036854775807) ∧ (-9223372036854775808 ≤ x.at_ ∧ x.at_ ≤ 9223372036854775807) ∧ (-9223372036854775808 ≤ x.size ∧ x.size ≤ 9223372036854775807)
set_option maxRecDepth 100000 in
theorem ents_cell {W : World} {fuel : Nat} {v : Value} {y : DataW H × List MemPlace} (h : DataW.trod enc Try.prog W 0 (fun _ => true) true fuel 22 [v] = some y) : ∃ l, EntsAt W.heap.size W v l ∧ l.length ≤ maxLen ∧ ∀ x ∈ l, x.wf := by
  obtain ⟨a, len, cap, rfl, hl, hm, ha, hr⟩ := structs_cell Try.underlying22 Try.underlying27 (by kernel_rfl) (by kernel_rfl) (by decide) h
  rcases hr with rfl | ⟨g, off, rfl, hg, hf⟩
  · exact ⟨[], EntsAt.nil _ _ _ _, Nat.zero_le _, by simp⟩
  · have each : ∀ i, i < len → ∃ x : Ent, x.wf ∧ EntAt W g (off + i * 4) x := by
      intro i hi
      obtain ⟨u0, _, _, c0, t0⟩ := hf i hi 0 _ rfl
      obtain ⟨u1, _, _, c1, t1⟩ := hf i hi 1 _ rfl
      obtain ⟨u2, _, _, c2, t2⟩ := hf i hi 2 _ rfl
      obtain ⟨u3, _, _, c3, t3⟩ := hf i hi 3 _ rfl
      obtain ⟨hash, rfl⟩ := u64_cell t0
      obtain ⟨reg, rfl, w1⟩ := int_cell t1
      obtain ⟨at_, rfl, w2⟩ := int_cell t2
      obtain ⟨size, rfl, w3⟩ := int_cell t3
      exact ⟨⟨hash, reg, at_, size⟩, ⟨wf_i64 w1, wf_i64 w2, wf_i64 w3⟩, c0, c1, c2, c3⟩
    refine ⟨(List.range len).map fun i => if hi : i < len then Classical.choose (each i hi) else default, ⟨some ⟨g, off, none⟩, cap, by simp, by simpa using hl, .inr ⟨g, off, rfl, hg, fun i hi => ?_⟩⟩, by simpa using hm, ?_⟩
    · have hi' : i < len := by simpa using hi
      simp only [List.getElem?_map, List.getElem?_range hi', Option.map_some, Option.getD_some, dif_pos hi']
      exact (Classical.choose_spec (each i hi')).2
    · intro x hx
      obtain ⟨i, hi, rfl⟩ := List.mem_map.1 hx
      have hi := List.mem_range.1 hi
      rw [dif_pos hi]
      exact (Classical.choose_spec (each i hi)).1
/-- A document's bucket, by value. -/
def BktArg (W : World) (q : Int × Int × Value × List Ent) : Prop := EntsAt W.heap.size W q.2.2.1 q.2.2.2 ∧ q.2.2.2.length ≤ maxLen ∧ (∀ x ∈ q.2.2.2, x.wf) ∧ (-9223372036854775808 ≤ q.1 ∧ q.1 ≤ 9223372036854775807) ∧ (-9223372036854775808 ≤ q.2.1 ∧ q.2.1 ≤ 9223372036854775807)
set_option maxRecDepth 100000 in
theorem open_bkt {W : World} {base : Nat} {v : Value} {d : DataW H} {p : List MemPlace} (o : Value.okWide Try.prog W .any base 24 v) (h : DataW.Trod enc Try.prog W 0 (fun _ => true) true 24 v d p) : ∃ q : Int × Int × Value × List Ent, v = .agg #[.int .i64 q.1, .int .i64 q.2.1, q.2.2.1] ∧ BktArg W q := by
  have hs := Try.underlying24
  obtain ⟨cs, rfl, hsz⟩ := okWide_struct hs o
  obtain ⟨l⟩ := cs
  obtain ⟨fuel, hf⟩ := h
  obtain ⟨xs, n, _, hx, _, hlen, hg⟩ := DataW.trod_struct hs hf
  have h8 : Try.prog.cellsOf 24 = 3 := by kernel_rfl
  rw [h8] at hsz
  match l, hsz with
  | [c0, c1, c2], _ =>
    have g0 := hg 0 _ rfl
    have g1 := hg 1 _ rfl
    have g2 := hg 2 _ rfl
    have hl3 : xs.length = 3 := hlen
    match xs, hl3 with
    | [x0, x1, x2], _ =>
      obtain ⟨d0, rfl, w0⟩ := int_cell (v := c0) (y := x0) g0
      obtain ⟨d1, rfl, w1⟩ := int_cell (v := c1) (y := x1) g1
      obtain ⟨es, he, hm, hw⟩ := ents_cell (v := c2) (y := x2) g2
      exact ⟨(d0, d1, c2, es), rfl, he, hm, hw, wf_i64 w0, wf_i64 w1⟩
end
end Go.Proofs.Ytpihncafmjbccaa

/-
  Slices of ints, of pairs of ints: in memory, as arguments; an append of ints.
  Conditions: none.
-/
import Derived.Test.YtalgkiagdjckiaaOpenBn
namespace Go.Proofs.Ytalgkiagdjckiaa
open Go.ChangeShapes Go.WideShapes Go.ChangeAt Go.RowKit Go.Deep

/-- The cells of ints. -/
def ints (l : List Int) : List Value := l.map (Value.int .i64)
theorem ints_len (l : List Int) : (ints l).length = l.length := by simp [ints]
theorem ints_append (xs ys : List Int) : ints (xs ++ ys) = ints xs ++ ints ys := by simp [ints]
theorem ints_one (l : List Int) : ∀ u ∈ ints l, u.oneCell' = true := by
  intro u hu
  obtain ⟨b, _, rfl⟩ := List.mem_map.1 hu
  rfl
theorem ints_get (l : List Int) {i : Nat} (hi : i < l.length) : (ints l)[i]? = some (.int .i64 (l[i]?.getD 0)) := by simp [ints, hi]
theorem ints_set (l : List Int) (i : Nat) (x : Int) : (ints l).set i (.int .i64 x) = ints (l.set i x) := by simp [ints, List.map_set]
theorem ints_rep (n : Nat) (x : Int) : ints (List.replicate n x) = List.replicate n (.int .i64 x) := by simp [ints]

/-- A slice of ints, in a block below n₀. -/
def IntsAt (n₀ : Nat) (w : World) (v : Value) (l : List Int) : Prop :=
  ∃ a cap, v = .slice a l.length cap ∧ l.length ≤ cap ∧ (a = none → cap = 0) ∧ (l = [] ∨ ∃ g off, a = some ⟨g, off, none⟩ ∧ g < n₀ ∧ ∀ j, j < l.length → w.cell? ⟨g, off + j, none⟩ = some (.int .i64 (l[j]?.getD 0)))
theorem IntsAt.keep {n m : Nat} {w w' : World} {v : Value} {l : List Int} (h : IntsAt n w v l) (hm : n ≤ m) (hk : ∀ p : Addr, v.ownBlock = some p.block → p.block < n → w'.cell? p = w.cell? p) : IntsAt m w' v l := by
  obtain ⟨a, cap, rfl, hl, h0, h⟩ := h
  refine ⟨a, cap, rfl, hl, h0, ?_⟩
  rcases h with h | ⟨g, off, rfl, hg, hc⟩
  · exact .inl h
  · exact .inr ⟨g, off, rfl, by omega, fun j hj => (hk ⟨g, off + j, none⟩ rfl hg).trans (hc j hj)⟩
theorem IntsAt.below {n₀ : Nat} {w w' : World} {v : Value} {l : List Int} (h : IntsAt n₀ w v l) (hb : Below n₀ w w') : IntsAt n₀ w' v l := h.keep (Nat.le_refl _) fun _ _ hp => hb.cell hp
theorem IntsAt.mono {n₀ n₁ : Nat} {w : World} {v : Value} {l : List Int} (h : IntsAt n₀ w v l) (hn : n₀ ≤ n₁) : IntsAt n₁ w v l := h.keep hn fun _ _ _ => rfl
theorem IntsAt.next {w w' : World} {v : Value} {l : List Int} (h : IntsAt w.heap.size w v l) (hb : Below w.heap.size w w') : IntsAt w'.heap.size w' v l := (h.below hb).mono hb.size
theorem IntsAt.nil (n : Nat) (w : World) : IntsAt n w (.slice none 0 0) [] := ⟨none, 0, rfl, Nat.le_refl _, fun _ => rfl, .inl rfl⟩
theorem IntsAt.slice {n : Nat} {w : World} {v : Value} {l : List Int} (h : IntsAt n w v l) : ∃ a c, v = .slice a l.length c := by
  obtain ⟨a, c, rfl, _⟩ := h; exact ⟨a, c, rfl⟩
theorem IntsAt.get {n : Nat} {w : World} {a : Option Addr} {k c : Nat} {l : List Int} (h : IntsAt n w (.slice a k c) l) {i : Nat} (hi : i < l.length) : ∃ g off, a = some ⟨g, off, none⟩ ∧ g < n ∧ w.cell? ⟨g, off + i, none⟩ = some (.int .i64 (l[i]?.getD 0)) := by
  obtain ⟨a', c', e, hl, _, h⟩ := h
  cases e
  rcases h with h | ⟨g, off, rfl, hg, hc⟩
  · subst h; simp at hi
  · exact ⟨g, off, rfl, hg, hc i hi⟩
theorem IntsAt.none_nil {n₀ : Nat} {w : World} {len cap : Nat} {l : List Int} (h : IntsAt n₀ w (.slice none len cap) l) : len = 0 ∧ cap = 0 ∧ l = [] := by
  obtain ⟨a, cap', e, hl, h0, h⟩ := h
  simp only [Value.slice.injEq] at e
  obtain ⟨rfl, rfl, rfl⟩ := e
  rcases h with rfl | ⟨g, off, hg, _⟩
  · exact ⟨rfl, h0 rfl, rfl⟩
  · cases hg
theorem IntsAt.of_owns {w : World} {base : Nat} {e : TypeId} {v : Value} {n : Nat} {l : List Int} (h : w.ownsRow base e 1 v n (ints l)) (hn : n = l.length) : IntsAt w.heap.size w v l := by
  subst hn
  have h0 := h
  rcases h.2 with ⟨rfl, h1⟩ | ⟨g, cap, cur, rfl, _, hg, hn, _⟩
  · have : l = [] := List.eq_nil_of_length_eq_zero h1
    subst this; exact IntsAt.nil _ _
  · refine ⟨_, cap, rfl, hn, fun h => (by cases h), .inr ⟨g, 0, rfl, (Array.getElem?_eq_some_iff.1 hg).1, fun j hj => ?_⟩⟩
    have := h0.cells (g := g) rfl _ _ (ints_get l hj)
    rwa [add_plain] at this
theorem IntsAt.news {n₀ : Nat} {w : World} {ad : Addr} {len cap : Nat} {l : List Int} (h : IntsAt n₀ w (.slice (some ad) len cap) l) :
    len = l.length ∧ ∀ j u, (ints l)[j]? = some u → w.cell? (ad.add j) = some u := by
  obtain ⟨a, cap', e, _, _, h⟩ := h
  simp only [Value.slice.injEq] at e
  obtain ⟨rfl, rfl, rfl⟩ := e
  refine ⟨rfl, fun j u hj => ?_⟩
  have hlt : j < l.length := by
    have := (List.getElem?_eq_some_iff.1 hj).1
    rwa [ints_len] at this
  rcases h with rfl | ⟨g, off, hg, _, hc⟩
  · simp at hlt
  · cases hg
    rw [add_plain, hc j hlt]
    rw [ints_get l hlt] at hj
    exact hj
/-- A whole block that is a slice of ints. -/
theorem IntsAt.of_blk {w : World} {g : Nat} {l : List Int} {t : TypeId} (h : w.heap[g]? = some (.cells (ints l).toArray t (0, 0))) : IntsAt w.heap.size w (.slice (some ⟨g, 0, none⟩) l.length l.length) l :=
  ⟨_, _, rfl, Nat.le_refl _, fun h => (by cases h), .inr ⟨g, 0, rfl, blk_lt h, fun j hj => by rw [blk_cell h, Nat.zero_add, List.getElem?_toArray]; exact ints_get l hj⟩⟩

theorem infoInt : (Try.prog.info? 3).map (fun i => (i.zero, i.size, i.bytes)) = some (some (.int .i64 0), 1, 8) := by kernel_rfl
theorem info_partsI {i : Option TypeInfo} {z : Value} {s b : Nat} (h : i.map (fun i => (i.zero, i.size, i.bytes)) = some (some z, s, b)) : ∃ i0, i = some i0 ∧ i0.zero = some z ∧ i0.size = s ∧ i0.bytes = b := by
  cases i with
  | none => cases h
  | some i0 => simp at h; exact ⟨i0, rfl, h.1, h.2.1, h.2.2⟩
theorem makeInts (n : Nat) (hn : n ≤ 1073741824) (W : World) : (Instr.makeSlice 28 (.int .i64 n) (.int .i64 n)).run Try.prog W = .ok (.slice (some ⟨W.heap.size, 0, none⟩) n n) (W.alloc (.cells (ints (List.replicate n 0)).toArray 3)) := by
  obtain ⟨i0, hi, hz0, hz1, hz2⟩ := info_partsI infoInt
  have h := run_make (P := Try.prog) W 28 3 i0 (.int .i64 0) Try.underlying28 hi hz0 .i64 .i64 n n (by omega) (by omega) (by rw [hz2]; omega) (by omega)
  simp only [Int.toNat_natCast] at h
  rw [hz1, Nat.mul_one] at h
  have e : madeCells (Value.int .i64 0).cells n = (ints (List.replicate n 0)).toArray := by
    rw [ints_rep]
    apply Array.ext_getElem?
    intro i
    by_cases hi : i < n
    · simp [madeCells, Value.cells, hi, Nat.mod_one]
    · simp [madeCells, Value.cells, hi]
  rw [e] at h
  exact h

/-! An append of ints, whatever the source -/
section
variable {w : World}
theorem run_append_ints (base : Nat) (i0 : TypeInfo) (hi : Try.prog.info? 3 = some i0) (hz0 : i0.zero = some (.int .i64 0)) (hz1 : i0.size = 1) (hz2 : i0.bytes = 8)
    (v : Value) (xs : List Int) (hown : w.ownsRow base 3 1 v xs.length (ints xs)) (u : Value) (n₀ : Nat) (bs : List Int) (hu : IntsAt n₀ w u bs) (hlen : xs.length + bs.length ≤ 1073741824) (hb : base ≤ w.heap.size) :
    ∃ v' w', (Builtin.append_ #[28, 28] 28 #[v, u]).run Try.prog w = .ok v' w' ∧ w'.ownsRow base 3 1 v' (xs ++ bs).length (ints (xs ++ bs)) ∧ w.grownBy w' v.ownBlock ∧
      (v'.ownBlock = v.ownBlock ∨ v'.ownBlock = some w.heap.size) := by
  have hu0 := hu
  obtain ⟨a, cap, rfl, hl, hn, hu⟩ := hu
  cases a with
  | none =>
    obtain ⟨_, rfl, rfl⟩ := hu0.none_nil
    refine ⟨v, w, ?_, by simpa using hown, ⟨rfl, rfl, rfl, Nat.le_refl _, fun _ _ _ => rfl⟩, .inl rfl⟩
    exact run_append_owned_none (P := Try.prog) (w := w) base 28 28 3 i0 1 Try.underlying28 hi v xs.length (ints xs) hown
  | some ad =>
    obtain ⟨v', w', hr, h2, h3, _, h5⟩ := run_append_own_at (P := Try.prog) w base 28 28 3 i0 (.int .i64 0) 1 8 Try.underlying28 hi hz0 hz1 hz2 rfl (by decide) v xs.length (ints xs) hown ad bs.length cap (ints bs)
      (by rw [ints_len]; simp) hu0.news.2 (ints_one bs) (by unfold maxLen; omega) (by omega) hb
    exact ⟨v', w', hr, by rw [ints_append, List.length_append]; exact h2, h3, h5⟩
theorem wpList_append_ints {ops : Array Oper} {rest : List Oper} {o : Oper} {a : Act} {Q : Exit → Act → World → Prop} (hgd : o.guard = none) (s x : Operand) (hty : o.type = 28)
    (ho : o.op = .call { callee := .builtin .append, args := #[s, x], argTypes := #[28, 28] })
    (base : Nat) (i0 : TypeInfo) (hi : Try.prog.info? 3 = some i0) (hz0 : i0.zero = some (.int .i64 0)) (hz1 : i0.size = 1) (hz2 : i0.bytes = 8)
    (v : Value) (hs : a.eval s = v) (xs : List Int) (hown : w.ownsRow base 3 1 v xs.length (ints xs)) (u : Value) (hx : a.eval x = u) (n₀ : Nat) (bs : List Int) (hu : IntsAt n₀ w u bs) (hlen : xs.length + bs.length ≤ 1073741824) (hb : base ≤ w.heap.size)
    (h : ∀ v' w' n, Hid (n = (xs ++ bs).length) → w'.ownsRow base 3 1 v' n (ints (xs ++ bs)) → w.grownBy w' v.ownBlock → (v'.ownBlock = v.ownBlock ∨ v'.ownBlock = some w.heap.size) → wpList Try.prog ops Q rest (a.put o.dst v') w') : wpList Try.prog ops Q (o :: rest) a w := by
  refine wpList_plain hgd fun K hK => ?_
  obtain ⟨v', w', hr, h2, h3, h4⟩ := run_append_ints (w := w) base i0 hi hz0 hz1 hz2 v xs hown u n₀ bs hu hlen hb
  unfold Oper.wp
  simp [execOp, ho, resolve, invoke, builtin, hs, hx, hty, hr, Result.andThen]
  exact hK _ _ (h v' w' _ rfl h2 h3 h4)
end
theorem ownInts_empty (w : World) (base : Nat) (hb : base ≤ w.heap.size) : (w.alloc (.cells #[] 3)).ownsRow base 3 1 (.slice (some ⟨w.heap.size, 0, none⟩) 0 0) ([] : List Int).length (ints []) :=
  World.ownsRow_made w #[] 0 hb (by unfold maxLen; omega) rfl

section
variable {H : Type} {enc : TypeId × Value → H}
set_option maxRecDepth 100000 in
theorem ints_cell {W : World} {fuel : Nat} {v : Value} {y : DataW H × List MemPlace} (h : DataW.trod enc Try.prog W 0 (fun _ => true) true fuel 28 [v] = some y) : ∃ l, IntsAt W.heap.size W v l ∧ l.length ≤ maxLen ∧ ∀ x ∈ l, (Lit.int .i64 x).wf = true := by
  rcases open_ints Try.underlying28 Try.underlying3 (by kernel_rfl) h with ⟨hcs, _⟩ | ⟨x, l, c, zs, hcs, _, hl, hm, hz, _, hcell, hwz⟩
  · obtain rfl : v = .slice none 0 0 := by simpa using hcs
    exact ⟨[], IntsAt.nil _ _, Nat.zero_le _, fun _ h => by cases h⟩
  · obtain rfl : v = .slice (some x) l c := by simpa using hcs
    simp only [if_true] at hz
    have hbt : (zs.take l).length = l := by rw [List.length_take]; omega
    refine ⟨zs.take l, ⟨some x, c, by rw [hbt], by omega, fun h => (by cases h), ?_⟩, by omega, fun y hy => hwz y (List.mem_of_mem_take hy)⟩
    by_cases h0 : l = 0
    · subst h0; exact .inl (by simp)
    · have h1 := hcell 0 (by omega)
      obtain ⟨b, off, spot⟩ := x
      obtain rfl := cell_at h1
      refine .inr ⟨b, off, rfl, ?_, fun j hj => ?_⟩
      · have := World.block_lt_of_cell? _ _ h1
        rw [add_plain] at this
        exact this
      · have hj' : j < l := by omega
        have := hcell j (by omega)
        rw [add_plain] at this
        rw [this]
        have hjb : j < zs.length := by omega
        simp [hj', hjb]
set_option maxRecDepth 100000 in
theorem open_ints1 {W : World} {base : Nat} {v : Value} {d : DataW H} {p : List MemPlace} (o : Value.okWide Try.prog W .any base 28 v) (h : DataW.Trod enc Try.prog W 0 (fun _ => true) true 28 v d p) : ∃ l, IntsAt W.heap.size W v l ∧ (l.length ≤ maxLen ∧ ∀ x ∈ l, (Lit.int .i64 x).wf = true) := by
  obtain ⟨a, len, cap, rfl⟩ := okWide_slice Try.underlying28 o
  obtain ⟨fuel, hf⟩ := h
  exact ints_cell hf
end
end Go.Proofs.Ytalgkiagdjckiaa

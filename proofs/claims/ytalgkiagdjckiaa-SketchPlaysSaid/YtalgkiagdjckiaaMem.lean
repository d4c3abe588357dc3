/-
  Words for memory: slices of bytes that read as lists, steps that write named blocks alone, texts of bytes as strings.
  Conditions: none.
-/
import Derived.Test.YtalgkiagdjckiaaRows
import Derived.Test.YtalgkiagdjckiaaBase
import Derived.Test.YtalgkiagdjckiaaMoves
import Derived.Below
import Derived.Laws.OwnMore
import Derived.Laws.BytesArg
import Derived.Deep.Draws
import Derived.Deep.Slices
import Derived.Maps.AppendAt
import Derived.Lib.Hide
import Derived.Laws.AppendOwnNone
import Derived.RegionTactic
namespace Go.Proofs.Ytalgkiagdjckiaa
open Go.RowKit

theorem add_plain (g off i : Nat) : (⟨g, off, none⟩ : Addr).add i = ⟨g, off + i, none⟩ := by unfold Addr.add; split <;> simp_all

/-- A slice value that reads as these bytes, in a block below n₀. -/
def BytesAt (n₀ : Nat) (w : World) (v : Value) (bs : List (BitVec 8)) : Prop :=
  ∃ a cap, v = .slice a bs.length cap ∧ bs.length ≤ cap ∧ (a = none → cap = 0) ∧ (bs = [] ∨ ∃ g off, a = some ⟨g, off, none⟩ ∧ g < n₀ ∧ ∀ j, j < bs.length → w.cell? ⟨g, off + j, none⟩ = some (.int .u8 (U (bs[j]?.getD 0))))
theorem BytesAt.keep {n₀ : Nat} {w w' : World} {v : Value} {bs : List (BitVec 8)} (h : BytesAt n₀ w v bs) (hk : bs ≠ [] → ∀ p : Addr, v.ownBlock = some p.block → p.block < n₀ → w'.cell? p = w.cell? p) : BytesAt n₀ w' v bs := by
  obtain ⟨a, cap, rfl, hl, h0, h⟩ := h
  refine ⟨a, cap, rfl, hl, h0, ?_⟩
  rcases h with h | ⟨g, off, rfl, hg, hc⟩
  · exact .inl h
  · exact .inr ⟨g, off, rfl, hg, fun j hj => (hk (fun e => by subst e; simp at hj) ⟨g, off + j, none⟩ rfl hg).trans (hc j hj)⟩
theorem BytesAt.below {n₀ : Nat} {w w' : World} (hb : Below n₀ w w') {v : Value} {bs : List (BitVec 8)} (h : BytesAt n₀ w v bs) : BytesAt n₀ w' v bs := h.keep fun _ _ _ hp => hb.cell hp
theorem BytesAt.mono {n₀ n₁ : Nat} (hn : n₀ ≤ n₁) {w : World} {v : Value} {bs : List (BitVec 8)} (h : BytesAt n₀ w v bs) : BytesAt n₁ w v bs := by
  obtain ⟨a, cap, rfl, hl, h0, h⟩ := h
  refine ⟨a, cap, rfl, hl, h0, ?_⟩
  rcases h with h | ⟨g, off, rfl, hg, hc⟩
  · exact .inl h
  · exact .inr ⟨g, off, rfl, by omega, hc⟩
theorem BytesAt.nil (n₀ : Nat) (w : World) : BytesAt n₀ w (.slice none 0 0) [] := ⟨none, 0, rfl, Nat.le_refl _, fun _ => rfl, .inl rfl⟩
theorem BytesAt.lt {n₀ : Nat} {w : World} {v : Value} {bs : List (BitVec 8)} (h : BytesAt n₀ w v bs) (hne : bs ≠ []) {k : Nat} (e : v.ownBlock = some k) : k < n₀ := by
  obtain ⟨a, cap, rfl, hl, h0, h⟩ := h
  rcases h with h | ⟨g, off, rfl, hg, hc⟩
  · exact absurd h hne
  · have : g = k := by simpa [Value.ownBlock] using e
    omega
theorem BytesAt.drewN {n₀ : Nat} {w : World} {v : Value} {bs : List (BitVec 8)} (h : BytesAt n₀ w v bs) (k : Nat) : BytesAt n₀ (w.drewN k) v bs := h
theorem BytesAt.pre {n₀ : Nat} {w : World} {a : Option Addr} {n cap : Nat} {bs : List (BitVec 8)} (h : BytesAt n₀ w (.slice a n cap) bs) (k : Nat) (hk : k ≤ bs.length) : BytesAt n₀ w (.slice a k cap) (bs.take k) := by
  obtain ⟨a', cap', e, hl, h0, h⟩ := h
  simp only [Value.slice.injEq] at e
  obtain ⟨rfl, rfl, rfl⟩ := e
  have hk' : (bs.take k).length = k := by rw [List.length_take]; omega
  refine ⟨a, cap, by rw [hk'], by omega, h0, ?_⟩
  rcases h with rfl | ⟨g, off, rfl, hg, hc⟩
  · exact .inl (by simp)
  · refine .inr ⟨g, off, rfl, hg, fun j hj => ?_⟩
    have hj' : j < k := by omega
    rw [hc j (by omega)]
    simp [hj']
theorem BytesAt.suf {n₀ : Nat} {w : World} {ad : Addr} {n cap : Nat} {bs : List (BitVec 8)} (h : BytesAt n₀ w (.slice (some ad) n cap) bs) (k : Nat) (hk : k ≤ bs.length) : BytesAt n₀ w (.slice (some (ad.add k)) (n - k) (cap - k)) (bs.drop k) := by
  obtain ⟨a', cap', e, hl, h0, h⟩ := h
  simp only [Value.slice.injEq] at e
  obtain ⟨rfl, rfl, rfl⟩ := e
  have hk' : (bs.drop k).length = bs.length - k := List.length_drop
  refine ⟨_, _, by rw [hk'], by omega, fun h => (by cases h), ?_⟩
  rcases h with rfl | ⟨g, off, hg2, hg, hc⟩
  · exact .inl (by simp)
  · cases hg2
    by_cases hkn : k = bs.length
    · exact .inl (by subst hkn; simp)
    · refine .inr ⟨g, off + k, by rw [add_plain], hg, fun j hj => ?_⟩
      rw [Nat.add_assoc, hc (k + j) (by omega)]
      simp
theorem BytesAt.none_nil {n₀ : Nat} {w : World} {len cap : Nat} {bs : List (BitVec 8)} (h : BytesAt n₀ w (.slice none len cap) bs) : len = 0 ∧ cap = 0 ∧ bs = [] := by
  obtain ⟨a, cap', e, hl, h0, h⟩ := h
  simp only [Value.slice.injEq] at e
  obtain ⟨rfl, rfl, rfl⟩ := e
  rcases h with rfl | ⟨g, off, hg, _⟩
  · exact ⟨rfl, h0 rfl, rfl⟩
  · cases hg

/-- The cells of bytes. -/
def cellsOf (bs : List (BitVec 8)) : List Value := bs.map fun b => .int .u8 (U b)
theorem cellsOf_len (bs : List (BitVec 8)) : (cellsOf bs).length = bs.length := by simp [cellsOf]
theorem cellsOf_one (bs : List (BitVec 8)) : ∀ u ∈ cellsOf bs, u.oneCell' = true := by
  intro u hu
  obtain ⟨b, _, rfl⟩ := List.mem_map.1 hu
  rfl
theorem cellsOf_append (xs ys : List (BitVec 8)) : cellsOf (xs ++ ys) = cellsOf xs ++ cellsOf ys := by simp [cellsOf]
theorem cellsOf_nil : cellsOf [] = [] := rfl
theorem BytesAt.of_owns {w : World} {base : Nat} {v : Value} {bs : List (BitVec 8)} (h : w.ownsRow base 5 1 v bs.length (cellsOf bs)) : BytesAt w.heap.size w v bs := by
  have h0 := h
  rcases h.2 with ⟨rfl, h1⟩ | ⟨g, cap, cur, rfl, _, hg, hn, _⟩
  · obtain rfl : bs = [] := by simpa using h1
    exact BytesAt.nil _ _
  · refine ⟨_, cap, rfl, hn, fun h => (by cases h), .inr ⟨g, 0, rfl, (Array.getElem?_eq_some_iff.1 hg).1, fun j hj => ?_⟩⟩
    have := h0.cells (g := g) rfl j (.int .u8 (U (bs[j]?.getD 0))) (by simp [cellsOf, hj])
    rw [add_plain] at this
    exact this
/-- What a slice of bytes holds, for an append from it. -/
theorem BytesAt.news {n₀ : Nat} {w : World} {ad : Addr} {len cap : Nat} {bs : List (BitVec 8)} (h : BytesAt n₀ w (.slice (some ad) len cap) bs) :
    len = bs.length ∧ ∀ j u, (cellsOf bs)[j]? = some u → w.cell? (ad.add j) = some u := by
  obtain ⟨a, cap', e, _, _, h⟩ := h
  simp only [Value.slice.injEq] at e
  obtain ⟨rfl, rfl, rfl⟩ := e
  refine ⟨rfl, fun j u hj => ?_⟩
  have hlt : j < bs.length := by
    have := (List.getElem?_eq_some_iff.1 hj).1
    rwa [cellsOf_len] at this
  rcases h with rfl | ⟨g, off, hg, _, hc⟩
  · simp at hlt
  · cases hg
    rw [add_plain, hc j hlt]
    simp [cellsOf, hlt] at hj
    simp [hlt, hj]
theorem Try.infoU8 : (Try.prog.info? 5).map (fun i => (i.zero, i.size, i.bytes)) = some (some (.int .u8 0), 1, 1) := by kernel_rfl

/-! Steps that write named blocks alone -/

section
variable {S : Nat → Prop} {a b : World}
theorem Moves.bytes {n₀ : Nat} {v : Value} {bs : List (BitVec 8)} (h : Moves S a b) (hv : BytesAt n₀ a v bs) (hn : n₀ ≤ a.heap.size) (hs : bs ≠ [] → ∀ k, v.ownBlock = some k → ¬ S k) : BytesAt n₀ b v bs :=
  hv.keep fun hne p hp hlt => h.cell (by omega) (hs hne _ hp)
end


/-- A slice of bytes that was just laid. -/
theorem bytes_new (w : World) (bs : List (BitVec 8)) (n : Nat) (hn : n = bs.length) (cs : Array Value) (hcs : cs = (cellsOf bs).toArray) (z : Nat × Nat := (0, 0)) : BytesAt (w.heap.size + 1) (w.alloc (.cells cs 5 z)) (.slice (some ⟨w.heap.size, 0, none⟩) n n) bs := by
  subst hn hcs
  refine ⟨_, _, rfl, Nat.le_refl _, fun h => (by cases h), .inr ⟨w.heap.size, 0, rfl, by omega, fun j hj => ?_⟩⟩
  rw [cell_of_row _ _ _ _ _ _ (heap_alloc_new w (.cells (cellsOf bs).toArray 5 z))]
  simp [cellsOf, hj]
theorem bytes_one (w : World) (b : BitVec 8) : BytesAt (w.heap.size + 1) (w.alloc (.cells #[.int .u8 (U b)] 5)) (.slice (some ⟨w.heap.size, 0, none⟩) 1 1) [b] := bytes_new w [b] 1 rfl _ rfl

/-! An append of bytes, whatever the source -/
section
variable {w : World}
theorem run_append_bytes (base : Nat) (i0 : TypeInfo) (hi : Try.prog.info? 5 = some i0) (hz0 : i0.zero = some (.int .u8 0)) (hz1 : i0.size = 1) (hz2 : i0.bytes = 1)
    (v : Value) (xs : List (BitVec 8)) (hown : w.ownsRow base 5 1 v xs.length (cellsOf xs)) (u : Value) (n₀ : Nat) (bs : List (BitVec 8)) (hu : BytesAt n₀ w u bs) (hlen : xs.length + bs.length ≤ 70368744177664) (hb : base ≤ w.heap.size) :
    ∃ v' w', (Builtin.append_ #[34, 34] 34 #[v, u]).run Try.prog w = .ok v' w' ∧ w'.ownsRow base 5 1 v' (xs ++ bs).length (cellsOf (xs ++ bs)) ∧ w.grownBy w' v.ownBlock ∧
      (v'.ownBlock = v.ownBlock ∨ v'.ownBlock = some w.heap.size) := by
  have hu0 := hu
  obtain ⟨a, cap, rfl, hl, hn, hu⟩ := hu
  cases a with
  | none =>
    obtain ⟨_, rfl, rfl⟩ := hu0.none_nil
    refine ⟨v, w, ?_, by simpa using hown, ⟨rfl, rfl, rfl, Nat.le_refl _, fun _ _ _ => rfl⟩, .inl rfl⟩
    exact run_append_owned_none (P := Try.prog) (w := w) base 34 34 5 i0 1 Try.underlying34 hi v xs.length (cellsOf xs) hown
  | some ad =>
    obtain ⟨v', w', hr, h2, h3, _, h5⟩ := run_append_own_at (P := Try.prog) w base 34 34 5 i0 (.int .u8 0) 1 1 Try.underlying34 hi hz0 hz1 hz2 rfl (by decide) v xs.length (cellsOf xs) hown ad bs.length cap (cellsOf bs)
      (by rw [cellsOf_len]; simp) hu0.news.2 (cellsOf_one bs) (by unfold maxLen; omega) (by omega) hb
    exact ⟨v', w', hr, by rw [cellsOf_append, List.length_append]; exact h2, h3, h5⟩
theorem wpList_append_bytes {ops : Array Oper} {rest : List Oper} {o : Oper} {a : Act} {Q : Exit → Act → World → Prop} (hgd : o.guard = none) (s x : Operand) (hty : o.type = 34)
    (ho : o.op = .call { callee := .builtin .append, args := #[s, x], argTypes := #[34, 34] })
    (base : Nat) (i0 : TypeInfo) (hi : Try.prog.info? 5 = some i0) (hz0 : i0.zero = some (.int .u8 0)) (hz1 : i0.size = 1) (hz2 : i0.bytes = 1)
    (v : Value) (hs : a.eval s = v) (xs : List (BitVec 8)) (hown : w.ownsRow base 5 1 v xs.length (cellsOf xs)) (u : Value) (hx : a.eval x = u) (n₀ : Nat) (bs : List (BitVec 8)) (hu : BytesAt n₀ w u bs) (hlen : xs.length + bs.length ≤ 70368744177664) (hb : base ≤ w.heap.size)
    (h : ∀ v' w' n, Hid (n = (xs ++ bs).length) → w'.ownsRow base 5 1 v' n (cellsOf (xs ++ bs)) → w.grownBy w' v.ownBlock → (v'.ownBlock = v.ownBlock ∨ v'.ownBlock = some w.heap.size) → wpList Try.prog ops Q rest (a.put o.dst v') w') : wpList Try.prog ops Q (o :: rest) a w := by
  refine wpList_plain hgd fun K hK => ?_
  obtain ⟨v', w', hr, h2, h3, h4⟩ := run_append_bytes (w := w) base i0 hi hz0 hz1 hz2 v xs hown u n₀ bs hu hlen hb
  unfold Oper.wp
  simp [execOp, ho, resolve, invoke, builtin, hs, hx, hty, hr, Result.andThen]
  exact hK _ _ (h v' w' _ rfl h2 h3 h4)
theorem step_append_bytes {ops : Array Oper} {o : Oper} {a : Act} {K : Act → World → Prop} {Q : Exit → Act → World → Prop} {E : Prop} (hgd : o.guard = none) (s x : Operand) (hty : o.type = 34)
    (ho : o.op = .call { callee := .builtin .append, args := #[s, x], argTypes := #[34, 34] })
    (base : Nat) (i0 : TypeInfo) (hi : Try.prog.info? 5 = some i0) (hz0 : i0.zero = some (.int .u8 0)) (hz1 : i0.size = 1) (hz2 : i0.bytes = 1)
    (v : Value) (hs : a.eval s = v) (xs : List (BitVec 8)) (hown : w.ownsRow base 5 1 v xs.length (cellsOf xs)) (u : Value) (hx : a.eval x = u) (n₀ : Nat) (bs : List (BitVec 8)) (hu : BytesAt n₀ w u bs) (hlen : xs.length + bs.length ≤ 70368744177664) (hb : base ≤ w.heap.size)
    (h : ∀ v' w' n, Hid (n = (xs ++ bs).length) → w'.ownsRow base 5 1 v' n (cellsOf (xs ++ bs)) → w.grownBy w' v.ownBlock → (v'.ownBlock = v.ownBlock ∨ v'.ownBlock = some w.heap.size) → K (a.put o.dst v') w') :
    if Region.wanted o (yielded ops a.tmps) = true then Oper.wp Try.prog o a w K Q else E := by
  have hw : Region.wanted o (yielded ops a.tmps) = true := by simp [Region.wanted, hgd]
  rw [if_pos hw]
  obtain ⟨v', w', hr, h2, h3, h4⟩ := run_append_bytes (w := w) base i0 hi hz0 hz1 hz2 v xs hown u n₀ bs hu hlen hb
  unfold Oper.wp
  simp [execOp, ho, resolve, invoke, builtin, hs, hx, hty, hr, Result.andThen]
  exact h v' w' _ rfl h2 h3 h4
end

theorem own_empty_at (w : World) (base n : Nat) (hn : n = w.heap.size) (hb : base ≤ n) : (w.alloc (.cells #[] 5)).ownsRow base 5 1 (.slice (some ⟨n, 0, none⟩) 0 0) ([] : List (BitVec 8)).length (cellsOf []) := by
  subst hn
  exact World.ownsRow_made w #[] 0 hb (by unfold maxLen; omega) rfl
theorem own_empty (w : World) (base : Nat) (hb : base ≤ w.heap.size) : (w.alloc (.cells #[] 5)).ownsRow base 5 1 (.slice (some ⟨w.heap.size, 0, none⟩) 0 0) ([] : List (BitVec 8)).length (cellsOf []) :=
  World.ownsRow_made w #[] 0 hb (by unfold maxLen; omega) rfl

/-! Texts -/

/-- A text of bytes as a string. -/
def strB (bs : List (BitVec 8)) : ByteArray := ⟨(bs.map fun b => UInt8.ofBitVec b).toArray⟩
theorem strB_inj {xs ys : List (BitVec 8)} : strB xs = strB ys ↔ xs = ys := by
  refine ⟨fun h => ?_, fun h => by rw [h]⟩
  have h1 : xs.map (fun b => UInt8.ofBitVec b) = ys.map (fun b => UInt8.ofBitVec b) := by
    have := congrArg (fun s : ByteArray => s.data.toList) h
    simpa [strB] using this
  have h2 := congrArg (fun l => l.map UInt8.toBitVec) h1
  have e : UInt8.toBitVec ∘ (fun b => UInt8.ofBitVec b) = id := by funext b; rfl
  simpa [e] using h2
theorem strB_size (xs : List (BitVec 8)) : (strB xs).size = xs.length := by simp [strB, ByteArray.size]
theorem strB_list (xs : List (BitVec 8)) : (strB xs).data.toList = xs.map fun b => UInt8.ofBitVec b := by simp [strB]

theorem strB_nums (bs : List (BitVec 8)) : strOfNums (bs.map U) = strB bs := by
  unfold strOfNums strB
  congr 2
  rw [List.map_map]
  refine List.map_congr_left fun b _ => ?_
  simp [U]
theorem conv_str {n₀ : Nat} {w : World} {v : Value} {bs : List (BitVec 8)} (h : BytesAt n₀ w v bs) : (convert 34 9 v).run Try.prog w = .ok (.string (strB bs)) w := by
  obtain ⟨a, cap, rfl, hl, h0, h⟩ := h
  by_cases he : bs = []
  · subst he
    cases a with
    | none => rw [run_convert_bytes_nil w 34 5 Try.underlying34 Try.underlying5 _ _ 9 Try.underlying9]; rfl
    | some ad =>
      have h1 : (loadCells ad 0).run Try.prog w = .ok #[] w := by simp [loadCells, loadCellsFrom]
      rw [run_convert_bytes_string w 34 9 5 _ _ _ Try.underlying34 Try.underlying5 Try.underlying9]
      have := run_bytesToString (P := Try.prog) w ad 0 cap [] (by simpa using h1)
      exact this
  · rcases h with h | ⟨g, off, rfl, hg, hc⟩
    · exact absurd h he
    · rw [run_convert_bytes_arg w 34 5 Try.underlying34 Try.underlying5 g off bs.length cap (bs.map U) (by simp) (fun i hi => by rw [hc i hi]; simp [List.getD, hi]) 9 Try.underlying9, strB_nums]

end Go.Proofs.Ytalgkiagdjckiaa

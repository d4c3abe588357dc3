/-
  An append of a row that is read; what is told of a device behind a write.
  Conditions: none.
-/
import Derived.Test.YtadglpnmhpmebaaFp5
namespace Go.Proofs.Ytadglpnmhpmebaa
open Go.RowKit

section
variable {w : World}
theorem run_append_rowF (base : Nat) (t e : TypeId) (i0 : TypeInfo) (z : Value) (size bytes : Nat) (ht : Try.prog.underlying t = some (.slice e)) (hi : Try.prog.info? e = some i0) (hz0 : i0.zero = some z) (hz1 : i0.size = size) (hz2 : i0.bytes = bytes) (hzs : z.cells.size = size) (hsz : 0 < size)
    (v : Value) (n : Nat) (xs : List Value) (hown : w.ownsRow base e size v n xs) (u : Value) (n₀ m : Nat) (f : Nat → Value) (hu : RowF n₀ w u e size m f) (hone : ∀ i, i < m * size → (f i).oneCell' = true) (hlen : n + m ≤ 1000000) (hbytes : (n + m) * bytes ≤ 140737488355328) (hb : base ≤ w.heap.size) :
    ∃ v' w', (Builtin.append_ #[t, t] t #[v, u]).run Try.prog w = .ok v' w' ∧ w'.ownsRow base e size v' (n + m) (xs ++ (List.range (m * size)).map f) ∧ w.grownBy w' v.ownBlock := by
  rcases hu with ⟨rfl, rfl⟩ | ⟨g, c, hm, rfl, hc, hg, hf, _⟩
  · refine ⟨v, w, ?_, by simpa using hown, ⟨rfl, rfl, rfl, Nat.le_refl _, fun _ _ _ => rfl⟩⟩
    exact run_append_owned_none (P := Try.prog) (w := w) base t t e i0 size ht hi v n xs hown
  · obtain ⟨v', w', hr, h2, h3, _, _⟩ := run_append_own_at (P := Try.prog) w base t t e i0 z size bytes ht hi hz0 hz1 hz2 hzs hsz v n xs hown ⟨g, 0, none⟩ m c ((List.range (m * size)).map f)
      (by simp) (fun j u hj => by
        rw [List.getElem?_map] at hj
        by_cases hjm : j < m * size
        · rw [List.getElem?_range hjm] at hj
          cases hj
          rw [add_plain, Nat.zero_add]
          exact hf j hjm
        · rw [List.getElem?_eq_none (by simpa using hjm)] at hj
          cases hj) (fun u hu => by
        obtain ⟨i, hi, rfl⟩ := List.mem_map.1 hu
        exact hone i (List.mem_range.1 hi)) (by unfold maxLen; omega) hbytes hb
    exact ⟨v', w', hr, h2, h3⟩
theorem wp_append_rowF {o : Oper} {a : Act} {K : Act → World → Prop} {Q : Exit → Act → World → Prop} (s x : Operand) (t : TypeId) (hty : o.type = t)
    (ho : o.op = .call { callee := .builtin .append, args := #[s, x], argTypes := #[t, t] }) (base : Nat) (e : TypeId) (i0 : TypeInfo) (z : Value) (size bytes : Nat) (ht : Try.prog.underlying t = some (.slice e)) (hi : Try.prog.info? e = some i0) (hz0 : i0.zero = some z) (hz1 : i0.size = size) (hz2 : i0.bytes = bytes) (hzs : z.cells.size = size) (hsz : 0 < size)
    (v : Value) (n : Nat) (xs : List Value) (hs : a.eval s = v) (hown : w.ownsRow base e size v n xs) (u : Value) (hx : a.eval x = u) (n₀ m : Nat) (f : Nat → Value) (hu : RowF n₀ w u e size m f) (hone : ∀ i, i < m * size → (f i).oneCell' = true) (hlen : n + m ≤ 1000000) (hbytes : (n + m) * bytes ≤ 140737488355328) (hb : base ≤ w.heap.size)
    (h : ∀ v' w', w'.ownsRow base e size v' (n + m) (xs ++ (List.range (m * size)).map f) → w.grownBy w' v.ownBlock → K (a.put o.dst v') w') : o.wp Try.prog a w K Q := by
  obtain ⟨v', w', hr, h2, h3⟩ := run_append_rowF (w := w) base t e i0 z size bytes ht hi hz0 hz1 hz2 hzs hsz v n xs hown u n₀ m f hu hone hlen hbytes hb
  unfold Oper.wp
  simp [execOp, ho, resolve, invoke, builtin, hs, hx, hty, hr, Result.andThen]
  exact h v' w' h2 h3
theorem wpList_append_rowF {ops : Array Oper} {rest : List Oper} {o : Oper} {a : Act} {Q : Exit → Act → World → Prop} (hgd : o.guard = none) (s x : Operand) (t : TypeId) (hty : o.type = t)
    (ho : o.op = .call { callee := .builtin .append, args := #[s, x], argTypes := #[t, t] }) (base : Nat) (e : TypeId) (i0 : TypeInfo) (z : Value) (size bytes : Nat) (ht : Try.prog.underlying t = some (.slice e)) (hi : Try.prog.info? e = some i0) (hz0 : i0.zero = some z) (hz1 : i0.size = size) (hz2 : i0.bytes = bytes) (hzs : z.cells.size = size) (hsz : 0 < size)
    (v : Value) (n : Nat) (xs : List Value) (hs : a.eval s = v) (hown : w.ownsRow base e size v n xs) (u : Value) (hx : a.eval x = u) (n₀ m : Nat) (f : Nat → Value) (hu : RowF n₀ w u e size m f) (hone : ∀ i, i < m * size → (f i).oneCell' = true) (hlen : n + m ≤ 1000000) (hbytes : (n + m) * bytes ≤ 140737488355328) (hb : base ≤ w.heap.size)
    (h : ∀ v' w', w'.ownsRow base e size v' (n + m) (xs ++ (List.range (m * size)).map f) → w.grownBy w' v.ownBlock → wpList Try.prog ops Q rest (a.put o.dst v') w') : wpList Try.prog ops Q (o :: rest) a w :=
  wpList_plain hgd fun _ hK => wp_append_rowF s x t hty ho base e i0 z size bytes ht hi hz0 hz1 hz2 hzs hsz v n xs hs hown u hx n₀ m f hu hone hlen hbytes hb fun v' w' h2 h3 => hK _ _ (h v' w' h2 h3)
end
theorem own_emptyT (w : World) (base : Nat) (e : TypeId) (size : Nat) (hb : base ≤ w.heap.size) : (w.alloc (.cells #[] e)).ownsRow base e size (.slice (some ⟨w.heap.size, 0, none⟩) 0 0) 0 [] :=
  World.ownsRow_made w #[] 0 hb (by unfold maxLen; omega) (by simp)
theorem strs_one (m : Nat) (f : Nat → List (BitVec 8)) : ∀ i, i < m * 1 → (Value.string (strB (f i))).oneCell' = true := fun _ _ => rfl
theorem wrs_one (l : List (Nat × List (BitVec 8))) : ∀ i, i < l.length * 2 → (wrC l i).oneCell' = true := fun i _ => by
  unfold wrC
  split <;> rfl
/-- A result of a struct in a cell, a number in a slot. -/
theorem rd_res {fn : Func} {p q : Tmp} (hf : fn.results = #[.cell p 33, .tmp q]) (tmps : Array Value) (w : World) (z : Nat) (cs : Array Value) (n : Int) (h : w.heap[z]? = some (.cells cs 33 (0, 0))) (hsz : (Try.prog.info? 33).map (·.size) = some cs.size)
    (h2 : tmps.getD p undef = .pointer (some ⟨z, 0, none⟩)) (h3 : tmps.getD q undef = .int .i64 n) : (results fn tmps).run Try.prog w = .ok (.tuple #[.agg cs, .int .i64 n]) w := by
  have h2' : tmps[p]?.getD undef = .pointer (some ⟨z, 0, none⟩) := by simpa using h2
  have h3' : tmps[q]?.getD undef = .int .i64 n := by simpa using h3
  simp [results, hf, h2', h3', asAddr, run_loadVar_row w z 33 33 cs (0, 0) _ h Try.underlying33 rfl hsz]
theorem pasts_give (d : Dev) (k : Nat) (bs : List (BitVec 8)) (j : Nat) : (d.give k bs).pasts j = if j = k then bs :: d.pasts j else d.pasts j := by
  unfold Dev.pasts Dev.give
  by_cases h : j = k
  · simp [h]
  · simp [h]
theorem wrC_snoc (l : List (Nat × List (BitVec 8))) (k : Nat) (bs : List (BitVec 8)) : (List.range (l.length * 2)).map (wrC l) ++ [.int .i64 (k : Int), .string (strB bs)] = (List.range ((l ++ [(k, bs)]).length * 2)).map (wrC (l ++ [(k, bs)])) := by
  apply List.ext_getElem?
  intro i
  have hlen : (l ++ [(k, bs)]).length = l.length + 1 := by simp
  rw [hlen]
  by_cases h : i < l.length * 2
  · rw [List.getElem?_append_left (by simpa using h), List.getElem?_map, List.getElem?_range h, List.getElem?_map, List.getElem?_range (by omega)]
    simp only [Option.map_some]
    congr 1
    unfold wrC
    rw [List.getElem?_append_left (by omega)]
  · rw [List.getElem?_append_right (by simpa using h)]
    simp only [List.length_map, List.length_range]
    by_cases h0 : i = l.length * 2
    · subst h0
      rw [Nat.sub_self, List.getElem?_map, List.getElem?_range (by omega)]
      simp only [List.getElem?_cons_zero, Option.map_some]
      unfold wrC
      rw [if_pos (by omega), show l.length * 2 / 2 = l.length by omega, List.getElem?_append_right (Nat.le_refl _)]
      simp
    · by_cases h1 : i = l.length * 2 + 1
      · subst h1
        rw [show l.length * 2 + 1 - l.length * 2 = 1 by omega, List.getElem?_map, List.getElem?_range (by omega)]
        simp only [List.getElem?_cons_succ, List.getElem?_cons_zero, Option.map_some]
        unfold wrC
        rw [if_neg (by omega), show (l.length * 2 + 1) / 2 = l.length by omega, List.getElem?_append_right (Nat.le_refl _)]
        simp
      · rw [List.getElem?_eq_none (by simp; omega), List.getElem?_eq_none (by simp; omega)]
end Go.Proofs.Ytadglpnmhpmebaa

/-
  Rows of slices of bytes, each in memory of its own: what Past answers.
  Conditions: none.
-/
import Derived.Test.YtadglpnmhpmebaaFlashHere
import Derived.Test.YtadglpnmhpmebaaNearRange
namespace Go.Proofs.Ytadglpnmhpmebaa
open Go.RowKit

theorem own_is_cells {W : World} {b : Nat} {e : TypeId} {sz : Nat} {v : Value} {n : Nat} {xs : List Value} (h : W.ownsRow b e sz v n xs) {k : Nat} (hk : v.ownBlock = some k) : ∃ cs sp, W.heap[k]? = some (.cells cs e sp) := by
  rcases h.2 with ⟨rfl, _⟩ | ⟨g, cap, cur, rfl, _, hg, _⟩
  · simp [Value.ownBlock] at hk
  · obtain rfl : g = k := by simpa [Value.ownBlock] using hk
    exact ⟨_, _, hg⟩
/-- A row of slices of bytes made at n or behind. -/
def PRows (n : Nat) (W : World) (v : Value) (l : List (List (BitVec 8))) : Prop := ∃ us : List Value, W.ownsRow n 42 1 v l.length us ∧ ∀ (i : Nat) (x : List (BitVec 8)), l[i]? = some x → ∃ u, us[i]? = some u ∧ W.ownsRow n 5 1 u x.length (cellsOf x)
theorem PRows.below {n : Nat} {W W' : World} {v : Value} {l : List (List (BitVec 8))} (h : PRows n W v l) (hb : Below W.heap.size W W') : PRows n W' v l := by
  obtain ⟨us, h1, h2⟩ := h
  refine ⟨us, (Moves.of_below (S := fun _ => False) hb).row h1 (fun _ _ h => h), fun i x hx => ?_⟩
  obtain ⟨u, hu, ho⟩ := h2 i x hx
  exact ⟨u, hu, (Moves.of_below (S := fun _ => False) hb).row ho (fun _ _ h => h)⟩
theorem PRows.put {n : Nat} {W : World} {v : Value} {l : List (List (BitVec 8))} (h : PRows n W v l) {i : Nat} {o o' : Obj} (ho : W.heap[i]? = some o) (hc : o.isCells = false) : PRows n (W.putObj i o') v l := by
  have hne : ∀ {b : Nat} {e : TypeId} {sz : Nat} {v : Value} {n : Nat} {xs : List Value}, W.ownsRow b e sz v n xs → ∀ k, v.ownBlock = some k → ¬ k = i := fun hr k hk e => by
    obtain ⟨cs, sp, h1⟩ := own_is_cells hr hk
    subst e
    rw [ho] at h1
    cases h1
    cases hc
  obtain ⟨us, h1, h2⟩ := h
  refine ⟨us, (put_moves W i o').row h1 (hne h1), fun j x hx => ?_⟩
  obtain ⟨u, hu, hr⟩ := h2 j x hx
  exact ⟨u, hu, (put_moves W i o').row hr (hne hr)⟩
/-- One more behind them: the row's own block alone has grown. -/
theorem PRows.snoc {n : Nat} {W W' : World} {v v' u : Value} {l : List (List (BitVec 8))} {x : List (BitVec 8)} {us : List Value} (h : ∀ (i : Nat) (x : List (BitVec 8)), l[i]? = some x → ∃ u, us[i]? = some u ∧ W.ownsRow n 5 1 u x.length (cellsOf x)) (hl : W.ownsRow n 42 1 v l.length us) (hx : W.ownsRow n 5 1 u x.length (cellsOf x))
    (hg : W.grownBy W' v.ownBlock) (hr : W'.ownsRow n 42 1 v' (l.length + 1) (us ++ [u])) : PRows n W' v' (l ++ [x]) := by
  have hm : Moves (fun k => v.ownBlock = some k) W W' := Moves.of_grown hg (fun _ e => e)
  have hul : us.length = l.length := by have := hl.1; omega
  refine ⟨us ++ [u], by rw [List.length_append]; exact hr, fun i y hy => ?_⟩
  by_cases hi : i < l.length
  · rw [List.getElem?_append_left hi] at hy
    obtain ⟨u1, hu1, ho1⟩ := h i y hy
    exact ⟨u1, by rw [List.getElem?_append_left (by omega)]; exact hu1, hm.row ho1 (fun _ e => rows_apart ho1 hl (by decide) e)⟩
  · have hi2 : i = l.length := by
      have := (List.getElem?_eq_some_iff.1 hy).1
      rw [List.length_append, List.length_singleton] at this
      omega
    subst hi2
    rw [List.getElem?_append_right (Nat.le_refl _), Nat.sub_self] at hy
    obtain rfl : x = y := by simpa using hy
    exact ⟨u, by rw [List.getElem?_append_right (by omega), show l.length - us.length = 0 by omega]; rfl, hm.row hx (fun _ e => rows_apart hx hl (by decide) e)⟩
end Go.Proofs.Ytadglpnmhpmebaa

/-
  The document's own clock: Put, where all places are full.
  Conditions: none.
-/
import Derived.Test.YtadhkciggiefbaaCkRef8
namespace Go.Proofs.Ytadhkciggiefbaa
open Go.RowKit

/-- The clock's block, set. -/
theorem Lay3.turn {w W : World} {v : Value} {hand : Int} (h : Lay3 w W v hand) (v' : Value) (hand' : Int) : Lay3 w (setCk W w.heap.size v' hand') v' hand' :=
  ⟨setCk_blk h.b0 v' hand', ((setCk_moves W w.heap.size v' hand').block _ (blk_lt h.b1) (by omega)).trans h.b1, ((setCk_moves W w.heap.size v' hand').block _ (blk_lt h.b2) (by omega)).trans h.b2, h.hb.trans ((setCk_moves W w.heap.size v' hand').below (B := w.heap.size) (fun i h => by omega) h.hb.size)⟩
/-- A place made, read from the slice. -/
theorem plRow {W : World} {g off : Nat} {p : Pl} {i : Nat} (d0 : W.cell? ⟨g, off + i * 4, none⟩ = some (.bool p.full)) (d1 : W.cell? ⟨g, off + i * 4 + 1, none⟩ = some (.bool p.marked)) : W.cell? ⟨g, off + i * 4, none⟩ = some (.bool p.full) ∧ W.cell? ⟨g, off + i * 4 + 1, none⟩ = some (.bool p.marked) := ⟨d0, d1⟩
/-- One turn of the hand. -/
def turnPs (ps : List Pl) (a : Nat) : List Pl := ps.set a { (ps[a]?.getD default) with marked := false }
theorem swp_step {f : Nat} {ps : List Pl} {a : Nat} (h : (ps[a]?.getD default).marked = true) : swp (f + 1) ps a = swp f (turnPs ps a) ((a + 1) % ps.length) := by
  conv => lhs; unfold swp
  rw [if_pos h]; rfl
theorem swp_stop {f : Nat} {ps : List Pl} {a : Nat} (h : (ps[a]?.getD default).marked = false) : swp f ps a = (ps, a) := by
  cases f with
  | zero => rfl
  | succ f => unfold swp; rw [if_neg (by rw [h]; simp)]
/-- What holds while the hand turns: j looks are left. -/
structure Turns (ps0 : List Pl) (h0 : Nat) (j : Nat) (ps : List Pl) (a : Nat) : Prop where
  lt : a < ps0.length
  len : ps.length = ps0.length
  fuel : j ≤ ps0.length + 1
  same : swp j ps a = swp (ps0.length + 1) ps0 h0
  at_ : (h0 + (ps0.length + 1 - j)) % ps0.length = a
  no : ∀ i, i < ps0.length + 1 - j → (ps[(h0 + i) % ps0.length]?.getD default).marked = false
  ints : ∀ p ∈ ps, ∃ t, p.thing = .int .i64 t
theorem Turns.start {ps : List Pl} {h : Nat} (hh : h < ps.length) (hth : ∀ p ∈ ps, ∃ t, p.thing = .int .i64 t) : Turns ps h (ps.length + 1) ps h :=
  ⟨hh, rfl, Nat.le_refl _, rfl, by rw [Nat.sub_self, Nat.add_zero]; exact Nat.mod_eq_of_lt hh, fun i hi => by omega, hth⟩
theorem Turns.more {ps0 ps : List Pl} {h0 j a : Nat} (h : Turns ps0 h0 j ps a) (hm : (ps[a]?.getD default).marked = true) : ∃ f, j = f + 1 ∧ Turns ps0 h0 f (turnPs ps a) ((a + 1) % ps0.length) := by
  have hj1 : 1 ≤ j := by
    rcases Nat.eq_zero_or_pos j with e | e
    · subst e
      have h1 := h.no 1 (by have := h.lt; omega)
      have h2 := h.at_
      rw [show (h0 + (ps0.length + 1 - 0)) % ps0.length = (h0 + 1) % ps0.length by rw [show h0 + (ps0.length + 1 - 0) = (h0 + 1) + ps0.length by omega, Nat.add_mod_right]] at h2
      rw [h2, hm] at h1
      cases h1
    · exact e
  obtain ⟨f, rfl⟩ : ∃ f, j = f + 1 := ⟨j - 1, by omega⟩
  have hal : a < ps.length := by rw [h.len]; exact h.lt
  refine ⟨f, rfl, Nat.mod_lt _ (by have := h.lt; omega), by unfold turnPs; rw [List.length_set]; exact h.len, by have := h.fuel; omega, ?_, ?_, ?_, ?_⟩
  · rw [← h.same, swp_step hm, h.len]
  · rw [← h.at_, Nat.mod_add_mod]
    congr 1
    have := h.fuel; omega
  · intro i hi
    unfold turnPs
    rw [List.getElem?_set]
    by_cases ha2 : a = (h0 + i) % ps0.length
    · rw [if_pos ha2, if_pos hal]; rfl
    · rw [if_neg ha2]
      refine h.no i ?_
      rcases Nat.lt_or_ge i (ps0.length + 1 - (f + 1)) with h1 | h1
      · exact h1
      · exfalso
        apply ha2
        rw [← h.at_]
        congr 1
        omega
  · exact things_set (Q := fun v => ∃ t, v = .int .i64 t) h.ints (by rw [List.getElem?_eq_getElem hal]; show ∃ t, (ps[a]).thing = .int .i64 t; exact h.ints _ (List.getElem_mem hal))
theorem Lay3.hand {w W : World} {v : Value} {hand : Int} (h : Lay3 w W v hand) (k : Int) : Lay3 w (W.setCell ⟨w.heap.size, 1, none⟩ (.int .i64 k)) v k := by
  have hm : Moves (fun j => j = w.heap.size) W (W.setCell ⟨w.heap.size, 1, none⟩ (.int .i64 k)) := (Moves.refl (fun j => j = w.heap.size) W).setCell (p := ⟨w.heap.size, 1, none⟩) (fun _ => rfl) _
  refine ⟨?_, (hm.block _ (blk_lt h.b1) (by omega)).trans h.b1, (hm.block _ (blk_lt h.b2) (by omega)).trans h.b2, h.hb.trans (hm.below (B := w.heap.size) (fun i h => by omega) h.hb.size)⟩
  have := blk_set h.b0 1 (.int .i64 k)
  simp only [List.setIfInBounds_toArray, List.set_cons_zero, List.set_cons_succ] at this
  exact this
theorem hand_moves (W : World) (z : Nat) (k : Int) : Moves (fun j => j = z) W (W.setCell ⟨z, 1, none⟩ (.int .i64 k)) := (Moves.refl (fun j => j = z) W).setCell (p := ⟨z, 1, none⟩) (fun _ => rfl) _
theorem PlsAt.movesB {w w' : World} {v : Value} {ps : List Pl} {z : Nat} (h : PlsAt w.heap.size w v ps) (hne : ∀ g off n c, v = .slice (some ⟨g, off, none⟩) n c → g ≠ z) (hm : Moves (fun j => j = z) w w') : PlsAt w'.heap.size w' v ps := by
  obtain ⟨a', cap, rfl, hl, h0, h⟩ := h
  refine ⟨a', cap, rfl, hl, h0, ?_⟩
  rcases h with h | ⟨g, off, rfl, hg, hc⟩
  · exact .inl h
  · exact .inr ⟨g, off, rfl, hg.to (Nat.lt_of_lt_of_le hg.1 hm.size) (hm.block g hg.1 (hne g off _ _ rfl)), fun j u hj => (hm.cell (p := ⟨g, off + j, none⟩) hg.1 (hne g off _ _ rfl)).trans (hc j u hj)⟩
/-- A place is stored into the cells of another. -/
def setPl (w : World) (z : Nat) (f m : Bool) (k t : Int) : World := (((w.setCell ⟨z, 0, none⟩ (.bool f)).setCell ⟨z, 1, none⟩ (.bool m)).setCell ⟨z, 2, none⟩ (.int .i64 k)).setCell ⟨z, 3, none⟩ (.int .i64 t)
theorem setPl_moves (w : World) (z : Nat) (f m : Bool) (k t : Int) : Moves (fun j => j = z) w (setPl w z f m k t) :=
  ((((Moves.refl (fun j => j = z) w).setCell (p := ⟨z, 0, none⟩) (fun _ => rfl) _).setCell (p := ⟨z, 1, none⟩) (fun _ => rfl) _).setCell (p := ⟨z, 2, none⟩) (fun _ => rfl) _).setCell (p := ⟨z, 3, none⟩) (fun _ => rfl) _
theorem setPl_blk {w : World} {z : Nat} {v0 v1 v2 v3 : Value} {ty : TypeId} (h : w.heap[z]? = some (.cells #[v0, v1, v2, v3] ty (0, 0))) (f m : Bool) (k t : Int) : (setPl w z f m k t).heap[z]? = some (.cells (plC f m k t) ty (0, 0)) := by
  have := blk_set (blk_set (blk_set (blk_set h 0 (.bool f)) 1 (.bool m)) 2 (.int .i64 k)) 3 (.int .i64 t)
  simp only [List.setIfInBounds_toArray, List.set_cons_zero, List.set_cons_succ] at this
  exact this
/-- The end of a put that lets one go. -/
theorem put_end2 {w W : World} {v : Value} {hand : Int} (L : Lay3 w W v hand) {ps : List Pl} {a : Option Addr} {n c : Nat} (e : v = .slice a n c) (h : PlsAt W.heap.size W v ps) (hne : ∀ g off n c, v = .slice (some ⟨g, off, none⟩) n c → g ≠ w.heap.size + 2) (f m : Bool) (k t : Int) :
    (setPl (setCk W (w.heap.size + 1) v hand) (w.heap.size + 2) f m k t).heap[w.heap.size + 1]? = some (.cells (ckC v hand) 29 (0, 0)) ∧
    (setPl (setCk W (w.heap.size + 1) v hand) (w.heap.size + 2) f m k t).heap[w.heap.size + 2]? = some (.cells (plC f m k t) 39 (0, 0)) ∧
    PlsAt (setPl (setCk W (w.heap.size + 1) v hand) (w.heap.size + 2) f m k t).heap.size (setPl (setCk W (w.heap.size + 1) v hand) (w.heap.size + 2) f m k t) v ps ∧
    Below w.heap.size w (setPl (setCk W (w.heap.size + 1) v hand) (w.heap.size + 2) f m k t) := by
  subst e
  have m1 := setCk_moves W (w.heap.size + 1) (.slice a n c) hand
  have q1 := setCk_blk L.b1 (.slice a n c) hand
  have q2 := (m1.block _ (blk_lt L.b2) (by omega)).trans L.b2
  have m2 := setPl_moves (setCk W (w.heap.size + 1) (.slice a n c) hand) (w.heap.size + 2) f m k t
  have hb1 := L.hb.trans (m1.below (B := w.heap.size) (fun i h => by omega) L.hb.size)
  exact ⟨(m2.block _ (blk_lt q1) (by omega)).trans q1, setPl_blk q2 f m k t, (h.moves L.b1 m1).movesB hne m2, hb1.trans (m2.below (B := w.heap.size) (fun i h => by omega) hb1.size)⟩
end Go.Proofs.Ytadhkciggiefbaa

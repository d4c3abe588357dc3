/-
  What a reader's take does.
  Conditions: none.
-/
import Derived.Test.YtalgkiagdjckiaaWire4
namespace Go.Proofs.Ytalgkiagdjckiaa
open Go.RowKit

/-- What a reader's calls may write. -/
def rS (R : Nat) : Nat → Prop := fun k => k = R

theorem BytesAt.beside {n₀ R i : Nat} {w : World} {u x : Value} {bs : List (BitVec 8)} {a : Option Addr} {l c : Nat} {b : Bool} {t : TypeId} (h : BytesAt n₀ w u bs) (hR : w.heap[R]? = some (.cells #[.slice a l c, .bool b] t (0, 0))) : BytesAt n₀ (w.setCell ⟨R, i, none⟩ x) u bs := by
  obtain ⟨a', cap, rfl, hl, h0, h⟩ := h
  refine ⟨a', cap, rfl, hl, h0, ?_⟩
  rcases h with h | ⟨g, off, rfl, hg, hc⟩
  · exact .inl h
  · refine .inr ⟨g, off, rfl, hg, fun j hj => ?_⟩
    have hne : g ≠ R := by
      rintro rfl
      have h1 := hc j hj
      rw [blk_cell hR] at h1
      match hm : off + j with
      | 0 => rw [hm] at h1; simp at h1
      | 1 => rw [hm] at h1; simp at h1
      | k + 2 => rw [hm] at h1; simp at h1
    exact (World.cell?_of_block (Below.heap_setCell w ⟨R, i, none⟩ x g hne)).trans (hc j hj)

/-- What is taken, what is left, whether the reader is bad ('none': it may not be asked for). -/
def takenB (left : List (BitVec 8)) (n : Option Nat) : List (BitVec 8) := match n with | none => [] | some k => left.take k
def leftB (left : List (BitVec 8)) (n : Option Nat) : List (BitVec 8) := match n with | none => [] | some k => left.drop k
def badB (bad : Bool) (n : Option Nat) : Bool := match n with | none => true | some _ => bad
/-- How much is taken: nothing, if it may not be asked for, or there is not so much. -/
def tookN (left : List (BitVec 8)) (right : Bool) (n : Int) : Option Nat := if right = true ∧ 0 ≤ n ∧ n ≤ left.length then some n.toNat else none
end Go.Proofs.Ytalgkiagdjckiaa

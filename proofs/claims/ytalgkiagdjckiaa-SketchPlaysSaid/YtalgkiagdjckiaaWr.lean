/-
  A writer, a reader that were made behind a world: what their calls leave, as long as there is room.
  Conditions: none.
-/
import Derived.Test.YtalgkiagdjckiaaWire6
namespace Go.Proofs.Ytalgkiagdjckiaa
open Go.RowKit

theorem base_own {w : World} {b b' : Nat} {e : TypeId} {size n : Nat} {v : Value} {xs : List Value} (h : w.ownsRow b e size v n xs) (hb : b' ≤ b) : w.ownsRow b' e size v n xs := by
  obtain ⟨h1, h2⟩ := h
  refine ⟨h1, ?_⟩
  rcases h2 with h2 | ⟨g, cap, cur, hv, hg, r⟩
  · exact .inl h2
  · exact .inr ⟨g, cap, cur, hv, Nat.le_trans hb hg, r⟩

/-- The bytes of a number, the lowest first. -/
def leI (k i : Int) : List (BitVec 8) := leB k.toNat (BitVec.ofInt 64 i)
theorem leI_len (k i : Int) : (leI k i).length = k.toNat := leB_len _ _
/-- All bytes that were there are there still. -/
def Keeps (W W' : World) : Prop := ∀ n u bs, BytesAt n W u bs → n ≤ W.heap.size → BytesAt n W' u bs
theorem Keeps.of_below {W W' : World} (hb : Below W.heap.size W W') : Keeps W W' := fun _ _ _ h hn => h.below (hb.mono hn)
/-- What is read, left, bad behind k bytes were asked for. -/
def rdN (left : List (BitVec 8)) (k : Int) : BitVec 64 := leOf (takenB left (tookN left (mayB k) k))
def rdL (left : List (BitVec 8)) (k : Int) : List (BitVec 8) := leftB left (tookN left (mayB k) k)
def rdB (left : List (BitVec 8)) (bad : Bool) (k : Int) : Bool := badB bad (tookN left (mayB k) k)
end Go.Proofs.Ytalgkiagdjckiaa

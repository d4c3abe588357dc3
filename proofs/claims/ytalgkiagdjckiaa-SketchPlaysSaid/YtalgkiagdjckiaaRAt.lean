/-
  The document's numbers as bytes; a row that is made behind a world.
  Conditions: none.
-/
import Derived.Test.YtalgkiagdjckiaaWr
import Derived.Test.YtalgkiagdjckiaaRef03
namespace Go.Proofs.Ytalgkiagdjckiaa
open Go.RowKit

theorem refNumO (i k : Int) (h0 : 0 ≤ i) (h1 : i < 18446744073709551616) (hk : mayB k = true) (W : World) : Calls Try.prog 29 #[.int .u64 i, .int .i64 k] W fun e w' => ∃ u, e = .returned u ∧ w'.ownsRow W.heap.size 5 1 u (leI k i).length (cellsOf (leI k i)) ∧ Below W.heap.size W w' := by
  have hk0 : 0 ≤ k := by
    have : k = 1 ∨ k = 2 ∨ k = 4 ∨ k = 8 := by simpa [mayB] using hk
    omega
  obtain ⟨n, rfl⟩ := Int.eq_ofNat_of_zero_le hk0
  obtain ⟨x, rfl⟩ : ∃ x : BitVec 64, i = U x := U_mk h0 h1
  refine (refNumber_yes x n hk W).mono ?_
  rintro e w' ⟨u, he, hu, hb⟩
  refine ⟨u, he, ?_, hb⟩
  unfold leI
  rw [ofInt_U, leB_len]
  exact hu
theorem refNumI (i k : Int) (h0 : 0 ≤ i) (h1 : i < 18446744073709551616) (hk : mayB k = true) (W : World) : Calls Try.prog 29 #[.int .u64 i, .int .i64 k] W fun e w' => ∃ u, e = .returned u ∧ BytesAt w'.heap.size w' u (leI k i) ∧ Below W.heap.size W w' := by
  refine (refNumO i k h0 h1 hk W).mono ?_
  rintro e w' ⟨u, he, hu, hb⟩
  exact ⟨u, he, BytesAt.of_owns hu, hb⟩
/-- A row that is made behind w0: nothing that was there has turned. -/
def RAt (w0 : World) (v : Value) (row : List (BitVec 8)) (W : World) : Prop := W.ownsRow w0.heap.size 5 1 v row.length (cellsOf row) ∧ Below w0.heap.size w0 W
theorem RAt.behind {w0 W W' : World} {v : Value} {row : List (BitVec 8)} (h : RAt w0 v row W) (hb : Below W.heap.size W W') : RAt w0 v row W' :=
  ⟨(Moves.of_below (S := fun _ => False) hb).row h.1 (fun _ _ h => h), h.2.trans (hb.mono h.2.size)⟩
theorem RAt.app {w0 W w1 : World} {v v1 : Value} {row bs : List (BitVec 8)} {n : Nat} (h : RAt w0 v row W) (hn : n = (row ++ bs).length) (ho : w1.ownsRow w0.heap.size 5 1 v1 n (cellsOf (row ++ bs))) (hg : W.grownBy w1 v.ownBlock) : RAt w0 v1 (row ++ bs) w1 := by
  subst hn
  exact ⟨ho, h.2.grown hg h.2.size (fun k e => (h.1.lt k e).1)⟩
end Go.Proofs.Ytalgkiagdjckiaa

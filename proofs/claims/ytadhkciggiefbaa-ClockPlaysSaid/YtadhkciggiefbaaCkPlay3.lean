/-
  The clock and the document's own clock, side by side in memory.
  Conditions: none.
-/
import Derived.Test.YtadhkciggiefbaaCkPlay1
namespace Go.Proofs.Ytadhkciggiefbaa
open Go.RowKit

/-- What the clock's own operations turn are not the reference's places. -/
theorem PlsAt.clocks {n₀ : Nat} {w w' : World} {v : Value} {ps : List Pl} {C g M : Nat} {s : Ck} (h : PlsAt w.heap.size w v ps) (hC : ClockAt n₀ w C g M s) (hm : Moves (fun k => k = C ∨ k = g ∨ k = M) w w') : PlsAt w'.heap.size w' v ps := by
  obtain ⟨a', cap, rfl, hl, h0, h⟩ := h
  refine ⟨a', cap, rfl, hl, h0, ?_⟩
  rcases h with h | ⟨b, off, rfl, hb, hc⟩
  · exact .inl h
  · obtain ⟨hlt, cs, cur, he⟩ := id hb
    have hne : ¬ (b = C ∨ b = g ∨ b = M) := by
      rintro (rfl | rfl | rfl)
      · rw [hC.blk] at he
        have : (52 : TypeId) = 39 := by injection (Option.some.inj he)
        exact absurd this (by decide)
      · rw [hC.row] at he
        have : (56 : TypeId) = 39 := by injection (Option.some.inj he)
        exact absurd this (by decide)
      · obtain ⟨_, es, c, hmm, _⟩ := hC.map
        rw [hmm] at he
        cases he
    exact .inr ⟨b, off, rfl, hb.to (Nat.lt_of_lt_of_le hlt hm.size) (hm.block b hlt hne), fun j u hj => (hm.cell (p := ⟨b, off + j, none⟩) hlt hne).trans (hc j u hj)⟩
/-- Both, at the same places and the same hand; the reference's in the block R. -/
structure PlaysAt (w : World) (R C g M n : Nat) (wr : World) (s : Ck) (v : Value) : Prop where
  ck : ClockAt w.heap.size wr C g M s
  rb : wr.heap[R]? = some (.cells (ckC v s.hand) 29 (0, 0))
  pls : PlsAt wr.heap.size wr v s.ps
  len : s.ps.length = n
  below : Below w.heap.size w wr
  lo : w.heap.size ≤ R
theorem PlaysAt.next {w wr w' : World} {R C g M n : Nat} {s : Ck} {v : Value} (h : PlaysAt w R C g M n wr s v) (hb : Below wr.heap.size wr w') : PlaysAt w R C g M n w' s v :=
  ⟨h.ck.same hb, (hb.block R (blk_lt h.rb)).trans h.rb, h.pls.next hb, h.len, h.below.trans (hb.mono h.below.size), h.lo⟩
theorem ck_ne {n₀ : Nat} {wr : World} {R C g M : Nat} {s : Ck} {cs : Array Value} (hc : ClockAt n₀ wr C g M s) (h1 : wr.heap[R]? = some (.cells cs 29 (0, 0))) : R ≠ C ∧ R ≠ g ∧ R ≠ M := by
  refine ⟨fun e => ?_, fun e => ?_, fun e => ?_⟩
  · rw [e, hc.blk] at h1
    have : (52 : TypeId) = 29 := by injection (Option.some.inj h1)
    exact absurd this (by decide)
  · rw [e, hc.row] at h1
    have : (56 : TypeId) = 29 := by injection (Option.some.inj h1)
    exact absurd this (by decide)
  · obtain ⟨_, es, c, hmm, _⟩ := hc.map
    rw [e, hmm] at h1
    cases h1
theorem PlaysAt.ne {w wr : World} {R C g M n : Nat} {s : Ck} {v : Value} (h : PlaysAt w R C g M n wr s v) : R ≠ C ∧ R ≠ g ∧ R ≠ M := ck_ne h.ck h.rb
theorem ClockAt.beside {n₀ : Nat} {w w' : World} {C g M R : Nat} {s : Ck} (h : ClockAt n₀ w C g M s) (hm : Moves (fun k => k = R) w w') (h1 : R ≠ C ∧ R ≠ g ∧ R ≠ M) : ClockAt n₀ w' C g M s :=
  ⟨h.ok, (hm.block C h.lt.1 (fun e => h1.1 e.symm)).trans h.blk, (hm.block g h.lt.2.1 (fun e => h1.2.1 e.symm)).trans h.row, h.map.same (hm.block M h.lt.2.2 (fun e => h1.2.2 e.symm)), h.lo, h.things⟩
theorem moves_setRow (w : World) (z : Nat) (cs : Array Value) : Moves (fun k => k = z) w (w.setRow z cs) :=
  ⟨(below_setRow (Below.refl 0 w) (Nat.zero_le z) cs).os, (below_setRow (Below.refl 0 w) (Nat.zero_le z) cs).tape, (below_setRow (Below.refl 0 w) (Nat.zero_le z) cs).output, Nat.le_of_eq (size_setRow w z cs).symm, fun k _ hk => setRow_other w z k cs hk⟩
/-- The reference's answer is stored in the block R. -/
structure Stored (w : World) (R C g M n : Nat) (w2 : World) (s : Ck) (v' : Value) (ps' : List Pl) (hd : Int) : Prop where
  rb : w2.heap[R]? = some (.cells (ckC v' hd) 29 (0, 0))
  ck : ClockAt w.heap.size w2 C g M s
  pls : PlsAt w2.heap.size w2 v' ps'
  below : Below w.heap.size w w2
  lo : w.heap.size ≤ R
  len : s.ps.length = n
theorem PlaysAt.put {w wr wb : World} {R C g M n : Nat} {s : Ck} {a : Option Addr} {m c : Nat} {v' : Value} {ps' : List Pl} (h : PlaysAt w R C g M n wr s (.slice a m c)) (hb : Below wr.heap.size wr wb) (hp : PlsAt wb.heap.size wb v' ps') (hd : Int) : Stored w R C g M n (wb.setRow R (ckC v' hd)) s v' ps' hd := by
  have h2 := h.next hb
  refine ⟨setRow_heap _ _ _ _ _ _ h2.rb, h2.ck.beside (moves_setRow wb R _) h2.ne, ?_, below_setRow h2.below h.lo _, h.lo, h.len⟩
  rw [size_setRow]
  exact hp.setRow h2.rb _
/-- And then the clock's own call: both stand as before. -/
theorem Stored.step {w w2 w3 : World} {R C g M n : Nat} {s s' : Ck} {v' : Value} (h : Stored w R C g M n w2 s v' s'.ps s'.hand) (hc : ClockAt w.heap.size w3 C g M s') (hl : s'.ps.length = s.ps.length) (hm : Moves (fun k => k = C ∨ k = g ∨ k = M) w2 w3) : PlaysAt w R C g M n w3 s' v' := by
  have hne := ck_ne h.ck h.rb
  exact ⟨hc, (hm.block R (blk_lt h.rb) (by omega)).trans h.rb, h.pls.clocks h.ck hm, hl.trans h.len, h.below.trans (hm.below (B := w.heap.size) (fun i hi => by have := h.ck.lo; omega) h.below.size), h.lo⟩
end Go.Proofs.Ytadhkciggiefbaa

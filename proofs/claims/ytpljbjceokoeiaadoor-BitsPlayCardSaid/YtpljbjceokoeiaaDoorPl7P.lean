/-
  A set and the document's own one, side by side in memory.
  Conditions: none.
-/
import Derived.Test.YtpljbjceokoeiaaDoorPl7D
import Derived.Test.YtpljbjceokoeiaaDoorPl7E
import Derived.Test.YtpljbjceokoeiaaDoorPl7F
namespace Go.Proofs.YtpljbjceokoeiaaDoor
open Go.RowKit

theorem room7_nil (w : World) : Calls Tryd.prog 6 #[.pointer none] w fun e w' => e = .returned (.int .i64 0) ∧ w = w' := by
  go_enter Tryd.func6, Tryd.ntmps6
  go_wp2
  go_ret
  exact ⟨rfl, rfl⟩
theorem room7_any {n₀ : Nat} {w : World} {D g cap : Nat} {s : BSet} (h : BitsAt n₀ w D g cap s) : Calls Tryd.prog 6 #[.pointer (some ⟨D, 0, none⟩)] w fun e w' => e = .returned (.int .i64 s.n) ∧ w = w' := by
  obtain ⟨c0, _, _⟩ := h.cells
  clear h
  go_enter Tryd.func6, Tryd.ntmps6
  go_wp2
  go_ret
  exact ⟨rfl, rfl⟩
theorem BitsAt.rowT {n₀ : Nat} {w : World} {D g cap : Nat} {s : BSet} (h : BitsAt n₀ w D g cap s) : ∃ cs cur, w.heap[g]? = some (.cells cs 53 cur) := by
  rcases h.row.2 with ⟨h2, _⟩ | ⟨g', cap', cur, hv, _, hg, _⟩
  · cases h2
  · simp only [Value.slice.injEq, Option.some.injEq, Addr.mk.injEq] at hv
    obtain ⟨⟨rfl, _⟩, _⟩ := hv
    exact ⟨_, _, hg⟩
theorem BitsAt.lower {n₀ n₁ : Nat} {w : World} {D g cap : Nat} {s : BSet} (h : BitsAt n₁ w D g cap s) (hn : n₀ ≤ n₁) : BitsAt n₀ w D g cap s := by
  refine ⟨h.ok, h.blk, ?_, Nat.le_trans hn h.lo⟩
  obtain ⟨h1, h2⟩ := h.row
  refine ⟨h1, ?_⟩
  rcases h2 with h2 | ⟨g4, cap4, cur4, hv, hg4, hh, r⟩
  · exact .inl h2
  · exact .inr ⟨g4, cap4, cur4, hv, by omega, hh, r⟩
theorem BitsAt.beside {n₀ : Nat} {w w' : World} {D g cap : Nat} {s : BSet} {S : Nat → Prop} (h : BitsAt n₀ w D g cap s) (hm : Moves S w w') (hD : ¬ S D) (hg : ¬ S g) : BitsAt n₀ w' D g cap s :=
  ⟨h.ok, (hm.block D h.dlt hD).trans h.blk, hm.row h.row (fun k e => by
    have : g = k := by simpa [Value.ownBlock] using e
    exact this ▸ hg), h.lo⟩
/-- What a set's own operations turn is not the reference's row. -/
theorem BoolsAt.bits {n₀ : Nat} {w w' : World} {v : Value} {l : List Bool} {D g cap : Nat} {s : BSet} (h : BoolsAt w.heap.size w v l) (hD : BitsAt n₀ w D g cap s) (hm : Moves (fun k => k = D ∨ k = g) w w') : BoolsAt w'.heap.size w' v l :=
  h.keep hm.size fun b hb => hm.block b hb.1 (by
    obtain ⟨_, cs, cur, he⟩ := hb
    rintro (rfl | rfl)
    · rw [hD.blk] at he
      have : (51 : TypeId) = 4 := by injection (Option.some.inj he)
      exact absurd this (by decide)
    · obtain ⟨cs2, cur2, e⟩ := hD.rowT
      rw [e] at he
      have : (53 : TypeId) = 4 := by injection (Option.some.inj he)
      exact absurd this (by decide))
/-- Both: the set s, and the reference's, of s', in the block R. -/
structure PlayAt (w : World) (R n : Nat) (wr : World) (D g cap : Nat) (s s' : BSet) (v : Value) (l : List Bool) : Prop where
  set : BitsAt w.heap.size wr D g cap s
  rb : wr.heap[R]? = some (.cells (bsC v s'.hand) 29 (0, 0))
  row : BoolsAt wr.heap.size wr v l
  used : UsedIs s'.n s' l
  n1 : s.n = n
  n2 : s'.n = n
  below : Below w.heap.size w wr
  lo : w.heap.size ≤ R
theorem PlayAt.next {w wr w' : World} {R n D g cap : Nat} {s s' : BSet} {v : Value} {l : List Bool} (h : PlayAt w R n wr D g cap s s' v l) (hb : Below wr.heap.size wr w') : PlayAt w R n w' D g cap s s' v l :=
  ⟨h.set.same hb, (hb.block R (blk_lt h.rb)).trans h.rb, h.row.next hb, h.used, h.n1, h.n2, h.below.trans (hb.mono h.below.size), h.lo⟩
theorem PlayAt.len {w wr : World} {R n D g cap : Nat} {s s' : BSet} {v : Value} {l : List Bool} (h : PlayAt w R n wr D g cap s s' v l) : l.length = n := by rw [h.used.len, h.n2]
theorem PlayAt.ne {w wr : World} {R n D g cap : Nat} {s s' : BSet} {v : Value} {l : List Bool} (h : PlayAt w R n wr D g cap s s' v l) : R ≠ D ∧ R ≠ g := by
  refine ⟨fun e => ?_, fun e => ?_⟩
  · have h1 := h.rb
    rw [e, h.set.blk] at h1
    have : (51 : TypeId) = 29 := by injection (Option.some.inj h1)
    exact absurd this (by decide)
  · have h1 := h.rb
    obtain ⟨cs2, cur2, e2⟩ := h.set.rowT
    rw [e, e2] at h1
    have : (53 : TypeId) = 29 := by injection (Option.some.inj h1)
    exact absurd this (by decide)
theorem moves_setRow (w : World) (z : Nat) (cs : Array Value) : Moves (fun k => k = z) w (w.setRow z cs) :=
  ⟨(below_setRow (Below.refl 0 w) (Nat.zero_le z) cs).os, (below_setRow (Below.refl 0 w) (Nat.zero_le z) cs).tape, (below_setRow (Below.refl 0 w) (Nat.zero_le z) cs).output, Nat.le_of_eq (by simp), fun k _ hk => setRow_other w z k cs hk⟩
/-- The reference's answer is stored in the block R. -/
theorem PlayAt.put {w wr wb : World} {R n D g cap : Nat} {s s' s2 : BSet} {v v' : Value} {l l' : List Bool} (h : PlayAt w R n wr D g cap s s' v l) (hb : Below wr.heap.size wr wb) (hp : BoolsAt wb.heap.size wb v' l') (hu : UsedIs s2.n s2 l') (hn : s2.n = n) :
    PlayAt w R n (wb.setRow R (bsC v' s2.hand)) D g cap s s2 v' l' := by
  have h2 := h.next hb
  refine ⟨h2.set.beside (moves_setRow wb R _) h2.ne.1.symm h2.ne.2.symm, setRow_heap _ _ _ _ _ _ h2.rb, ?_, hu, h2.n1, hn, below_setRow h2.below h.lo _, h.lo⟩
  exact (hp.setRow h2.rb _).mono (by simp)
/-- And then the set's own call: both stand as before. -/
theorem PlayAt.step {w w2 w3 : World} {R n D g cap : Nat} {s s' : BSet} {v : Value} {l : List Bool} (h : PlayAt w R n w2 D g cap s s' v l) (hc : BitsAt w.heap.size w3 D g cap s') (hm : Moves (fun k => k = D ∨ k = g) w2 w3) : PlayAt w R n w3 D g cap s' s' v l := by
  have hne := h.ne
  exact ⟨hc, (hm.block R (blk_lt h.rb) (by omega)).trans h.rb, h.row.bits h.set hm, h.used, h.n2, h.n2, h.below.trans (hm.below (B := w.heap.size) (fun i hi => by have := h.set.lo; have := h.set.glo; omega) h.below.size), h.lo⟩
/-- A copy takes its place. -/
theorem PlayAt.copied {w wr w2 w3 : World} {R n D g cap D2 g2 cc : Nat} {s : BSet} {v : Value} {l : List Bool} (h : PlayAt w R n wr D g cap s s v l) (hb : Below wr.heap.size wr w2) (hc : BitsAt wr.heap.size w2 D2 g2 cc s) (hm : Moves (fun k => k = D ∨ k = g) w2 w3) : PlayAt w R n w3 D2 g2 cc s s v l := by
  have h2 := h.next hb
  have hne := h2.ne
  have d1 := h.set.dlt
  have d2 := h.set.glo
  have d3 := hc.lo
  have d4 := hc.glo
  exact ⟨(hc.lower h.below.size).beside hm (by omega) (by omega), (hm.block R (blk_lt h2.rb) (by omega)).trans h2.rb, h2.row.bits h2.set hm, h2.used, h2.n1, h2.n2, h2.below.trans (hm.below (B := w.heap.size) (fun i hi => by have := h2.set.lo; have := h2.set.glo; omega) h2.below.size), h.lo⟩
end Go.Proofs.YtpljbjceokoeiaaDoor

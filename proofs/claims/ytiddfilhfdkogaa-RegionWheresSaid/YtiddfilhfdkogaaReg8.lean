/-
  region: a log beside other memory that is laid, turned; an append to its row.
  Conditions: none.
-/
import Derived.Test.YtiddfilhfdkogaaReg7
import Derived.Test.YtiddfilhfdkogaaReg6
namespace Go.Proofs.Ytiddfilhfdkogaa
open Go.RowKit Go.Shelf

section
variable {w W W' : World} {E E' Q Q' : Foot} {R D : Nat} {x : LogS} {d : Dev}
theorem moves_put (W : World) (l : Nat) (o : Obj) : Moves (fun k => k = l) W (W.putObj l o) :=
  Moves.of_grown (grownBy_putObj' W l o) (fun k e => by cases e; rfl)
/-- What is beside the device turns, and new blocks come. -/
theorem DevApart.grown {S : Nat → Prop} (h : DevApart w Q D d W) (hm : Moves S W W') (hS : ∀ k, S k → Q k ∧ w.heap.size ≤ k) (hQ : ∀ k, Q' k → Q k ∨ W.heap.size ≤ k) (hi : Foot.In Q' W') : DevApart w Q' D d W' := by
  obtain ⟨O, h1, h2, h3, h4⟩ := h
  exact ⟨O, h1.keep ⟨hm.size, fun k hk => hm.block k (h1.inn k hk) (fun hs => h3 k hk (hS k hs).1)⟩, h2.trans (hm.below (fun i hi => (hS i hi).2) h2.size), fun k ho hq => by
    rcases hQ k hq with h | h
    · exact h3 k ho h
    · have := h1.inn k ho; omega, hi⟩
theorem LogApart.grab (h : LogApart w E R D x d W) (o : Obj) : LogApart w (fun k => E k ∨ k = W.heap.size) R D x d (W.alloc o) := by
  have hb : Below W.heap.size W (W.alloc o) := (Below.refl _ W).alloc (Nat.le_refl _) o
  have hsz := h.size
  have hin := h.inE
  obtain ⟨rv, h1, h2, h3, h4, h5⟩ := h
  refine ⟨rv, h1.below hb, h2.more hb ?_ ?_, ?_, ?_, ?_⟩
  · rintro k ((hk | hk) | hk | hk)
    · exact .inl (.inl hk)
    · exact .inr (by omega)
    · exact .inl (.inr (.inl hk))
    · exact .inl (.inr (.inr hk))
  · rintro k ((hk | hk) | hk | hk)
    · have := hin k hk; simp; omega
    · simp; omega
    · have := h1.lt; simp; omega
    · have := (h1.row_lt hk).2; simp; omega
  · rintro (hk | hk)
    · exact h3 hk
    · have := h1.lt; omega
  · rintro k e (hk | hk)
    · exact h4 k e hk
    · have := (h1.row_lt e).2; omega
  · rintro k (hk | hk)
    · exact h5 k hk
    · omega
theorem LogApart.less (h : LogApart w E R D x d W) (hE : ∀ k, E' k → E k) : LogApart w E' R D x d W := by
  obtain ⟨rv, h1, h2, h3, h4, h5⟩ := h
  exact ⟨rv, h1, h2.less (fun k hk => by
    rcases hk with hk | hk
    · exact .inl (hE k hk)
    · exact .inr hk), fun hk => h3 (hE R hk), fun k e hk => h4 k e (hE k hk), fun k hk => h5 k (hE k hk)⟩
theorem LogApart.turn {S : Nat → Prop} (h : LogApart w E R D x d W) (hm : Moves S W W') (hS : ∀ k, S k → E k) : LogApart w E R D x d W' := by
  obtain ⟨rv, h1, h2, h3, h4, h5⟩ := h
  exact ⟨rv, h1.same (hm.block _ h1.lt (fun hs => h3 (hS R hs))) (fun k e => hm.block k (h1.row_lt e).2 (fun hs => h4 k e (hS k hs))), h2.turn hm (fun k hk => ⟨.inl (hS k hk), h5 k (hS k hk)⟩), h3, h4, h5⟩
/-- What was laid since is beside it. -/
theorem LogApart.adds (h : LogApart w E R D x d W) (hb : Below W.heap.size W W') (hE : ∀ k, E' k → E k ∨ (W.heap.size ≤ k ∧ k < W'.heap.size)) : LogApart w E' R D x d W' := by
  have hsz := h.size
  have hin := h.inE
  have hs := hb.size
  obtain ⟨rv, h1, h2, h3, h4, h5⟩ := h
  refine ⟨rv, h1.below hb, h2.more hb ?_ ?_, ?_, ?_, ?_⟩
  · rintro k (hk | hk | hk)
    · rcases hE k hk with h | h
      · exact .inl (.inl h)
      · exact .inr h.1
    · exact .inl (.inr (.inl hk))
    · exact .inl (.inr (.inr hk))
  · rintro k (hk | hk | hk)
    · rcases hE k hk with h | h
      · have := hin k h; omega
      · exact h.2
    · have := h1.lt; omega
    · have := (h1.row_lt hk).2; omega
  · intro hk
    rcases hE R hk with h | h
    · exact h3 h
    · have := h1.lt; omega
  · intro k e hk
    rcases hE k hk with h | h
    · exact h4 k e h
    · have := (h1.row_lt e).2; omega
  · intro k hk
    rcases hE k hk with h | h
    · exact h5 k h
    · omega
/-- An append to the row, stored. -/
theorem took_step {W1 : World} {rv rv' : Value} {b : List (BitVec 8)} (h1 : LogBlk W w.heap.size R D x rv) (h2 : DevApart w (LogFoot E R rv) D d W) (h3 : ¬ E R) (h4 : ∀ k, rv.ownBlock = some k → ¬ E k) (h5 : ∀ k, E k → w.heap.size ≤ k)
    {n : Nat} {cs : List Value} (hn : n = (x.took b).row.length) (hcs : cs = cellsOf (x.took b).row) (hok : (x.took b).Ok) (hown : W1.ownsRow w.heap.size 5 1 rv' n cs) (hgrow : W.grownBy W1 rv.ownBlock) (hat : rv'.ownBlock = rv.ownBlock ∨ rv'.ownBlock = some W.heap.size) :
    LogApart w E R D (x.took b) d (W1.setCell ⟨R, 7, none⟩ rv') ∧ Same E W (W1.setCell ⟨R, 7, none⟩ rv') ∧ W1.heap[R]? = W.heap[R]? := by
  subst hn hcs
  have hsz := h2.here.below.size
  have hinQ : Foot.In (LogFoot E R rv) W := by obtain ⟨O, _, _, _, h⟩ := h2; exact h
  have m1 : Moves (fun k => rv.ownBlock = some k) W W1 := Moves.of_grown hgrow (fun k e => e)
  have m2 : Moves (fun k => rv.ownBlock = some k ∨ k = R) W (W1.setCell ⟨R, 7, none⟩ rv') := (m1.mono (fun _ _ h => .inl h)).setCell (p := ⟨R, 7, none⟩) (fun _ => .inr rfl) rv'
  have hR1 : W1.heap[R]? = W.heap[R]? := m1.block R h1.lt (fun e => h1.ne e rfl)
  have hne' : ∀ k, rv'.ownBlock = some k → k ≠ R := by
    intro k e
    rcases hat with h | h
    · rw [h] at e; exact h1.ne e
    · rw [h] at e; cases e; have := h1.lt; omega
  have hE' : ∀ k, rv'.ownBlock = some k → ¬ E k := by
    intro k e hk
    rcases hat with h | h
    · rw [h] at e; exact h4 k e hk
    · rw [h] at e; cases e
      have := hinQ _ (.inl hk)
      omega
  have hrow : (W1.setCell ⟨R, 7, none⟩ rv').ownsRow w.heap.size 5 1 rv' (x.took b).row.length (cellsOf (x.took b).row) := ownsRow_same hown (fun k e => Below.heap_setCell _ _ _ _ (hne' k e))
  have hblk : (W1.setCell ⟨R, 7, none⟩ rv').heap[R]? = some (.cells ((x.took b).cells D rv') 71 (0, 0)) := by
    have := blk_set (hR1.trans h1.blk) 7 rv'
    rw [this]
    simp [LogS.cells, LogS.took]
  refine ⟨⟨rv', ⟨hok, hblk, hrow, h1.lo⟩, h2.grown m2 ?_ ?_ ?_, h3, hE', h5⟩, ⟨m2.size, fun k hk => m2.block k (hinQ k (.inl hk)) ?_⟩, hR1⟩
  · rintro k (e | rfl)
    · exact ⟨.inr (.inr e), (h1.row_lt e).1⟩
    · exact ⟨.inr (.inl rfl), h1.lo⟩
  · rintro k (hk | hk | hk)
    · exact .inl (.inl hk)
    · exact .inl (.inr (.inl hk))
    · rcases hat with h | h
      · rw [h] at hk; exact .inl (.inr (.inr hk))
      · rw [h] at hk; cases hk; exact .inr (Nat.le_refl _)
  · rintro k (hk | hk | hk)
    · exact Nat.lt_of_lt_of_le (hinQ k (.inl hk)) m2.size
    · subst hk; exact Nat.lt_of_lt_of_le h1.lt m2.size
    · exact (hrow.lt k hk).2
  · rintro (e | rfl)
    · exact h4 k e hk
    · exact h3 hk
end
end Go.Proofs.Ytiddfilhfdkogaa

/-
  'copy' of bytes.
  Conditions: none.
-/
import Derived.Test.YtiddfilhfdkogaaJF2
namespace Go.Proofs.Ytiddfilhfdkogaa
open Go.RowKit

/-- 'copy' of bytes to the head of a row. -/
theorem wpList_copy_bytes {w : World} {ops : Array Oper} {rest : List Oper} {o : Oper} {a : Act} {Q : Exit → Act → World → Prop} (hgd : o.guard = none) (d s : Operand) (ho : o.op = .call { callee := .builtin .copy, args := #[d, s], argTypes := #[36, 36] })
    {base g n cap : Nat} {xs bs : List (BitVec 8)} (hd : a.eval d = .slice (some ⟨g, 0, none⟩) n cap) (hown : w.ownsRow base 5 1 (.slice (some ⟨g, 0, none⟩) n cap) n (cellsOf xs)) {u : Value} (hs : a.eval s = u) {n₀ : Nat} (hu : BytesAt n₀ w u bs) (hl : bs.length ≤ n)
    (h : ∀ w', w'.ownsRow base 5 1 (.slice (some ⟨g, 0, none⟩) n cap) n (cellsOf (bs ++ xs.drop bs.length)) → Moves (fun k => k = g) w w' → wpList Try.prog ops Q rest (a.put o.dst (goInt bs.length)) w') : wpList Try.prog ops Q (o :: rest) a w := by
  have hu0 := hu
  obtain ⟨au, cu, rfl, _, _, hu⟩ := hu
  obtain ⟨cur, hg, hgb, hnc, hcs⟩ := own_block hown
  rcases hu with rfl | ⟨g', off', rfl, hg', hc⟩
  · refine wpList_copy_nothing hgd d s 36 36 ho 5 Try.underlying36 sizeU8 _ _ _ _ _ _ hd hs (by simp) ?_
    exact h w (by simpa using hown) (Moves.refl _ _)
  · have hcl : (cellsOf bs).length = bs.length := cellsOf_len bs
    have key := h (w.setRow g (cur.toList.take 0 ++ (cellsOf bs ++ cur.toList.drop (0 + (cellsOf bs).length))).toArray)
      (own_splice hown hg (by
        have := setRow_heap w g cur (cur.toList.take 0 ++ (cellsOf bs ++ cur.toList.drop (0 + (cellsOf bs).length))).toArray 5 _ hg
        exact this) hl)
      ⟨rfl, rfl, rfl, by simp [World.setRow], fun k _ hk => setRow_other w g k _ hk⟩
    rw [← hcl] at key
    exact wpList_copy_own hgd d s 36 36 ho 5 Try.underlying36 sizeU8 g 0 n cap ⟨g', off', none⟩ bs.length cu hd hs cur 5 hg (cellsOf bs) (by rw [hcl]; exact (Nat.min_eq_left hl).symm) hu0.news.2 (by rw [hcl]; omega) (cellsOf_one bs) key
end Go.Proofs.Ytiddfilhfdkogaa

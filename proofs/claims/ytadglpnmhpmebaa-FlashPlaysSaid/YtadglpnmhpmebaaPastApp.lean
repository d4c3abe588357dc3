/-
  append of one slice to a row of slices, within a round.
  Conditions: none.
-/
import Derived.Test.YtadglpnmhpmebaaPastMake
import Derived.Test.YtadglpnmhpmebaaQuietT
import Derived.Maps.AppendAt
namespace Go.Proofs.Ytadglpnmhpmebaa
open Go.RowKit

theorem append_row_in {l n : Nat} {w : World} {ops : Array Oper} {o : Oper} {a : Act} {K : Act → World → Prop} {Q : Exit → Act → World → Prop} {E : Prop} (hgd : o.guard = none) (s x : Operand)
    (ho : o.op = .call { callee := .builtin .append, args := #[s, x], argTypes := #[56, 56] })
    (base : Nat) (v : Value) (m : Nat) (us : List Value) (hs : a.eval s = v) (hown : w.ownsRow base 42 1 v m us) (g : Nat) (u : Value) (hx : a.eval x = .slice (some ⟨g, 0, none⟩) 1 1) (hc : w.cell? ⟨g, 0, none⟩ = some u) (h1 : u.oneCell' = true)
    (hm : m ≤ 70000) (hb : base ≤ w.heap.size)
    (h : ∀ v' w', w'.ownsRow base 42 1 v' (m + 1) (us ++ [u]) → w.grownBy w' v.ownBlock → (v'.ownBlock = v.ownBlock ∨ v'.ownBlock = some w.heap.size) → K (a.put o.dst v') w') :
    if Region.wanted o (yielded ops a.tmps) = true then Oper.wpIn (Fence.wide.inRound l) n Try.prog o a w K Q else E := by
  have hw : Region.wanted o (yielded ops a.tmps) = true := by simp [Region.wanted, hgd]
  rw [if_pos hw]
  refine wpIn_of_wp (fun c e => by rw [ho] at e; cases e) ?_
  obtain ⟨iR, hR, hR0, hR1, hR2⟩ := info_parts Try.infoRow
  obtain ⟨v', w', hr, h2, h3, h4, h5⟩ := run_append_own_at (P := Try.prog) w base 56 o.type 42 iR (.slice none 0 0) 1 24 Try.underlying56 hR hR0 hR1 hR2 rfl (by decide) v m us hown ⟨g, 0, none⟩ 1 1 [u] rfl
    (fun j y hj => by
      match j, hj with
      | 0, hj =>
        obtain rfl : u = y := by simpa using hj
        exact hc
      | j + 1, hj => simp at hj) (fun y hy => by obtain rfl : y = u := by simpa using hy
                                                 exact h1) (by unfold maxLen; omega) (by omega) hb
  unfold Oper.wp execOp
  simp only [ho, resolve, invoke, builtin, Sem.run_bind, Sem.run_pure, Result.andThen_ok, List.map_toArray, List.map_cons, List.map_nil, hs, hx, hr]
  exact h v' w' h2 h3 h5
end Go.Proofs.Ytadglpnmhpmebaa

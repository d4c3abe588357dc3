/-
  flash: a larger footprint; Sync.
  Conditions: none.
-/
import Derived.Test.YtopjadmjahpeoaaFlash6
namespace Go.Proofs.Ytopjadmjahpeoaa
open Go.RowKit

theorem DevParts.widen {n₀ : Nat} {O Q : Foot} {w : World} {D F P L : Nat} {lv : Value} {fm pm lm : List (Int × Value)} {d : Dev} (h : DevParts n₀ O w D F P L lv fm pm lm d) (hO : ∀ k, O k → Q k) (hin : Foot.In Q w) (hlo : ∀ k, Q k → n₀ ≤ k) : DevParts n₀ Q w D F P L lv fm pm lm d :=
  { h with
    oD := hO _ h.oD, oF := hO _ h.oF, oP := hO _ h.oP, oL := hO _ h.oL
    inn := hin
    lo := hlo
    fast := fun k hk => (h.fast k hk).imp id fun ⟨v, h1, h2⟩ => ⟨v, h1, h2.mono hO⟩
    past := fun k hk => (h.past k hk).imp id fun ⟨v, h1, h2⟩ => ⟨v, h1, h2.wide hO⟩
    loose := h.loose.wide hO }
theorem DevAt.widen {n₀ : Nat} {O Q : Foot} {w : World} {D : Nat} {d : Dev} (h : DevAt n₀ O w D d) (hO : ∀ k, O k → Q k) (hin : Foot.In Q w) (hlo : ∀ k, Q k → n₀ ≤ k) : DevAt n₀ Q w D d := by
  obtain ⟨F, P, L, lv, fm, pm, lm, h⟩ := h
  exact ⟨F, P, L, lv, fm, pm, lm, h.widen hO hin hlo⟩

/-- Behind the first k loose writes made fast. -/
def Dev.settle (d : Dev) : List (Nat × List (BitVec 8)) → Dev
  | [] => d
  | x :: l => (d.put x.1 x.2).settle l
theorem settle_snoc (d : Dev) (l : List (Nat × List (BitVec 8))) (x : Nat × List (BitVec 8)) : d.settle (l ++ [x]) = (d.settle l).put x.1 x.2 := by
  induction l generalizing d with
  | nil => rfl
  | cons y l ih => exact ih _
theorem settle_same (d : Dev) (l : List (Nat × List (BitVec 8))) : (d.settle l).loose = d.loose ∧ (d.settle l).sectors = d.sectors ∧ (d.settle l).size = d.size ∧ (d.settle l).past = d.past ∧ (d.settle l).armed = d.armed ∧ (d.settle l).acts = d.acts ∧ (d.settle l).down = d.down := by
  induction l generalizing d with
  | nil => exact ⟨rfl, rfl, rfl, rfl, rfl, rfl, rfl⟩
  | cons y l ih => exact ih _

theorem slice_cells {w : World} {n₀ : Nat} {e : TypeId} {size n : Nat} {v : Value} {cs : List Value} (h : w.ownsRow n₀ e size v n cs) (hn : 0 < n) : ∃ g cap, v = .slice (some ⟨g, 0, none⟩) n cap ∧ n ≤ maxLen := by
  rcases h.2 with ⟨_, h2⟩ | ⟨g, cap, _, h1, _, _, h2, h3, _⟩
  · omega
  · exact ⟨g, cap, h1, by omega⟩

/-- What a sync does. -/
def Dev.sync (d : Dev) : Dev := if d.down then d else if d.armed = 1 then d.act else ((d.act).settle d.loose).forget
def syncErr (d : Dev) : Int := if d.down then 4 else if d.armed = 1 then 4 else 0

end Go.Proofs.Ytopjadmjahpeoaa

/-
  Plain mathematics: the number that is taken next, as the document looks for it.
  Conditions: none.
-/
import Derived.Test.YtpljbjceokoeiaaDoorBitsAllM
namespace Go.Proofs.YtpljbjceokoeiaaDoor
open Go.RowKit

/-- The first that is free from the hand on, and round, is the next. -/
theorem next_at {s : BSet} (h : s.Ok) {k : Nat} (hk : k < s.n) (hall : ∀ j, j < k → s.has ((s.hand + j) % s.n) = true) (hno : s.has ((s.hand + k) % s.n) = false) : s.next = (s.hand + k) % s.n := by
  have hh := h.hand
  by_cases hlt : s.hand + k < s.n
  · rw [Nat.mod_eq_of_lt hlt] at hno ⊢
    have e : s.free s.hand = s.hand + k := free_spec s s.hand (by omega) ⟨by omega, by omega⟩ (fun j h1 h2 => by
      have := hall (j - s.hand) (by omega)
      rwa [show s.hand + (j - s.hand) = j by omega, Nat.mod_eq_of_lt (by omega)] at this) (fun _ => hno)
    unfold BSet.next
    rw [e, if_neg (by omega)]
  · have em : (s.hand + k) % s.n = s.hand + k - s.n := by rw [Nat.mod_eq_sub_mod (by omega), Nat.mod_eq_of_lt (by omega)]
    rw [em] at hno ⊢
    have e : s.free s.hand = s.n := free_spec s s.hand (by omega) ⟨by omega, Nat.le_refl _⟩ (fun j h1 h2 => by
      have := hall (j - s.hand) (by omega)
      rwa [show s.hand + (j - s.hand) = j by omega, Nat.mod_eq_of_lt (by omega)] at this) (fun h => absurd h (Nat.lt_irrefl _))
    have e0 : s.free 0 = s.hand + k - s.n := free_spec s 0 (Nat.zero_le _) ⟨Nat.zero_le _, by omega⟩ (fun j _ h2 => by
      have := hall (j + s.n - s.hand) (by omega)
      rwa [show s.hand + (j + s.n - s.hand) = j + s.n by omega, Nat.add_mod_right, Nat.mod_eq_of_lt (by omega)] at this) (fun _ => hno)
    unfold BSet.next
    rw [if_pos e, e0]
/-- None is free. -/
theorem next_none {s : BSet} (h : s.Ok) (hall : ∀ j, j < s.n → s.has ((s.hand + j) % s.n) = true) : s.next = s.n := by
  have hh := h.hand
  have hf : ∀ j, j < s.n → s.has j = true := fun j hj => by
    by_cases hl : s.hand ≤ j
    · have := hall (j - s.hand) (by omega)
      rwa [show s.hand + (j - s.hand) = j by omega, Nat.mod_eq_of_lt (by omega)] at this
    · have := hall (j + s.n - s.hand) (by omega)
      rwa [show s.hand + (j + s.n - s.hand) = j + s.n by omega, Nat.add_mod_right, Nat.mod_eq_of_lt (by omega)] at this
  have e : s.free s.hand = s.n := free_spec s s.hand (by omega) ⟨by omega, Nat.le_refl _⟩ (fun j _ h2 => hf j h2) (fun h => absurd h (Nat.lt_irrefl _))
  have e0 : s.free 0 = s.n := free_spec s 0 (Nat.zero_le _) ⟨Nat.zero_le _, Nat.le_refl _⟩ (fun j _ h2 => hf j h2) (fun h => absurd h (Nat.lt_irrefl _))
  unfold BSet.next
  rw [if_pos e, e0]
/-- What Take of the document's tells. -/
def takeI (s : BSet) : Int := if s.next < s.n then (s.next : Int) else -1
theorem UsedIs.takes {s : BSet} {L : List Bool} (h : UsedIs s.n s L) (hlt : s.next < s.n) : UsedIs s.take.n s.take (L.set s.next true) := by
  have e : s.take = { s.mark s.next with hand := (s.next + 1) % s.n } := by unfold BSet.take; rw [if_pos hlt]
  rw [e]
  exact h.mark hlt _ (Nat.mod_lt _ h.ok.n1)
theorem take_n (s : BSet) : s.take.n = s.n := by
  unfold BSet.take
  split <;> rfl
theorem mark_n (s : BSet) (i : Int) : (s.markI i).n = s.n := by
  unfold BSet.markI
  split <;> rfl
theorem clear_n (s : BSet) (i : Int) : (s.clearI i).n = s.n := by
  unfold BSet.clearI
  split <;> rfl
end Go.Proofs.YtpljbjceokoeiaaDoor

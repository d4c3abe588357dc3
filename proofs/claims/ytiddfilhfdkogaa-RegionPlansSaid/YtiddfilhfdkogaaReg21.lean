/-
  Plain mathematics: what is appended stands in its region.
  Conditions: none.
-/
import Derived.Test.YtiddfilhfdkogaaReg20
namespace Go.Proofs.Ytiddfilhfdkogaa
open Go.RowKit

/-- The bytes of the region under way. -/
def LogS.flat (x : LogS) (B : Nat → Nat → List (BitVec 8)) : List (BitVec 8) := (List.range x.sector).flatMap (fun s => B x.last s) ++ x.row
theorem fillTo_full {n : Nat} {bs : List (BitVec 8)} (h : bs.length = n) : fillTo n bs = bs := by
  unfold fillTo
  rw [h, Nat.sub_self]
  simp [zeros]
theorem flat_upd {α : Type} (f : Nat → List α) (v : List α) (k : Nat) : (List.range (k + 1)).flatMap (fun s => if s = k then v else f s) = (List.range k).flatMap f ++ v := by
  rw [List.range_succ, List.flatMap_append]
  simp only [List.flatMap_singleton, if_true]
  congr 1
  rw [List.flatMap_def, List.flatMap_def]
  congr 1
  apply List.map_congr_left
  intro s hs
  have := List.mem_range.1 hs
  rw [if_neg (by omega)]
theorem to_kept {x0 : LogS} {d0 : Dev} {b0 : List (BitVec 8)} {k fin : Nat} {B0 : Nat → Nat → List (BitVec 8)} {T0 : Nat → Nat} (h0 : AppInv x0 k fin x0 d0 b0) (hk : Kept x0 d0 B0 T0) {x : LogS} {d : Dev} {b : List (BitVec 8)} (ht : AppTo x0 d0 b0 x d b) :
    ∃ B T, Kept x d B T ∧ x.flat B ++ b = x0.flat B0 ++ b0 ∧ x.last = x0.last ∧ (∀ q : Nat, q ≠ x0.last → B q = B0 q ∧ T q = T0 q) := by
  induction ht with
  | start => exact ⟨B0, T0, hk, rfl, rfl, fun q _ => ⟨rfl, rfl⟩⟩
  | @part x d b ht hb hl ih =>
    obtain ⟨B, T, h1, h2, h3, h4⟩ := ih
    refine ⟨B, T, h1.took b, ?_, h3, h4⟩
    rw [← h2]
    unfold LogS.flat LogS.took
    simp only [List.append_assoc, List.take_append_drop]
  | @full x d b ht hb hl ih =>
    obtain ⟨B, T, h1, h2, h3, h4⟩ := ih
    have hi := h0.of_to ht
    have hs := hi.sec_lt hb
    have hw := (h1.took b).wrote (hi.took_ok hb) hs (hi.on.with_ ⟨rfl, rfl, rfl, rfl⟩) hi.sz hi.up
    refine ⟨_, _, hw, ?_, h3, fun q hq => ?_⟩
    · rw [← h2]
      have hf : fillTo (x.took b).room (x.took b).row = x.row ++ b.take (x.room - x.row.length) := fillTo_full hl
      unfold LogS.flat
      show (List.range (x.sector + 1)).flatMap (fun s => if x.last = x.last ∧ s = x.sector then fillTo (x.took b).room (x.took b).row else B x.last s) ++ [] ++ b.drop (x.room - x.row.length) = _
      have he : (fun s => if x.last = x.last ∧ s = x.sector then fillTo (x.took b).room (x.took b).row else B x.last s) = fun s => if s = x.sector then x.row ++ b.take (x.room - x.row.length) else B x.last s := by
        funext s
        rw [hf]
        simp
      rw [he, flat_upd]
      simp only [List.append_nil, List.append_assoc, List.take_append_drop]
    · have hq' : ¬ q = x.last := by rw [h3]; exact hq
      obtain ⟨e1, e2⟩ := h4 q hq
      refine ⟨?_, ?_⟩
      · funext s
        show (if q = x.last ∧ s = x.sector then _ else B q s) = B0 q s
        rw [if_neg (fun e => hq' e.1), e1]
      · show (if q = x.last then _ else T q) = T0 q
        rw [if_neg hq', e2]
end Go.Proofs.Ytiddfilhfdkogaa

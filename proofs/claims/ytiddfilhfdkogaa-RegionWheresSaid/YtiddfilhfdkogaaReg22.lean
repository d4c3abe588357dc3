/-
  Plain mathematics: what a new log keeps; a region is begun where the bytes don't fit.
  Conditions: none.
-/
import Derived.Test.YtiddfilhfdkogaaReg21
import Derived.Test.YtiddfilhfdkogaaReg11
namespace Go.Proofs.Ytiddfilhfdkogaa
open Go.RowKit

theorem kept_log0 (p : PlanP) (d : Dev) : Kept p.log0 d (fun _ _ => []) (fun q => if q = 0 then p.log0.sectors else 0) := by
  refine ⟨fun q => ?_, rfl, fun (q s : Nat) h1 h2 h3 => ?_⟩
  · show (if q = 0 then p.log0.sectors else 0) ≤ p.log0.sectors
    split
    · exact Nat.le_refl _
    · exact Nat.zero_le _
  · have h2 : q ≤ 0 := h2
    have h1 : (1 : Int) ≤ (q : Int) := Int.le_trans (by unfold LogS.oldest; exact Int.le_max_right _ _) h1
    omega
theorem flushed_parts (x : LogS) : x.flushed.last = x.last ∧ x.flushed.row = [] := by
  unfold LogS.flushed
  split
  · next h => exact ⟨rfl, h⟩
  · exact ⟨rfl, rfl⟩
/-- What is flushed stands. -/
theorem Kept.flushed {x : LogS} {d : Dev} {B : Nat → Nat → List (BitVec 8)} {T : Nat → Nat} (h : Kept x d B T) (hok : x.Ok) (hon : x.On d) (hz : 96 ≤ d.size) (hup : d.Up) :
    ∃ B' T', Kept x.flushed (d.flushed x) B' T' ∧ (∀ q : Nat, q ≠ x.last → B' q = B q ∧ T' q = T q) ∧ (∀ s, s < x.sector → B' x.last s = B x.last s) ∧ (x.row ≠ [] → B' x.last x.sector = fillTo x.room x.row) := by
  unfold LogS.flushed Dev.flushed
  by_cases hr : x.row = []
  · rw [if_pos hr, if_pos hr]
    exact ⟨B, T, h, fun q _ => ⟨rfl, rfl⟩, fun s _ => rfl, fun e => absurd hr e⟩
  · rw [if_neg hr, if_neg hr]
    refine ⟨_, _, h.wrote hok (hok.room_left hr) hon hz hup, fun q hq => ⟨?_, ?_⟩, fun s hs => ?_, fun _ => ?_⟩
    · funext s
      show (if q = x.last ∧ s = x.sector then _ else B q s) = B q s
      rw [if_neg (fun e => hq e.1)]
    · show (if q = x.last then _ else T q) = T q
      rw [if_neg hq]
    · show (if x.last = x.last ∧ s = x.sector then _ else B x.last s) = B x.last s
      rw [if_neg (by rintro ⟨_, rfl⟩; omega)]
    · show (if x.last = x.last ∧ x.sector = x.sector then _ else B x.last x.sector) = _
      rw [if_pos ⟨rfl, rfl⟩]
/-- Behind a region that is begun. -/
theorem Kept.begun {x : LogS} {d : Dev} {B : Nat → Nat → List (BitVec 8)} {T : Nat → Nat} (h : Kept x d B T) (hok : x.Ok) (hon : x.On d) (hz : 96 ≤ d.size) (hup : d.Up) :
    ∃ B' T', Kept x.begun (d.flushed x) B' T' ∧ x.begun.flat B' = [] ∧ (∀ q : Nat, q ≠ x.last → B' q = B q ∧ (q ≠ x.last + 1 → T' q = T q)) ∧ (∀ s, s < x.sector → B' x.last s = B x.last s) ∧ (x.row ≠ [] → B' x.last x.sector = fillTo x.room x.row) := by
  obtain ⟨B', T', h1, h2, h3, h4⟩ := h.flushed hok hon hz hup
  obtain ⟨e1, e2, e3, e4⟩ := flushed_same x
  obtain ⟨e5, e6⟩ := flushed_parts x
  have hn := h1.next x.begun ⟨by rw [e5]; rfl, rfl, rfl, rfl, rfl, rfl⟩
  refine ⟨B', _, hn, ?_, fun q hq => ⟨(h2 q hq).1, fun hq2 => ?_⟩, h3, h4⟩
  · unfold LogS.flat
    have hs : x.begun.sector = 0 := rfl
    have hrow : x.begun.row = x.flushed.row := rfl
    rw [hs, hrow, e6]
    rfl
  · show (if q = x.flushed.last + 1 then 0 else T' q) = T q
    rw [e5, if_neg hq2, (h2 q hq).2]
end Go.Proofs.Ytiddfilhfdkogaa

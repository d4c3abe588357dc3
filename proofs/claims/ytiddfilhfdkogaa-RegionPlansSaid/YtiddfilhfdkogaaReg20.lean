/-
  Plain mathematics: what a log keeps behind writes and new regions.
  Conditions: none.
-/
import Derived.Test.YtiddfilhfdkogaaReg19
import Derived.Test.YtiddfilhfdkogaaRegA
namespace Go.Proofs.Ytiddfilhfdkogaa
open Go.RowKit

/-- Of each region that is there so many sectors are written, and what stands in them. -/
structure Kept (x : LogS) (d : Dev) (B : Nat → Nat → List (BitVec 8)) (T : Nat → Nat) : Prop where
  cap : ∀ q, T q ≤ x.sectors
  now : T x.last = x.sector
  stands : ∀ q s : Nat, x.oldest ≤ (q : Int) → q ≤ x.last → s < T q → Stands x d q s (B q s)
theorem Kept.took {x : LogS} {d : Dev} {B : Nat → Nat → List (BitVec 8)} {T : Nat → Nat} (h : Kept x d B T) (b : List (BitVec 8)) : Kept (x.took b) d B T := ⟨h.cap, h.now, h.stands⟩
/-- The sector under way is written. -/
theorem Kept.wrote {x : LogS} {d : Dev} {B : Nat → Nat → List (BitVec 8)} {T : Nat → Nat} (h : Kept x d B T) (hok : x.Ok) (hs : x.sector < x.sectors) (hon : x.On d) (hz : 96 ≤ d.size) (hup : d.Up) :
    Kept x.wrote (d.logged x) (fun q s => if q = x.last ∧ s = x.sector then fillTo x.room x.row else B q s) (fun q => if q = x.last then x.sector + 1 else T q) := by
  have hl := (logged_up hok hs hon hz hup).2
  obtain ⟨_, _, hsh⟩ := sheet_err hok hs hon hz
  have hsz : (d.logged x).size = d.size := (d.size_write _ _).1
  refine ⟨fun q => ?_, ?_, fun (q s : Nat) h1 h2 h3 => ?_⟩
  · show (if q = x.last then x.sector + 1 else T q) ≤ x.sectors
    split
    · omega
    · exact h.cap q
  · show (if x.last = x.last then x.sector + 1 else T x.last) = x.sector + 1
    rw [if_pos rfl]
  · have h1 : x.oldest ≤ (q : Int) := h1
    have h2 : q ≤ x.last := h2
    have h3 : s < (if q = x.last then x.sector + 1 else T q) := h3
    have hss : s < x.sectors := by
      split at h3
      · omega
      · exact Nat.lt_of_lt_of_le h3 (h.cap q)
    show (if q = x.last ∧ s = x.sector then fillTo x.room x.row else B q s).length = x.room ∧ (d.logged x).cur (x.first + x.place q s) = leafB (d.logged x).size 3 (x.place q s) q (if q = x.last ∧ s = x.sector then fillTo x.room x.row else B q s)
    rw [hsz, hl, cur_give]
    by_cases he : q = x.last ∧ s = x.sector
    · obtain ⟨rfl, rfl⟩ := he
      rw [if_pos ⟨rfl, rfl⟩, if_pos (show x.first + x.place x.last x.sector = x.spot from rfl)]
      exact ⟨fillTo_len hok.rlt, hsh⟩
    · rw [if_neg he]
      have hT : s < T q := by
        by_cases hq : q = x.last
        · rw [if_pos hq] at h3
          subst hq
          have hn := h.now
          have : ¬ s = x.sector := fun e => he ⟨rfl, e⟩
          omega
        · rwa [if_neg hq] at h3
      have hne : ¬ x.first + x.place q s = x.spot := fun e => by
        have e2 : x.place q s = x.place x.last x.sector := by unfold LogS.spot at e; omega
        have hol : (x.last : Int) - x.regions + 1 ≤ (q : Int) := by
          have : (x.last : Int) - x.regions + 1 ≤ x.oldest := by unfold LogS.oldest; omega
          omega
        exact he (place_apart hok hss hs h2 (by omega) e2)
      rw [if_neg hne]
      exact h.stands q s h1 h2 hT
/-- The next region is begun. -/
theorem Kept.next {x : LogS} {d : Dev} {B : Nat → Nat → List (BitVec 8)} {T : Nat → Nat} (h : Kept x d B T) (y : LogS) (hy : y.last = x.last + 1 ∧ y.sector = 0 ∧ y.room = x.room ∧ y.first = x.first ∧ y.regions = x.regions ∧ y.sectors = x.sectors) :
    Kept y d B (fun q => if q = x.last + 1 then 0 else T q) := by
  obtain ⟨e1, e2, e3, e4, e5, e6⟩ := hy
  have ep : ∀ q s : Nat, y.place q s = x.place q s := fun q s => by unfold LogS.place; rw [e5, e6]
  refine ⟨fun q => ?_, ?_, fun (q s : Nat) h1 h2 h3 => ?_⟩
  · show (if q = x.last + 1 then 0 else T q) ≤ y.sectors
    rw [e6]
    split
    · exact Nat.zero_le _
    · exact h.cap q
  · show (if y.last = x.last + 1 then 0 else T y.last) = y.sector
    rw [e1, e2, if_pos rfl]
  · have h3 : s < (if q = x.last + 1 then 0 else T q) := h3
    have hq : ¬ q = x.last + 1 := fun e => by rw [if_pos e] at h3; omega
    rw [if_neg hq] at h3
    have h2' : q ≤ x.last := by omega
    have ho : x.oldest ≤ (q : Int) := by
      have : x.oldest ≤ y.oldest := by unfold LogS.oldest; rw [e1, e5]; push_cast; omega
      omega
    obtain ⟨a1, a2⟩ := h.stands q s ho h2' h3
    refine ⟨by rw [e3]; exact a1, ?_⟩
    rw [e4, ep]
    exact a2
end Go.Proofs.Ytiddfilhfdkogaa

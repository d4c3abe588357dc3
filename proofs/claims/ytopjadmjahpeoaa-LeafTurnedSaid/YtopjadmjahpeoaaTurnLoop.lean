/-
  LeafTurned: four bytes that are turned, and what that makes of a sector.
  Conditions: none.
-/
import Derived.Test.YtopjadmjahpeoaaOpenTurned
import Derived.Test.YtopjadmjahpeoaaLeafTurnMath
import Derived.Deep.RegionHeld3
namespace Go.Proofs.Ytopjadmjahpeoaa
open Go.ChangeShapes Go.WideShapes Go.ChangeAt Go.RowKit

/-- The i-th of the four bytes. -/
def TurnP.ts (x : TurnP) : Nat → BitVec 8
  | 0 => x.t0
  | 1 => x.t1
  | 2 => x.t2
  | 3 => x.t3
  | _ => 0
/-- The bytes behind i rounds. -/
def TurnP.turn (x : TurnP) (bs : List (BitVec 8)) (k : Nat) : Nat → List (BitVec 8)
  | 0 => bs
  | i + 1 => (x.turn bs k i).set (k + i) (((x.turn bs k i)[k + i]?.getD 0) ^^^ x.ts i)
/-- Was one of the first i not 0? -/
def TurnP.chg (x : TurnP) : Nat → Bool
  | 0 => false
  | i + 1 => x.chg i || (x.ts i != 0)
theorem TurnP.turn_len (x : TurnP) (bs : List (BitVec 8)) (k i : Nat) : (x.turn bs k i).length = bs.length := by
  induction i with
  | zero => rfl
  | succ i ih => rw [TurnP.turn, List.length_set, ih]
theorem TurnP.turn_get (x : TurnP) (bs : List (BitVec 8)) (k i : Nat) (hk : k + i ≤ bs.length) (j : Nat) :
    (x.turn bs k i)[j]?.getD 0 = if k ≤ j ∧ j < k + i then (bs[j]?.getD 0) ^^^ x.ts (j - k) else bs[j]?.getD 0 := by
  induction i generalizing j with
  | zero => rw [if_neg (by omega)]; rfl
  | succ i ih =>
    rw [TurnP.turn, List.getElem?_set]
    by_cases h : k + i = j
    · subst h
      rw [if_pos rfl, if_pos (by rw [x.turn_len]; omega), if_pos (by omega), show k + i - k = i by omega]
      rw [ih (by omega), if_neg (by omega)]
      rfl
    · rw [if_neg h, ih (by omega)]
      by_cases h2 : k ≤ j ∧ j < k + i
      · rw [if_pos h2, if_pos (by omega)]
      · rw [if_neg h2, if_neg (by omega)]
theorem TurnP.chg_zero (x : TurnP) (i : Nat) (h : x.chg i = false) (j : Nat) (hj : j < i) : x.ts j = 0 := by
  induction i with
  | zero => omega
  | succ i ih =>
    rw [TurnP.chg, Bool.or_eq_false_iff] at h
    by_cases h2 : j = i
    · subst h2; simpa using h.2
    · exact ih h.1 (by omega)
theorem TurnP.chg_of (x : TurnP) (i : Nat) (h : ∀ j, j < i → x.ts j = 0) : x.chg i = false := by
  induction i with
  | zero => rfl
  | succ i ih => rw [TurnP.chg, ih (fun j hj => h j (by omega)), h i (by omega)]; rfl
theorem xor_cancel8 (a t : BitVec 8) : (a ^^^ t) ^^^ a = t := by
  rw [BitVec.xor_comm a t, BitVec.xor_assoc, BitVec.xor_self, BitVec.xor_zero]
theorem TurnP.read (x : TurnP) (bs : List (BitVec 8)) (k : Nat) (hk : k + 4 ≤ bs.length) (hb : readErr bs = 0) :
    (readErr (x.turn bs k 4) != 0) = x.chg 4 := by
  cases hc : x.chg 4 with
  | false =>
    have : x.turn bs k 4 = bs := by
      apply List.ext_getElem?
      intro j
      by_cases hj : j < bs.length
      · have h := x.turn_get bs k 4 hk j
        have h0 : ∀ i, i < 4 → x.ts i = 0 := fun i hi => x.chg_zero 4 hc i hi
        have h2 : (x.turn bs k 4)[j]?.getD 0 = bs[j]?.getD 0 := by
          rw [h]
          by_cases h3 : k ≤ j ∧ j < k + 4
          · rw [if_pos h3, h0 _ (by omega)]; exact BitVec.xor_zero
          · rw [if_neg h3]
        rw [List.getElem?_eq_getElem (by rw [x.turn_len]; exact hj), List.getElem?_eq_getElem hj] at h2 ⊢
        exact congrArg some h2
      · rw [List.getElem?_eq_none (by rw [x.turn_len]; omega), List.getElem?_eq_none (by omega)]
    rw [this, hb]
    rfl
  | true =>
    apply bne_iff_ne.2
    intro he
    have hs := turned_same hb he (x.turn_len bs k 4) (8 * k) (by
      intro p hp hd
      rw [x.turn_get bs k 4 hk] at hd
      by_cases h3 : k ≤ p / 8 ∧ p / 8 < k + 4
      · omega
      · rw [if_neg h3, BitVec.xor_self] at hd
        simp at hd)
    have : x.chg 4 = false := x.chg_of 4 (fun j hj => by
      have h := x.turn_get bs k 4 hk (k + j)
      rw [hs, if_pos (by omega), show k + j - k = j by omega] at h
      have h2 := xor_cancel8 (bs[k + j]?.getD 0) (x.ts j)
      rw [← h, BitVec.xor_self] at h2
      exact h2.symm)
    rw [this] at hc
    exact absurd hc (by decide)
theorem cellsOf_set (l : List (BitVec 8)) (j : Nat) (z : BitVec 8) : (cellsOf l).set j (.int .u8 (U z)) = cellsOf (l.set j z) := by
  unfold cellsOf; rw [List.map_set]
theorem cellsOf_get (l : List (BitVec 8)) (j : Nat) (h : j < l.length) : (cellsOf l)[j]? = some (.int .u8 (U (l[j]?.getD 0))) := by
  unfold cellsOf; rw [List.getElem?_map, List.getElem?_eq_getElem h]; rfl
theorem TurnP.four_get (x : TurnP) (j : Nat) (h : j < 4) : (#[.int .u8 (U x.t0), .int .u8 (U x.t1), .int .u8 (U x.t2), .int .u8 (U x.t3)] : Array Value)[j]? = some (.int .u8 (U (x.ts j))) := by
  match j, h with
  | 0, _ => rfl
  | 1, _ => rfl
  | 2, _ => rfl
  | 3, _ => rfl
end Go.Proofs.Ytopjadmjahpeoaa

/-
  Plain mathematics: how much was counted of a kind, in whatever order.
  Conditions: none.
-/
import Derived.Test.YtjcpiljgbomceaaTal4
namespace Go.Proofs.Ytjcpiljgbomceaa

def kdP (p : Int × Int) : Nat := ((p.1 % 18446744073709551616) % 8).toNat
def nnP (p : Int × Int) : Int := (p.2 % 18446744073709551616) % 1125899906842624
theorem kd_lt (p : Int × Int) : kdP p < 8 := by unfold kdP; omega
theorem nn_bd (p : Int × Int) : 0 ≤ nnP p ∧ nnP p ≤ 1125899906842623 := by unfold nnP; omega
/-- How much of the kind j. -/
def cnt (l : List (Int × Int)) (j : Nat) : Int := (l.map fun p => if kdP p = j then nnP p else 0).sum
def cntL (l : List (Int × Int)) : List Int := (List.range 8).map (cnt l)
theorem cnt_nil (j : Nat) : cnt [] j = 0 := rfl
theorem cnt_cons (p : Int × Int) (l : List (Int × Int)) (j : Nat) : cnt (p :: l) j = (if kdP p = j then nnP p else 0) + cnt l j := by simp [cnt]
theorem cnt_append (a b : List (Int × Int)) (j : Nat) : cnt (a ++ b) j = cnt a j + cnt b j := by
  induction a with
  | nil => simp [cnt_nil]
  | cons p a ih => rw [List.cons_append, cnt_cons, cnt_cons, ih]; omega
theorem cnt_rev (l : List (Int × Int)) (j : Nat) : cnt l.reverse j = cnt l j := by
  induction l with
  | nil => rfl
  | cons p l ih => rw [List.reverse_cons, cnt_append, ih, cnt_cons, cnt_cons, cnt_nil]; omega
theorem cnt_bd : ∀ (l : List (Int × Int)) (j : Nat), 0 ≤ cnt l j ∧ cnt l j ≤ l.length * 1125899906842623
  | [], j => by simp [cnt_nil]
  | p :: l, j => by
    have ih := cnt_bd l j
    have hp := nn_bd p
    rw [cnt_cons, List.length_cons]
    split <;> omega
theorem cntL_len (l : List (Int × Int)) : (cntL l).length = 8 := by simp [cntL]
theorem cntL_get (l : List (Int × Int)) {j : Nat} (hj : j < 8) : (cntL l)[j]?.getD 0 = cnt l j := by simp [cntL, hj]
theorem cntL_nil : cntL [] = List.replicate 8 0 := by decide
theorem cntL_rev (l : List (Int × Int)) : cntL l.reverse = cntL l := by
  unfold cntL
  exact List.map_congr_left fun j _ => cnt_rev l j
theorem cntL_snoc (l : List (Int × Int)) (p : Int × Int) (hl : l.length ≤ 1000) : addL (cntL l) (kdP p) (nnP p) = cntL (l ++ [p]) := by
  have hk := kd_lt p
  have hb := cnt_bd l (kdP p)
  have hp := nn_bd p
  unfold addL
  rw [cntL_get l hk]
  have ha : addC (cnt l (kdP p)) (nnP p) = cnt l (kdP p) + nnP p := by unfold addC; omega
  rw [ha]
  refine List.ext_getElem (by simp [cntL_len]) fun i h1 h2 => ?_
  have hi : i < 8 := by rw [cntL_len] at h2; exact h2
  rw [List.getElem_set]
  by_cases e : kdP p = i
  · subst e
    rw [if_pos rfl]
    simp [cntL, cnt_append, cnt_cons, cnt_nil]
  · rw [if_neg e]
    simp [cntL, cnt_append, cnt_cons, cnt_nil, e]
theorem cntL_since (a b : List (Int × Int)) : sinceL (cntL (a ++ b)) (cntL a) = cntL b := by
  unfold sinceL doneI
  rw [cntL_len]
  unfold cntL
  refine List.map_congr_left fun i hi => ?_
  have hi' : i < 8 := List.mem_range.1 hi
  unfold sinceF wasK
  have e1 := cntL_get (a ++ b) hi'
  have e2 := cntL_get a hi'
  unfold cntL at e1 e2
  rw [e1, e2, cnt_append]
  have h1 := (cnt_bd a i).1
  have h2 := (cnt_bd b i).1
  omega
theorem cntL_same {a b : List (Int × Int)} (h : a = b) : cntL a = cntL b := by rw [h]
theorem take_one {α : Type} (l : List α) {i : Nat} (h : i < l.length) : l.take (i + 1) = l.take i ++ [l[i]] := (List.take_append_getElem h).symm
theorem drop_take_one {α : Type} (l : List α) {i k : Nat} (h : i < l.length) (hk : k ≤ i) : (l.take (i + 1)).drop k = (l.take i).drop k ++ [l[i]] := by
  rw [take_one l h, List.drop_append_of_le_length (by rw [List.length_take]; omega)]
theorem drop_take_none {α : Type} (l : List α) {i k : Nat} (hk : i ≤ k) : (l.take i).drop k = [] := List.drop_eq_nil_of_le (by rw [List.length_take]; omega)
theorem rev_one {α : Type} (l : List α) {i : Nat} (h : i < l.length) : l.reverse.take (i + 1) = l.reverse.take i ++ [l[l.length - 1 - i]'(by omega)] := by
  rw [take_one l.reverse (by simpa using h), List.getElem_reverse]
theorem countOk_cnt (l : List (Int × Int)) (hl : l.length ≤ 1000) : CountOk (cntL l) := by
  refine ⟨by rw [cntL_len]; decide, fun i hi => ?_⟩
  rw [cntL_len] at hi
  rw [cntL_get l hi]
  have := cnt_bd l i
  omega
end Go.Proofs.Ytjcpiljgbomceaa

/-
  Plain mathematics: a record is read as it was packed, whatever stands behind it; records one behind the other, noughts between.
  Conditions: none.
-/
import Derived.Test.YtdpjhcdkiddplaaRecsMath
namespace Go.Proofs.Ytdpjhcdkiddplaa
open Go.RowKit

theorem recB_at (ks vs rest : List (BitVec 8)) (e : Int) : (recB ks vs e ++ rest).take 12 = recHead ks.length vs.length e := by
  rw [recB_form, List.append_assoc]
  generalize ks ++ (vs ++ leI 1 90) ++ rest = tl
  have hl := recHead_len ks.length vs.length e
  generalize recHead ks.length vs.length e = hd at hl ⊢
  rw [← hl, List.take_left]
theorem recSize_ok {k v : Int} (hk : 1 ≤ k ∧ k ≤ 64) (hv : 0 ≤ v ∧ v ≤ 4096) : recSize k v = 13 + k + v := by
  have e1 : isKeyB k = true := by simp [isKeyB]; omega
  have e2 : isValB v = true := by simp [isValB]; omega
  unfold recSize
  rw [e1, e2]
  rfl
/-- What stands behind a record does not matter. -/
theorem rec_behind {ks vs : List (BitVec 8)} {e : Int} (h : packErr ks.length vs.length e = 0) (rest : List (BitVec 8)) : recGood (recB ks vs e ++ rest) ∧ recN (recB ks vs e ++ rest) = ((recB ks vs e).length : Int) ∧ recOf (recB ks vs e ++ rest) = ⟨ks, vs, e⟩ := by
  obtain ⟨⟨k1, k2⟩, ⟨v1, v2⟩, ⟨e1, e2⟩⟩ := packErr_ok h
  obtain ⟨q1, q2, q3, q4⟩ := heads (recB_at ks vs rest e) ⟨by omega, by omega⟩ ⟨by omega, by omega⟩ ⟨e1, e2⟩
  have hlen := recB_len ks vs e
  have hN : recN (recB ks vs e ++ rest) = ((recB ks vs e).length : Int) := by
    rw [recN_eq, q2, q3, recSize_ok ⟨k1, k2⟩ ⟨v1, v2⟩, hlen]
    push_cast
    rfl
  refine ⟨?_, hN, ?_⟩
  · rw [recGood_iff, hN, q1, q4]
    refine ⟨by decide, by omega, by simp [isEndB]; omega, by rw [List.length_append]; omega, ?_⟩
    have hl := recHead_len ks.length vs.length e
    have h90 : leI 1 90 = [90#8] := by decide
    have ei : (((recB ks vs e).length : Int) - 1).toNat = 12 + (ks.length + (vs.length + 0)) := by omega
    rw [ei, List.getElem?_append_left (by omega), recB_form, h90]
    generalize recHead ks.length vs.length e = hd at hl ⊢
    rw [List.getElem?_append_right (by omega), hl, Nat.add_sub_cancel_left, List.getElem?_append_right (by omega), Nat.add_sub_cancel_left, List.getElem?_append_right (by omega), Nat.add_sub_cancel_left]
    rfl
  · unfold recOf
    rw [q2, q3, q4]
    have hl := recHead_len ks.length vs.length e
    have d1 : (recB ks vs e ++ rest).drop 12 = ks ++ (vs ++ leI 1 90 ++ rest) := by
      rw [recB_form, List.append_assoc, ← hl, List.drop_left]
      simp
    have d2 : (recB ks vs e ++ rest).drop (12 + ks.length) = vs ++ (leI 1 90 ++ rest) := by
      rw [← List.drop_drop, d1, List.drop_left]
      simp
    have n1 : ((ks.length : Nat) : Int).toNat = ks.length := by omega
    have n2 : ((vs.length : Nat) : Int).toNat = vs.length := by omega
    rw [n1, n2, d1, d2, List.take_left, List.take_left]
theorem unp_behind {ks vs : List (BitVec 8)} {e : Int} (h : packErr ks.length vs.length e = 0) (rest : List (BitVec 8)) : unpRec (recB ks vs e ++ rest) = ⟨ks, vs, e⟩ ∧ unpN (recB ks vs e ++ rest) = ((recB ks vs e).length : Int) ∧ unpErr (recB ks vs e ++ rest) = 0 := by
  obtain ⟨h1, h2, h3⟩ := rec_behind h rest
  unfold unpRec unpN unpErr
  rw [if_pos h1, if_pos h1, if_pos h1]
  exact ⟨h3, h2, rfl⟩
theorem recs_zeros (n : Nat) (bs : List (BitVec 8)) : recs (List.replicate n 0#8 ++ bs) = recs bs := by
  induction n with
  | zero => simp
  | succ n ih =>
    rw [List.replicate_succ, List.cons_append, ← ih]
    have := recs_drop_zero (0#8 :: (List.replicate n 0#8 ++ bs)) 0 (by simp) rfl
    simpa using this
theorem recs_cons {ks vs : List (BitVec 8)} {e : Int} (h : packErr ks.length vs.length e = 0) (bs : List (BitVec 8)) : recs (recB ks vs e ++ bs) = ⟨ks, vs, e⟩ :: recs bs := by
  obtain ⟨h1, h2, h3⟩ := rec_behind h bs
  have hl := recB_len ks vs e
  have h0 : (recB ks vs e ++ bs)[0]?.getD 0 ≠ 0 := by
    have h165 : leI 1 165 = [165#8] := by decide
    rw [recB_form, recHead, h165]
    simp
  generalize hR : recB ks vs e = R at h1 h2 h3 hl h0 ⊢
  have := recs_good (R ++ bs) 0 (by rw [List.length_append]; omega) h0 (by rw [List.drop_zero]; exact h1)
  rw [List.drop_zero, Nat.zero_add, h2, h3] at this
  rw [this]
  have n1 : ((R.length : Nat) : Int).toNat = R.length := by omega
  rw [n1, List.drop_left]
theorem recs_tail : recs [0#8, 0#8, 1#8] = [] := by
  have h1 := recs_zeros 2 [1#8]
  have e : List.replicate 2 0#8 ++ [1#8] = [0#8, 0#8, 1#8] := rfl
  rw [e] at h1
  rw [h1]
  have hg : ¬ recGood [1#8] := fun h => by
    have := recN_pos h
    simp at this
    omega
  have := recs_bad [1#8] 0 (by simp) (by decide) (by simpa using hg)
  simpa using this
/-- The records that are packed, of some. -/
def RecP.err (x : RecP) : Int := packErr x.key.length x.val.length x.fin
def kept (l : List RecP) : List RecP := l.filter fun x => decide (x.err = 0)
/-- Their bytes, noughts ahead of each. -/
def train (z : Nat) : List RecP → List (BitVec 8)
  | [] => []
  | x :: l => List.replicate z 0#8 ++ (recB x.key x.val x.fin ++ train z l)
theorem train_append (z : Nat) (l m : List RecP) : train z (l ++ m) = train z l ++ train z m := by
  induction l with
  | nil => rfl
  | cons x l ih => rw [List.cons_append, train, train, ih]; simp only [List.append_assoc]
theorem recs_train (z : Nat) (l : List RecP) (h : ∀ x ∈ l, x.err = 0) (bs : List (BitVec 8)) : recs (train z l ++ bs) = l ++ recs bs := by
  induction l with
  | nil => rfl
  | cons x l ih =>
    rw [train, List.append_assoc, recs_zeros, List.append_assoc, recs_cons (h x (by simp)), ih (fun y hy => h y (by simp [hy]))]
    rfl
theorem kept_take_succ (l : List RecP) (k : Nat) (hk : k < l.length) : kept (l.take (k + 1)) = kept (l.take k) ++ (if (l[k]).err = 0 then [l[k]] else []) := by
  unfold kept
  rw [List.take_add_one, List.filter_append, List.getElem?_eq_getElem hk]
  congr 1
  by_cases h : (l[k]).err = 0
  · simp [h]
  · simp [h]
theorem kept_err (l : List RecP) : ∀ x ∈ kept l, x.err = 0 := fun x hx => by simpa using (List.mem_filter.1 hx).2
theorem kept_mem (l : List RecP) : ∀ x ∈ kept l, x ∈ l := fun _ hx => (List.mem_filter.1 hx).1
end Go.Proofs.Ytdpjhcdkiddplaa

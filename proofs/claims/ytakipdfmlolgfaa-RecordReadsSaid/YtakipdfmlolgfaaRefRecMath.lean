/-
  Which record bytes begin with, as the document reads them.
  Conditions: none.
-/
import Derived.Test.YtakipdfmlolgfaaRecsMath
namespace Go.Proofs.Ytakipdfmlolgfaa
open Go.RowKit

theorem leNat_digit (l : List (BitVec 8)) (j : Nat) (hj : j < l.length) : leNat l / 256 ^ j % 256 = (l[j]?.getD 0).toNat := by
  induction l generalizing j with
  | nil => simp at hj
  | cons b l ih =>
    have hb := b.isLt
    cases j with
    | zero => simp [leNat]; omega
    | succ j =>
      rw [leNat, Nat.pow_succ, Nat.mul_comm (256 ^ j) 256, ← Nat.div_div_eq_div_mul, show (b.toNat + 256 * leNat l) / 256 = leNat l by omega, ih j (by simpa using hj)]
      rfl
theorem leB_leOf (l : List (BitVec 8)) (h : l.length ≤ 8) : leB l.length (leOf l) = l := by
  apply List.ext_getElem?
  intro j
  by_cases hj : j < l.length
  · have h1 : (leB l.length (leOf l))[j]? = some ((leOf l >>> (8 * j)).setWidth 8) := by simp [leB, hj]
    rw [h1, List.getElem?_eq_getElem hj]
    congr 1
    apply BitVec.eq_of_toNat_eq
    have hd := leNat_digit l j hj
    rw [List.getElem?_eq_getElem hj] at hd
    have hd' : leNat l / 256 ^ j % 256 = l[j].toNat := hd
    rw [← hd', BitVec.toNat_setWidth, BitVec.toNat_ushiftRight, leOf_toNat l h, Nat.shiftRight_eq_div_pow, Nat.pow_mul]
  · rw [List.getElem?_eq_none (by rw [leB_len]; omega), List.getElem?_eq_none (by omega)]
/-- The numbers ahead. -/
def rk (bs : List (BitVec 8)) : Nat := (bs[1]?.getD 0).toNat
def rv (bs : List (BitVec 8)) : Nat := (leOf ((bs.drop 2).take 2)).toNat
def rE (bs : List (BitVec 8)) : Nat := (leOf ((bs.drop 4).take 8)).toNat
theorem rk_lt (bs : List (BitVec 8)) : rk bs < 256 := (bs[1]?.getD 0).isLt
theorem leOf_leR (bs : List (BitVec 8)) (k : Nat) (h : bs.length ≤ k) (hk : k ≤ 8) : (leOf bs).toNat < 256 ^ k := by
  rw [leOf_toNat bs (by omega)]
  exact Nat.lt_of_lt_of_le (leNat_lt bs) (Nat.pow_le_pow_right (by decide) h)
theorem rv_lt (bs : List (BitVec 8)) : rv bs < 65536 := leOf_leR _ 2 (by rw [List.length_take]; omega) (by omega)
theorem rE_lt (bs : List (BitVec 8)) : rE bs < 18446744073709551616 := leOf_leR _ 8 (by rw [List.length_take]; omega) (by omega)
theorem one_leR (b : BitVec 8) : (leOf [b]).toNat = b.toNat := by
  rw [leOf_toNat [b] (by simp)]
  simp [leNat]
theorem take_one_drop (bs : List (BitVec 8)) (i : Nat) (h : i < bs.length) : (bs.drop i).take 1 = [bs[i]?.getD 0] := by
  rw [List.drop_eq_getElem_cons h, List.getElem?_eq_getElem h]; rfl
theorem heads2 (bs : List (BitVec 8)) (h : 12 ≤ bs.length) : U (hd1 bs) = ((bs[0]?.getD 0).toNat : Int) ∧ hd2 bs = rk bs ∧ hd3 bs = rv bs ∧ hd4 bs = wrap64 (rE bs) := by
  have hl : (bs.take 12).length = 12 := by rw [List.length_take]; omega
  obtain ⟨a1, a2⟩ := rd_some (bs.take 12) 1 1 rfl rfl (by omega)
  obtain ⟨b1, b2⟩ := rd_some ((bs.take 12).drop 1) 1 1 rfl rfl (by rw [List.length_drop]; omega)
  rw [List.drop_drop] at b2
  obtain ⟨c1, c2⟩ := rd_some ((bs.take 12).drop 2) 2 2 rfl rfl (by rw [List.length_drop]; omega)
  rw [List.drop_drop] at c2
  obtain ⟨e1, _⟩ := rd_some ((bs.take 12).drop 4) 8 8 rfl rfl (by rw [List.length_drop]; omega)
  have t : ∀ i n, i + n ≤ 12 → ((bs.take 12).drop i).take n = (bs.drop i).take n := fun i n hin => by
    rw [List.drop_take, List.take_take, show min n (12 - i) = n by omega]
  refine ⟨?_, ?_, ?_, ?_⟩
  · unfold hd1
    rw [a1]
    have := t 0 1 (by omega)
    rw [List.drop_zero, take_one_drop bs 0 (by omega)] at this
    rw [this]
    show ((leOf [_]).toNat : Int) = _
    rw [one_leR]
  · unfold hd2
    rw [a2, b1, t 1 1 (by omega), take_one_drop bs 1 (by omega)]
    show wrap64 ((leOf [_]).toNat : Int) = _
    rw [one_leR]
    have := rk_lt bs
    show wrap64 (rk bs : Int) = _
    unfold wrap64; omega
  · unfold hd3
    rw [a2, b2, c1, t 2 2 (by omega)]
    show wrap64 (rv bs : Int) = _
    have := rv_lt bs
    unfold wrap64; omega
  · unfold hd4
    rw [a2, b2, c2, e1, t 4 8 (by omega)]
    rfl
theorem short_bad (bs : List (BitVec 8)) (h : bs.length < 13) : ¬ recGood bs := fun hg => by
  have := recN_pos hg; omega
theorem bad_of (bs : List (BitVec 8)) (h : 13 ≤ bs.length) (hb : bs.length < 13 + rk bs + rv bs ∨ 281474976710656 < rE bs) : ¬ recGood bs := fun hg => by
  have hg' := (recGood_iff bs).1 hg
  obtain ⟨h1, h2, h3, h4⟩ := heads2 bs (by omega)
  have hp := recN_pos hg
  rw [recN_eq, h2, h3] at hg' hp
  obtain ⟨k1, k2, v1, v2, e⟩ := recSize_pos hg'.2.1
  rcases hb with hb | hb
  · rw [e] at hp; omega
  · have h5 := hg'.2.2.1
    rw [h4] at h5
    have h6 : 0 ≤ wrap64 (rE bs) ∧ wrap64 (rE bs) ≤ 281474976710656 := by simpa [isEndB] using h5
    have := rE_lt bs
    unfold wrap64 at h6
    omega
/-- The record that is looked at. -/
def recX (bs : List (BitVec 8)) : RecP := ⟨(bs.drop 12).take (rk bs), (bs.drop (12 + rk bs)).take (rv bs), rE bs⟩
theorem recX_len (bs : List (BitVec 8)) (h : 13 + rk bs + rv bs ≤ bs.length) : (recX bs).key.length = rk bs ∧ (recX bs).val.length = rv bs := by
  unfold recX
  rw [List.length_take, List.length_drop, List.length_take, List.length_drop]
  omega
theorem recX_form (bs : List (BitVec 8)) (h : 13 + rk bs + rv bs ≤ bs.length) : ∃ mid, recB (recX bs).key (recX bs).val (rE bs) = [165#8] ++ (mid ++ [90#8]) ∧ bs.take (13 + rk bs + rv bs) = [bs[0]?.getD 0] ++ (mid ++ [bs[12 + rk bs + rv bs]?.getD 0]) := by
  obtain ⟨l1, l2⟩ := recX_len bs h
  refine ⟨leI 1 (rk bs) ++ (leI 2 (rv bs) ++ (leI 8 (rE bs) ++ ((recX bs).key ++ (recX bs).val))), ?_, ?_⟩
  · unfold recB
    rw [l1, l2]
    simp only [List.append_assoc, List.nil_append]
    rfl
  · have n1 : leI 1 (rk bs) = (bs.drop 1).take 1 := by
      rw [take_one_drop bs 1 (by omega)]
      have := leB_leOf [bs[1]?.getD 0] (by simp)
      unfold leI
      have e : BitVec.ofInt 64 (rk bs : Int) = leOf [bs[1]?.getD 0] := by
        apply BitVec.eq_of_toNat_eq
        rw [one_leR, BitVec.toNat_ofInt]
        have := rk_lt bs
        show _ = rk bs
        omega
      rw [e]; exact this
    have n2 : leI 2 (rv bs) = (bs.drop 2).take 2 := by
      have hl : ((bs.drop 2).take 2).length = 2 := by rw [List.length_take, List.length_drop]; omega
      have := leB_leOf ((bs.drop 2).take 2) (by omega)
      rw [hl] at this
      unfold leI
      have e : BitVec.ofInt 64 (rv bs : Int) = leOf ((bs.drop 2).take 2) := by
        apply BitVec.eq_of_toNat_eq
        rw [BitVec.toNat_ofInt]
        have := rv_lt bs
        show _ = rv bs
        omega
      rw [e]; exact this
    have n3 : leI 8 (rE bs) = (bs.drop 4).take 8 := by
      have hl : ((bs.drop 4).take 8).length = 8 := by rw [List.length_take, List.length_drop]; omega
      have := leB_leOf ((bs.drop 4).take 8) (by omega)
      rw [hl] at this
      unfold leI
      have e : BitVec.ofInt 64 (rE bs : Int) = leOf ((bs.drop 4).take 8) := by
        apply BitVec.eq_of_toNat_eq
        rw [BitVec.toNat_ofInt]
        have := rE_lt bs
        show _ = rE bs
        omega
      rw [e]; exact this
    rw [n1, n2, n3]
    have s : ∀ i a b, (bs.drop i).take (a + b) = (bs.drop i).take a ++ (bs.drop (i + a)).take b := fun i a b => by
      rw [List.take_add, List.drop_drop]
    have e0 := s 0 1 (12 + rk bs + rv bs)
    rw [List.drop_zero, show 1 + (12 + rk bs + rv bs) = 13 + rk bs + rv bs by omega] at e0
    have f0 := take_one_drop bs 0 (by omega)
    rw [List.drop_zero] at f0
    have s1 := s 1 1 (11 + rk bs + rv bs)
    have s2 := s 2 2 (9 + rk bs + rv bs)
    have s3 := s 4 8 (1 + rk bs + rv bs)
    have s4 := s 12 (rk bs) (rv bs + 1)
    have s5 := s (12 + rk bs) (rv bs) 1
    rw [show 1 + (11 + rk bs + rv bs) = 12 + rk bs + rv bs by omega, show 1 + 1 = 2 from rfl] at s1
    rw [show 2 + (9 + rk bs + rv bs) = 11 + rk bs + rv bs by omega, show 2 + 2 = 4 from rfl] at s2
    rw [show 8 + (1 + rk bs + rv bs) = 9 + rk bs + rv bs by omega, show 4 + 8 = 12 from rfl] at s3
    rw [show rk bs + (rv bs + 1) = 1 + rk bs + rv bs by omega] at s4
    rw [take_one_drop bs (12 + rk bs + rv bs) (by omega)] at s5
    rw [e0, f0, show 0 + 1 = 1 from rfl, s1, s2, s3, s4, s5]
    show _ = [_] ++ (((bs.drop 1).take 1 ++ ((bs.drop 2).take 2 ++ ((bs.drop 4).take 8 ++ ((bs.drop 12).take (rk bs) ++ (bs.drop (12 + rk bs)).take (rv bs))))) ++ [_])
    simp only [List.append_assoc]
/-- The document's reading. -/
theorem good_iff (bs : List (BitVec 8)) (h : 13 + rk bs + rv bs ≤ bs.length) (he : rE bs ≤ 281474976710656) : recGood bs ↔ (packErr (rk bs) (rv bs) (rE bs) = 0 ∧ recB (recX bs).key (recX bs).val (rE bs) = bs.take (13 + rk bs + rv bs)) := by
  obtain ⟨h1, h2, h3, h4⟩ := heads2 bs (by omega)
  obtain ⟨mid, m1, m2⟩ := recX_form bs h
  have hw : wrap64 (rE bs) = (rE bs : Int) := by unfold wrap64; omega
  have hE : isEndB (rE bs) = true := by unfold isEndB; simp; omega
  have hpe : packErr (rk bs) (rv bs) (rE bs) = 0 ↔ (1 ≤ rk bs ∧ rk bs ≤ 64) ∧ rv bs ≤ 4096 := by
    constructor
    · intro hp
      obtain ⟨k, v, _⟩ := packErr_ok hp
      omega
    · rintro ⟨⟨k1, k2⟩, v1⟩
      unfold packErr
      rw [if_pos (by unfold isKeyB; simp; omega), if_pos (by unfold isValB; simp; omega), if_pos hE]
  have hrs : ((1 ≤ rk bs ∧ rk bs ≤ 64) ∧ rv bs ≤ 4096) → recSize (rk bs) (rv bs) = 13 + (rk bs : Int) + rv bs := fun hh => by
    unfold recSize
    rw [if_pos (by unfold isKeyB isValB; simp; omega)]
  rw [recGood_iff, recN_eq, h1, h2, h3, h4, hw, m1, m2, hpe]
  have heq : ([165#8] ++ (mid ++ [90#8]) = [bs[0]?.getD 0] ++ (mid ++ [bs[12 + rk bs + rv bs]?.getD 0])) ↔ (bs[0]?.getD 0 = 165#8 ∧ bs[12 + rk bs + rv bs]?.getD 0 = 90#8) := by
    constructor
    · intro hh
      have q := List.cons.inj (show (165#8 :: (mid ++ [90#8])) = (bs[0]?.getD 0 :: (mid ++ [bs[12 + rk bs + rv bs]?.getD 0])) from hh)
      have q2 := List.append_cancel_left q.2
      exact ⟨q.1.symm, (List.cons.inj q2).1.symm⟩
    · rintro ⟨q1, q2⟩
      rw [q1, q2]
  rw [heq]
  constructor
  · rintro ⟨g1, g2, _, g4, g5⟩
    obtain ⟨k1, k2, v1, v2, e⟩ := recSize_pos g2
    rw [e, show (13 + (rk bs : Int) + rv bs - 1).toNat = 12 + rk bs + rv bs by omega] at g5
    refine ⟨⟨⟨by omega, by omega⟩, by omega⟩, ?_, g5⟩
    apply BitVec.eq_of_toNat_eq
    show _ = 165
    omega
  · rintro ⟨hh, q1, q2⟩
    have e := hrs hh
    rw [e]
    refine ⟨by rw [q1]; rfl, by omega, hE, by omega, ?_⟩
    rw [show (13 + (rk bs : Int) + rv bs - 1).toNat = 12 + rk bs + rv bs by omega]
    exact q2
theorem good_parts (bs : List (BitVec 8)) (h : 13 + rk bs + rv bs ≤ bs.length) (he : rE bs ≤ 281474976710656) (hg : recGood bs) : recOf bs = recX bs ∧ recN bs = 13 + (rk bs : Int) + rv bs := by
  obtain ⟨_, h2, h3, h4⟩ := heads2 bs (by omega)
  have hw : wrap64 (rE bs) = (rE bs : Int) := by unfold wrap64; omega
  have h5 := ((recGood_iff bs).1 hg).2.1
  rw [recN_eq, h2, h3] at h5
  obtain ⟨k1, k2, v1, v2, e⟩ := recSize_pos h5
  refine ⟨?_, by rw [recN_eq, h2, h3, e]⟩
  unfold recOf recX
  rw [h2, h3, h4, hw, Int.toNat_natCast, Int.toNat_natCast]
end Go.Proofs.Ytakipdfmlolgfaa

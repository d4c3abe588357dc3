/-
  Plain mathematics of a record's bytes: its head; cut short it is none.
  Conditions: none.
-/
import Derived.Test.YtdpjhcdkiddplaaRec4
namespace Go.Proofs.Ytdpjhcdkiddplaa
open Go.RowKit

theorem num_backR (k : Nat) (i : Int) (hk : k ≤ 8) (h0 : 0 ≤ i) (h1 : i < ((256 ^ k : Nat) : Int)) (h2 : i < 9223372036854775808) : wrap64 (U (leOf (leI k i))) = i := by
  obtain ⟨n, rfl⟩ := Int.eq_ofNat_of_zero_le h0
  have e : (leOf (leI k n)).toNat = n := by
    rw [leOf_toNat _ (by rw [leI_len]; simpa using hk)]
    unfold leI
    rw [leNat_leB, BitVec.toNat_ofInt]
    simp only [Int.toNat_natCast]
    have h1' : n < 256 ^ k := by exact_mod_cast h1
    have h2' : n < 9223372036854775808 := by omega
    have e2 : ((n : Int) % ((2 ^ 64 : Nat) : Int)).toNat = n := by omega
    rw [e2, Nat.mod_eq_of_lt h1']
  unfold U
  rw [e]
  unfold wrap64
  omega
theorem rd_some (l : List (BitVec 8)) (n : Nat) (k : Int) (hn : k = n) (hk : mayB k = true) (h : n ≤ l.length) : rdN l k = leOf (l.take n) ∧ rdL l k = l.drop n := by
  subst hn
  have ht : tookN l true n = some n := by simp [tookN]; omega
  unfold rdN rdL
  rw [hk, ht]
  exact ⟨rfl, rfl⟩
theorem packErr_ok {k v e : Int} (h : packErr k v e = 0) : (1 ≤ k ∧ k ≤ 64) ∧ (0 ≤ v ∧ v ≤ 4096) ∧ (0 ≤ e ∧ e ≤ 281474976710656) := by
  unfold packErr at h
  by_cases h1 : isKeyB k = true
  · rw [if_pos h1] at h
    by_cases h2 : isValB v = true
    · rw [if_pos h2] at h
      by_cases h3 : isEndB e = true
      · exact ⟨by simpa [isKeyB] using h1, by simpa [isValB] using h2, by simpa [isEndB] using h3⟩
      · rw [if_neg h3] at h; exact absurd h (by decide)
    · rw [if_neg h2] at h; exact absurd h (by decide)
  · rw [if_neg h1] at h; exact absurd h (by decide)
/-- The head of a record. -/
def recHead (k v e : Int) : List (BitVec 8) := leI 1 165 ++ (leI 1 k ++ (leI 2 v ++ leI 8 e))
theorem recHead_len (k v e : Int) : (recHead k v e).length = 12 := by simp [recHead, leI_len]
theorem recB_form (ks vs : List (BitVec 8)) (e : Int) : recB ks vs e = recHead ks.length vs.length e ++ (ks ++ (vs ++ leI 1 90)) := by
  simp only [recB, recHead, List.append_assoc, List.nil_append]
theorem heads {bs : List (BitVec 8)} {k v e : Int} (h : bs.take 12 = recHead k v e) (hk : 0 ≤ k ∧ k ≤ 255) (hv : 0 ≤ v ∧ v ≤ 65535) (he : 0 ≤ e ∧ e ≤ 281474976710656) :
    hd1 bs = 165#64 ∧ hd2 bs = k ∧ hd3 bs = v ∧ hd4 bs = e := by
  have l1 : (leI 1 165).length = 1 := leI_len _ _
  have l2 : (leI 1 k).length = 1 := leI_len _ _
  have l3 : (leI 2 v).length = 2 := leI_len _ _
  have l4 : (leI 8 e).length = 8 := leI_len _ _
  have b2 : wrap64 (U (leOf (leI 1 k))) = k := num_backR 1 k (by omega) hk.1 (by omega) (by omega)
  have b3 : wrap64 (U (leOf (leI 2 v))) = v := num_backR 2 v (by omega) hv.1 (by omega) (by omega)
  have b4 : wrap64 (U (leOf (leI 8 e))) = e := num_backR 8 e (by omega) he.1 (by omega) (by omega)
  obtain ⟨r1, s1⟩ := rd_some (recHead k v e) 1 1 rfl rfl (by rw [recHead_len]; omega)
  have d1 : (recHead k v e).drop 1 = leI 1 k ++ (leI 2 v ++ leI 8 e) := List.drop_left' l1
  rw [d1] at s1
  obtain ⟨r2, s2⟩ := rd_some (leI 1 k ++ (leI 2 v ++ leI 8 e)) 1 1 rfl rfl (by simp [leI_len])
  rw [List.drop_left' l2] at s2
  rw [List.take_left' l2] at r2
  obtain ⟨r3, s3⟩ := rd_some (leI 2 v ++ leI 8 e) 2 2 rfl rfl (by simp [leI_len])
  rw [List.drop_left' l3] at s3
  rw [List.take_left' l3] at r3
  obtain ⟨r4, _⟩ := rd_some (leI 8 e) 8 8 rfl rfl (by simp [leI_len])
  rw [List.take_of_length_le (by omega)] at r4
  refine ⟨?_, ?_, ?_, ?_⟩
  · unfold hd1
    rw [h, r1]
    have : (recHead k v e).take 1 = leI 1 165 := List.take_left' l1
    rw [this]
    decide
  · unfold hd2
    rw [h, s1, r2, b2]
  · unfold hd3
    rw [h, s1, s2, r3, b3]
  · unfold hd4
    rw [h, s1, s2, s3, r4, b4]
theorem recN_eq (bs : List (BitVec 8)) : recN bs = recSize (hd2 bs) (hd3 bs) := rfl
theorem recGood_iff (bs : List (BitVec 8)) : recGood bs ↔ (U (hd1 bs) = 165 ∧ recN bs ≠ 0 ∧ isEndB (hd4 bs) = true ∧ recN bs ≤ bs.length ∧ bs[(recN bs - 1).toNat]?.getD 0 = 90#8) := Iff.rfl
theorem recB_head (ks vs : List (BitVec 8)) (e : Int) (m : Nat) (h : 12 ≤ m) : ((recB ks vs e).take m).take 12 = recHead ks.length vs.length e := by
  rw [List.take_take, show min 12 m = 12 by omega, recB_form]
  generalize ks ++ (vs ++ leI 1 90) = tl
  have hl := recHead_len ks.length vs.length e
  generalize recHead ks.length vs.length e = hd at hl ⊢
  rw [← hl, List.take_left]
/-- Cut short, a record's bytes are none. -/
theorem rec_cut {ks vs : List (BitVec 8)} {e : Int} (h : packErr ks.length vs.length e = 0) (m : Nat) (hm : m < (recB ks vs e).length) : ¬ recGood ((recB ks vs e).take m) := by
  intro hg
  have hlm : ((recB ks vs e).take m).length = m := by rw [List.length_take]; omega
  have h12 := recB_head ks vs e m
  rw [recB_len] at hm
  generalize (recB ks vs e).take m = c at hg hlm h12
  rw [recGood_iff, recN_eq] at hg
  obtain ⟨_, g2, _, g4, _⟩ := hg
  obtain ⟨⟨k1, k2⟩, ⟨v1, v2⟩, ⟨e1, e2⟩⟩ := packErr_ok h
  obtain ⟨p1, p2, p3, p4, p5⟩ := recSize_pos g2
  rw [p5, hlm] at g4
  obtain ⟨_, q2, q3, _⟩ := heads (h12 (by omega)) ⟨by omega, by omega⟩ ⟨by omega, by omega⟩ ⟨e1, e2⟩
  rw [q2, q3] at g4
  omega
end Go.Proofs.Ytdpjhcdkiddplaa

/-
  What was built to a sector is read of it.
  Conditions: none.
-/
import Derived.Test.YtopjadmjahpeoaaLeaf5
namespace Go.Proofs.Ytopjadmjahpeoaa
open Go.RowKit

theorem num_back (k : Nat) (i : Int) (hk : k ≤ 8) (h0 : 0 ≤ i) (h1 : i < ((256 ^ k : Nat) : Int)) (h2 : i < 9223372036854775808) : wrap64 (U (leOf (leI k i))) = i := by
  obtain ⟨n, rfl⟩ := Int.eq_ofNat_of_zero_le h0
  have e : (leOf (leI k n)).toNat = n := by
    rw [leOf_toNat _ (by rw [leI_len]; simpa using hk)]
    unfold leI
    rw [leNat_leB, BitVec.toNat_ofInt]
    simp only [Int.toNat_natCast]
    have h1' : n < 256 ^ k := by exact_mod_cast h1
    have h2' : n < 9223372036854775808 := by omega
    have e2 : ((n : Int) % ((2 ^ 64 : Nat) : Int)).toNat = n := by omega
    rw [e2, Nat.mod_eq_of_lt h1']
  unfold U
  rw [e]
  unfold wrap64
  omega
theorem leaf_form (size kd pl st : Int) (ld : List (BitVec 8)) : leafB size kd pl st ld = leI 1 kd ++ (leI 2 ld.length ++ (leI 4 pl ++ (leI 8 st ++ (ld ++ (List.replicate (size - 19 - ld.length).toNat 0#8 ++ leI 4 (U (Crc.crcAdd 0#32 (leafBody size kd pl st ld)))))))) := by
  unfold leafB leafBody
  simp only [List.append_assoc, List.nil_append]
theorem drop_app {α : Type} {xs ys : List α} (n k : Nat) (h : xs.length = n) : (xs ++ ys).drop (n + k) = ys.drop k := by
  subst h; rw [← List.drop_drop, List.drop_left]
theorem seem_built {size kd pl st : Int} {ld : List (BitVec 8)} (h : buildErr size kd pl st ld.length = 0) (hst : st ≤ 9223372036854775807) : seem (leafB size kd pl st ld) = ⟨kd, pl, st, ld⟩ := by
  have hs : sizeB size = true := by
    cases hs : sizeB size with
    | true => rfl
    | false => exact absurd h (by unfold buildErr; rw [hs, if_neg (by decide)]; decide)
  have hp : kindB kd = true ∧ 0 ≤ pl ∧ pl ≤ 2147483647 ∧ 0 ≤ st := by
    by_cases hp : kindB kd = true ∧ 0 ≤ pl ∧ pl ≤ 2147483647 ∧ 0 ≤ st
    · exact hp
    · exact absurd h (by unfold buildErr; rw [hs, if_pos rfl, if_neg hp]; decide)
  have hm : (ld.length : Int) ≤ size - 19 := by
    by_cases hm : size - 19 < ld.length
    · exact absurd h (by unfold buildErr; rw [hs, if_pos rfl, if_pos hp, if_pos hm]; decide)
    · omega
  obtain ⟨hk, p1, p2, p3⟩ := hp
  obtain ⟨s1, s2⟩ : 96 ≤ size ∧ size ≤ 512 := by simpa [sizeB] using hs
  obtain ⟨k1, k2⟩ : 1 ≤ kd ∧ kd ≤ 4 := by simpa [kindB] using hk
  have b1 : wrap64 (U (leOf (leI 1 kd))) = kd := num_back 1 kd (by omega) (by omega) (by omega) (by omega)
  have b2 : wrap64 (U (leOf (leI 2 ld.length))) = ld.length := num_back 2 ld.length (by omega) (by omega) (by omega) (by omega)
  have b3 : wrap64 (U (leOf (leI 4 pl))) = pl := num_back 4 pl (by omega) p1 (by omega) (by omega)
  have b4 : wrap64 (U (leOf (leI 8 st))) = st := num_back 8 st (by omega) p3 (by omega) (by omega)
  obtain ⟨tl, htl⟩ : ∃ tl, (List.replicate (size - 19 - ld.length).toNat 0#8 ++ leI 4 (U (Crc.crcAdd 0#32 (leafBody size kd pl st ld)))) = tl := ⟨_, rfl⟩
  have l1 : (leI 1 kd).length = 1 := leI_len _ _
  have l2 : (leI 2 (ld.length : Int)).length = 2 := leI_len _ _
  have l3 : (leI 4 pl).length = 4 := leI_len _ _
  have l4 : (leI 8 st).length = 8 := leI_len _ _
  have e := leaf_form size kd pl st ld
  rw [htl] at e
  unfold seem
  rw [e]
  have t1 : (leI 1 kd ++ (leI 2 ld.length ++ (leI 4 pl ++ (leI 8 st ++ (ld ++ tl))))).take 1 = leI 1 kd := List.take_left' l1
  have t2 : ((leI 1 kd ++ (leI 2 ld.length ++ (leI 4 pl ++ (leI 8 st ++ (ld ++ tl))))).drop 1).take 2 = leI 2 ld.length := by
    rw [List.drop_left' l1, List.take_left' l2]
  have t3 : ((leI 1 kd ++ (leI 2 ld.length ++ (leI 4 pl ++ (leI 8 st ++ (ld ++ tl))))).drop 3).take 4 = leI 4 pl := by
    rw [show (3 : Nat) = 1 + 2 from rfl, drop_app 1 2 l1, List.drop_left' l2, List.take_left' l3]
  have t4 : ((leI 1 kd ++ (leI 2 ld.length ++ (leI 4 pl ++ (leI 8 st ++ (ld ++ tl))))).drop 7).take 8 = leI 8 st := by
    rw [show (7 : Nat) = 1 + (2 + 4) from rfl, drop_app 1 (2 + 4) l1, drop_app 2 4 l2, List.drop_left' l3, List.take_left' l4]
  have t5 : (leI 1 kd ++ (leI 2 ld.length ++ (leI 4 pl ++ (leI 8 st ++ (ld ++ tl))))).drop 15 = ld ++ tl := by
    rw [show (15 : Nat) = 1 + (2 + (4 + 8)) from rfl, drop_app 1 (2 + (4 + 8)) l1, drop_app 2 (4 + 8) l2, drop_app 4 8 l3, List.drop_left' l4]
  rw [t1, t2, t3, t4, t5, b1, b2, b3, b4]
  have t6 : tookN (ld ++ tl) true ld.length = some ld.length := by simp [tookN]; omega
  rw [t6]
  show LeafP.mk kd pl st ((ld ++ tl).take ld.length) = _
  rw [List.take_left]
theorem read_built {size kd pl st : Int} {ld : List (BitVec 8)} (h : buildErr size kd pl st ld.length = 0) (hst : st ≤ 9223372036854775807) : readErr (leafB size kd pl st ld) = 0 ∧ readL (leafB size kd pl st ld) = ⟨kd, pl, st, ld⟩ ∧ ((leafB size kd pl st ld).length : Int) = size := by
  have hs : sizeB size = true := by
    cases hs : sizeB size with
    | true => rfl
    | false => exact absurd h (by unfold buildErr; rw [hs, if_neg (by decide)]; decide)
  have hm : (ld.length : Int) ≤ size - 19 := by
    by_cases hp : kindB kd = true ∧ 0 ≤ pl ∧ pl ≤ 2147483647 ∧ 0 ≤ st
    · by_cases hm : size - 19 < ld.length
      · exact absurd h (by unfold buildErr; rw [hs, if_pos rfl, if_pos hp, if_pos hm]; decide)
      · omega
    · exact absurd h (by unfold buildErr; rw [hs, if_pos rfl, if_neg hp]; decide)
  have hl := leafB_len kd pl st hm
  have e := seem_built h hst
  have hr : readErr (leafB size kd pl st ld) = 0 := by
    unfold readErr
    rw [hl, hs, e, if_pos rfl, if_pos ⟨h, rfl⟩]
  refine ⟨hr, ?_, hl⟩
  unfold readL
  rw [hr, if_pos rfl, e]
end Go.Proofs.Ytopjadmjahpeoaa

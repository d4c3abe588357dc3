/-
  sketch: bytes that are read are written again as they were.
  Conditions: none.
-/
import Derived.Test.YtalgkiagdjckiaaSk12
namespace Go.Proofs.Ytalgkiagdjckiaa
open Go.RowKit

theorem leB_cons (k : Nat) (x : BitVec 64) : leB (k + 1) x = x.setWidth 8 :: leB k (x >>> 8) := by
  unfold leB
  rw [List.range_succ_eq_map, List.map_cons, List.map_map]
  congr 1
  refine List.map_congr_left fun i _ => ?_
  show (x >>> (8 * (i + 1))).setWidth 8 = ((x >>> 8) >>> (8 * i)).setWidth 8
  rw [← BitVec.shiftRight_add]
  congr 2
  omega
theorem leB_leNat : ∀ (xs : List (BitVec 8)) (k : Nat), xs.length = k → k ≤ 8 → leB k (BitVec.ofNat 64 (leNat xs)) = xs
  | [], k, h, _ => by subst h; rfl
  | b :: bs, k, h, hk => by
    obtain ⟨m, rfl⟩ : ∃ m, k = m + 1 := ⟨bs.length, by rw [← h]; rfl⟩
    have hm : bs.length = m := by simpa using h
    have hlt := leNat_lt bs
    rw [hm] at hlt
    have hp : 256 ^ m ≤ 256 ^ 7 := Nat.pow_le_pow_right (by decide) (by omega)
    have hp2 : (256 : Nat) ^ 7 = 72057594037927936 := by decide
    have hb := b.isLt
    rw [leB_cons, leNat]
    have e1 : (BitVec.ofNat 64 (b.toNat + 256 * leNat bs)).setWidth 8 = b := by
      apply BitVec.eq_of_toNat_eq
      rw [BitVec.toNat_setWidth, BitVec.toNat_ofNat]
      omega
    have e2 : (BitVec.ofNat 64 (b.toNat + 256 * leNat bs)) >>> 8 = BitVec.ofNat 64 (leNat bs) := by
      apply BitVec.eq_of_toNat_eq
      rw [BitVec.toNat_ushiftRight, BitVec.toNat_ofNat, BitVec.toNat_ofNat, Nat.shiftRight_eq_div_pow]
      omega
    rw [e1, e2, leB_leNat bs m hm (by omega)]
theorem pkB_cnt (bs : List (BitVec 8)) {M r j : Nat} (hr : r < 4) (hj : j < M) : pkB (cnTo bs M 4 0) r j = bs[r * M + j]?.getD 0 := by
  unfold pkB cnTo cntB
  rw [if_pos (show r < 4 ∧ 2 * j < 2 * M ∧ (r < 4 ∨ r = 4 ∧ 2 * j < 2 * 0) from ⟨hr, by omega, .inl hr⟩), if_pos (show r < 4 ∧ 2 * j + 1 < 2 * M ∧ (r < 4 ∨ r = 4 ∧ 2 * j + 1 < 2 * 0) from ⟨hr, by omega, .inl hr⟩), if_pos (show 2 * j % 2 = 0 by omega), if_neg (show ¬ (2 * j + 1) % 2 = 0 by omega), show 2 * j / 2 = j by omega, show (2 * j + 1) / 2 = j by omega]
  apply BitVec.eq_of_toNat_eq
  rw [BitVec.toNat_ofNat]
  have := (bs[r * M + j]?.getD 0).isLt
  omega
theorem pkTo_cnt (bs : List (BitVec 8)) {M : Nat} (h : bs.length = 4 * M) : ∀ r, r ≤ 4 → pkTo (cnTo bs M 4 0) M r = bs.take (r * M)
  | 0, _ => by simp [pkTo]
  | r + 1, hr => by
    rw [pkTo, pkTo_cnt bs h r (by omega), Nat.succ_mul, List.take_add]
    congr 1
    have hle : (r + 1) * M ≤ 4 * M := Nat.mul_le_mul_right M hr
    rw [Nat.succ_mul] at hle
    refine List.ext_getElem (by rw [pkRow_len, List.length_take, List.length_drop]; omega) fun i h1 h2 => ?_
    have hi : i < M := by rwa [pkRow_len] at h1
    simp only [pkRow, List.getElem_map, List.getElem_range, List.getElem_take, List.getElem_drop]
    rw [pkB_cnt bs (by omega) hi]
    have hlt : r * M + i < bs.length := by omega
    simp [hlt]
/-- A sketch is written as it was read. -/
theorem packS_un {bs : List (BitVec 8)} (h : UnOk bs) : packS (unW bs) (unA bs) (cnTo (bs.drop 6) (unW bs / 2) 4 0) = bs := by
  obtain ⟨h6, hw, _, hl⟩ := h
  obtain ⟨M, hM, _, _⟩ := hw.even
  have eM : unW bs / 2 = M := by omega
  rw [packS, eM, pkTo_cnt _ (by rw [List.length_drop]; omega) 4 (by decide), pkHead]
  unfold unW unA
  rw [leB_leNat _ 2 (by rw [List.length_take]; omega) (by decide), leB_leNat _ 4 (by rw [List.length_take, List.length_drop]; omega) (by decide)]
  rw [List.take_of_length_le (l := bs.drop 6) (by rw [List.length_drop]; omega)]
  rw [← List.take_add, List.take_append_drop]
end Go.Proofs.Ytalgkiagdjckiaa

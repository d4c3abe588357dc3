/-
  Which leaf bytes are the sector of, as the document reads them.
  Conditions: none.
-/
import Derived.Test.YtiibpkncdflfcaaJL2
namespace Go.Proofs.Ytiibpkncdflfcaa
open Go.RowKit

/-- The numbers of a sector. -/
def secK (bs : List (BitVec 8)) : Nat := (bs[0]?.getD 0).toNat
def secN (bs : List (BitVec 8)) : Nat := (leOf ((bs.drop 1).take 2)).toNat
def secP (bs : List (BitVec 8)) : Nat := (leOf ((bs.drop 3).take 4)).toNat
def secS (bs : List (BitVec 8)) : Nat := (leOf ((bs.drop 7).take 8)).toNat
theorem leOf_le (bs : List (BitVec 8)) (k : Nat) (h : bs.length ≤ k) (hk : k ≤ 8) : (leOf bs).toNat < 256 ^ k := by
  rw [leOf_toNat bs (by omega)]
  exact Nat.lt_of_lt_of_le (leNat_lt bs) (Nat.pow_le_pow_right (by decide) h)
theorem secN_lt (bs : List (BitVec 8)) : secN bs < 65536 := leOf_le _ 2 (by rw [List.length_take]; omega) (by omega)
theorem secP_lt (bs : List (BitVec 8)) : secP bs < 4294967296 := leOf_le _ 4 (by rw [List.length_take]; omega) (by omega)
theorem secS_lt (bs : List (BitVec 8)) : secS bs < 18446744073709551616 := leOf_le _ 8 (by rw [List.length_take]; omega) (by omega)
theorem secK_lt (bs : List (BitVec 8)) : secK bs < 256 := (bs[0]?.getD 0).isLt
theorem one_le (b : BitVec 8) : (leOf [b]).toNat = b.toNat := by
  rw [leOf_toNat [b] (by simp)]
  simp [leNat]
theorem seem_kind (bs : List (BitVec 8)) (h : 1 ≤ bs.length) : (seem bs).kind = secK bs := by
  match bs, h with
  | b :: l, _ =>
    show wrap64 (U (leOf [b])) = _
    unfold U
    rw [one_le]
    show wrap64 (b.toNat : Int) = (b.toNat : Int)
    have := b.isLt
    unfold wrap64; omega
theorem seem_place (bs : List (BitVec 8)) : (seem bs).place = secP bs := by
  show wrap64 (secP bs : Int) = _
  have := secP_lt bs
  unfold wrap64; omega
theorem seem_stamp (bs : List (BitVec 8)) (h : secS bs ≤ 9223372036854775807) : (seem bs).stamp = secS bs := by
  show wrap64 (secS bs : Int) = _
  unfold wrap64; omega
theorem seem_stamp_neg (bs : List (BitVec 8)) (h : 9223372036854775807 < secS bs) : (seem bs).stamp < 0 := by
  show wrap64 (secS bs : Int) < 0
  have := secS_lt bs
  unfold wrap64; omega
theorem seem_load (bs : List (BitVec 8)) (h : secN bs + 15 ≤ bs.length) : (seem bs).load = (bs.drop 15).take (secN bs) := by
  have e : wrap64 (U (leOf ((bs.drop 1).take 2))) = (secN bs : Int) := by
    show wrap64 (secN bs : Int) = _
    have := secN_lt bs
    unfold wrap64; omega
  show takenB (bs.drop 15) (tookN (bs.drop 15) true (wrap64 (U (leOf ((bs.drop 1).take 2))))) = _
  rw [e]
  have : tookN (bs.drop 15) true (secN bs : Int) = some (secN bs) := by simp [tookN]; omega
  rw [this]
  rfl
/-- What the document reads. -/
theorem read_long (bs : List (BitVec 8)) (hs : sizeB bs.length = true) (h : (bs.length : Int) - 19 < secN bs) : readErr bs = 5 := by
  unfold readErr
  rw [if_pos hs, if_neg]
  rintro ⟨h1, h2⟩
  have hst : (seem bs).stamp ≤ 9223372036854775807 := by
    show wrap64 _ ≤ _
    unfold wrap64; omega
  have hm : ((seem bs).load.length : Int) ≤ (bs.length : Int) - 19 := by
    have hp : kindB (seem bs).kind = true ∧ 0 ≤ (seem bs).place ∧ (seem bs).place ≤ 2147483647 ∧ 0 ≤ (seem bs).stamp := by
      by_cases hp : kindB (seem bs).kind = true ∧ 0 ≤ (seem bs).place ∧ (seem bs).place ≤ 2147483647 ∧ 0 ≤ (seem bs).stamp
      · exact hp
      · exact absurd h1 (by unfold buildErr; rw [if_pos hs, if_neg hp]; decide)
    by_cases hm : (bs.length : Int) - 19 < (seem bs).load.length
    · exact absurd h1 (by unfold buildErr; rw [if_pos hs, if_pos hp, if_pos hm]; decide)
    · omega
  have h512 : (bs.length : Int) ≤ 512 := by
    have : 96 ≤ (bs.length : Int) ∧ (bs.length : Int) ≤ 512 := by simpa [sizeB] using hs
    exact this.2
  have e : (bs.drop 1).take 2 = leI 2 (seem bs).load.length := by
    generalize seem bs = y at h2
    have l1 : (leI 1 y.kind).length = 1 := leI_len _ _
    have l2 : (leI 2 (y.load.length : Int)).length = 2 := leI_len _ _
    have := leaf_form bs.length y.kind y.place y.stamp y.load
    rw [h2] at this
    rw [this, List.drop_left' l1, List.take_left' l2]
  have hb : wrap64 (U (leOf (leI 2 (seem bs).load.length))) = (seem bs).load.length := num_back 2 (seem bs).load.length (by omega) (by omega) (by omega) (by omega)
  rw [← e] at hb
  have e2 : wrap64 (U (leOf ((bs.drop 1).take 2))) = (secN bs : Int) := by
    show wrap64 (secN bs : Int) = _
    have := secN_lt bs
    unfold wrap64; omega
  rw [e2] at hb
  omega
theorem read_neg (bs : List (BitVec 8)) (hs : sizeB bs.length = true) (h : 9223372036854775807 < secS bs) : readErr bs = 5 := by
  unfold readErr
  rw [if_pos hs, if_neg]
  rintro ⟨h1, _⟩
  have := seem_stamp_neg bs h
  exact absurd h1 (by unfold buildErr; rw [if_pos hs, if_neg (fun hp => by have := hp.2.2.2; omega)]; decide)
/-- The leaf that is looked at. -/
def secL (bs : List (BitVec 8)) : LeafP := ⟨secK bs, secP bs, secS bs, (bs.drop 15).take (secN bs)⟩
theorem seem_secL (bs : List (BitVec 8)) (hl : (secN bs : Int) ≤ (bs.length : Int) - 19) (h1 : secS bs ≤ 9223372036854775807) : seem bs = secL bs := by
  have e1 := seem_kind bs (by omega)
  have e2 := seem_place bs
  have e3 := seem_stamp bs h1
  have e4 := seem_load bs (by omega)
  unfold secL
  rw [← e1, ← e2, ← e3, ← e4]
end Go.Proofs.Ytiibpkncdflfcaa

/-
  Plain mathematics of numbers as bytes, the lowest first.
  Conditions: none.
-/
import Derived.Test.YtalgkiagdjckiaaBase
namespace Go.Proofs.Ytalgkiagdjckiaa

/-- A number's bytes, the lowest first. -/
def leB (k : Nat) (x : BitVec 64) : List (BitVec 8) := (List.range k).map fun i => (x >>> (8 * i)).setWidth 8
theorem leB_succ (k : Nat) (x : BitVec 64) : leB (k + 1) x = leB k x ++ [(x >>> (8 * k)).setWidth 8] := by simp [leB, List.range_succ]
theorem leB_len (k : Nat) (x : BitVec 64) : (leB k x).length = k := by simp [leB]

/-- The number of the first j of bytes, the lowest first. -/
def leAcc (bs : List (BitVec 8)) (j : Nat) : BitVec 64 := (List.range j).foldl (fun a i => a ||| ((bs[i]?.getD 0).setWidth 64) <<< (8 * i)) 0#64
theorem leAcc_succ (bs : List (BitVec 8)) (j : Nat) : leAcc bs (j + 1) = leAcc bs j ||| ((bs[j]?.getD 0).setWidth 64) <<< (8 * j) := by simp [leAcc, List.range_succ]
def leOf (bs : List (BitVec 8)) : BitVec 64 := leAcc bs bs.length


/-- The number of bytes, as a plain number. -/
def leNat : List (BitVec 8) → Nat
  | [] => 0
  | b :: bs => b.toNat + 256 * leNat bs
theorem leNat_append (xs ys : List (BitVec 8)) : leNat (xs ++ ys) = leNat xs + 256 ^ xs.length * leNat ys := by
  induction xs with
  | nil => simp [leNat]
  | cons b xs ih =>
    rw [List.cons_append, leNat, ih, leNat, List.length_cons, Nat.pow_succ, Nat.mul_add, Nat.mul_comm (256 ^ xs.length) 256, Nat.mul_assoc, Nat.add_assoc]
theorem leNat_lt (xs : List (BitVec 8)) : leNat xs < 256 ^ xs.length := by
  induction xs with
  | nil => simp [leNat]
  | cons b xs ih =>
    rw [leNat, List.length_cons, Nat.pow_succ]
    have := b.isLt
    omega
theorem leAcc_toNat (bs : List (BitVec 8)) (j : Nat) (hj : j ≤ bs.length) (h8 : j ≤ 8) : (leAcc bs j).toNat = leNat (bs.take j) := by
  induction j with
  | zero => simp [leAcc, leNat]
  | succ j ih =>
    have hlt : j < bs.length := by omega
    have e : bs.take (j + 1) = bs.take j ++ [bs[j]?.getD 0] := by
      rw [List.take_succ_eq_append_getElem hlt]
      simp [hlt]
    have hb := leNat_lt (bs.take j)
    have hlen : (bs.take j).length = j := by rw [List.length_take]; omega
    rw [hlen] at hb
    rw [leAcc_succ, e, leNat_append, BitVec.toNat_or, ih (by omega) (by omega), hlen]
    generalize bs[j]?.getD 0 = b
    have hb8 := b.isLt
    have hp : (256 : Nat) ^ j = 2 ^ (8 * j) := by rw [Nat.pow_mul]
    have hsh : ((b.setWidth 64) <<< (8 * j)).toNat = b.toNat <<< (8 * j) := by
      have hb64 : b.toNat % 2 ^ 64 = b.toNat := Nat.mod_eq_of_lt (by omega)
      rw [BitVec.toNat_shiftLeft, BitVec.toNat_setWidth, hb64, Nat.shiftLeft_eq]
      refine Nat.mod_eq_of_lt ?_
      calc b.toNat * 2 ^ (8 * j) < 2 ^ 8 * 2 ^ (8 * j) := Nat.mul_lt_mul_of_pos_right hb8 (Nat.two_pow_pos _)
        _ = 2 ^ (8 + 8 * j) := by rw [Nat.pow_add]
        _ ≤ 2 ^ 64 := Nat.pow_le_pow_right (by decide) (by omega)
    rw [hp] at hb ⊢
    rw [hsh, Nat.or_comm, ← Nat.shiftLeft_add_eq_or_of_lt hb, Nat.shiftLeft_eq]
    simp only [leNat, Nat.mul_zero, Nat.add_zero]
    rw [Nat.mul_comm, Nat.add_comm]
theorem leOf_toNat (bs : List (BitVec 8)) (h : bs.length ≤ 8) : (leOf bs).toNat = leNat bs := by
  unfold leOf
  rw [leAcc_toNat bs _ (Nat.le_refl _) h, List.take_length]
theorem leNat_leB (k : Nat) (x : BitVec 64) : leNat (leB k x) = x.toNat % 256 ^ k := by
  induction k with
  | zero => simp [leB, leNat, Nat.mod_one]
  | succ k ih =>
    rw [leB_succ, leNat_append, ih, leB_len]
    simp only [leNat, Nat.mul_zero, Nat.add_zero]
    have e : (256 : Nat) ^ k = 2 ^ (8 * k) := by rw [Nat.pow_mul]
    have e2 : (256 : Nat) ^ (k + 1) = 2 ^ (8 * k) * 256 := by rw [Nat.pow_succ, e]
    rw [BitVec.toNat_setWidth, BitVec.toNat_ushiftRight, Nat.shiftRight_eq_div_pow, e2, e, Nat.mod_mul]

/-- The number of bytes, from the last one on. -/
def refOf : List (BitVec 8) → BitVec 64
  | [] => 0#64
  | b :: bs => 256#64 * refOf bs + b.setWidth 64
theorem refOf_toNat (bs : List (BitVec 8)) : (refOf bs).toNat = leNat bs % 2 ^ 64 := by
  induction bs with
  | nil => simp [refOf, leNat]
  | cons b bs ih =>
    rw [refOf, leNat, BitVec.toNat_add, BitVec.toNat_mul, ih, BitVec.toNat_setWidth]
    have := b.isLt
    simp only [BitVec.toNat_ofNat]
    omega
theorem refOf_eq (bs : List (BitVec 8)) (h : bs.length ≤ 8) : refOf bs = leOf bs := by
  apply BitVec.eq_of_toNat_eq
  rw [refOf_toNat, leOf_toNat bs h]
  have h1 := leNat_lt bs
  have h2 : 256 ^ bs.length ≤ 256 ^ 8 := Nat.pow_le_pow_right (by decide) h
  exact Nat.mod_eq_of_lt (by omega)

end Go.Proofs.Ytalgkiagdjckiaa

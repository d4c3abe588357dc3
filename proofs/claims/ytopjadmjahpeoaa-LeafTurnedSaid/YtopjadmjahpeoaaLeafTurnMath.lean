/-
  Plain mathematics: two sectors of leaves that differ within 32 bits in a row are one.
  Conditions: none.
-/
import Derived.Test.YtopjadmjahpeoaaLeafMath
import Derived.Test.YtopjadmjahpeoaaCrcBurstMathL
namespace Go.Proofs.Ytopjadmjahpeoaa
open Go.RowKit

/-- The four bytes of a word. -/
def bytes4 (c : BitVec 32) : List (BitVec 8) := [c.setWidth 8, (c >>> 8).setWidth 8, (c >>> 16).setWidth 8, (c >>> 24).setWidth 8]
theorem leI_word (c : BitVec 32) : leI 4 (U c) = bytes4 c := by
  have hx : (BitVec.ofInt 64 (U c)).toNat = c.toNat := by
    have := c.isLt
    unfold U
    rw [BitVec.toNat_ofInt]
    omega
  have key : ∀ i : Nat, ((BitVec.ofInt 64 (U c)) >>> i).setWidth 8 = (c >>> i).setWidth 8 := fun i => by
    apply BitVec.eq_of_toNat_eq
    rw [BitVec.toNat_setWidth, BitVec.toNat_setWidth, BitVec.toNat_ushiftRight, BitVec.toNat_ushiftRight, hx]
  show (List.range 4).map (fun i => ((BitVec.ofInt 64 (U c)) >>> (8 * i)).setWidth 8) = bytes4 c
  simp only [show List.range 4 = [0, 1, 2, 3] from rfl, List.map_cons, List.map_nil, key, Nat.mul_zero, BitVec.ushiftRight_zero]
  rfl
theorem step_self (s : BitVec 32) : Crc.stepB s (s.setWidth 8) = s >>> 8 := by
  unfold Crc.stepB
  rw [BitVec.xor_self, show tab 0#8 = 0#32 by decide, BitVec.xor_zero]
theorem run_self (s : BitVec 32) : Crc.runB s (bytes4 s) = 0#32 := by
  show Crc.stepB (Crc.stepB (Crc.stepB (Crc.stepB s (s.setWidth 8)) ((s >>> 8).setWidth 8)) ((s >>> 16).setWidth 8)) ((s >>> 24).setWidth 8) = 0#32
  rw [step_self, step_self, show s >>> 8 >>> 8 = s >>> 16 by rw [← BitVec.shiftRight_add], step_self, show s >>> 16 >>> 8 = s >>> 24 by rw [← BitVec.shiftRight_add], step_self]
  apply BitVec.eq_of_toNat_eq
  have := s.isLt
  rw [BitVec.toNat_ushiftRight, BitVec.toNat_ushiftRight, Nat.shiftRight_eq_div_pow, Nat.shiftRight_eq_div_pow]
  simp
  omega
def ones4 : List (BitVec 8) := [255#8, 255#8, 255#8, 255#8]
theorem byte_not (s : BitVec 32) (i : Nat) (hi : i ≤ 24) : ((~~~ s) >>> i).setWidth 8 = (s >>> i).setWidth 8 ^^^ 255#8 := by
  apply BitVec.eq_of_getLsbD_eq
  intro j hj
  rw [BitVec.getLsbD_xor, BitVec.getLsbD_setWidth, BitVec.getLsbD_setWidth, BitVec.getLsbD_ushiftRight, BitVec.getLsbD_ushiftRight, BitVec.getLsbD_not]
  have h1 : decide (j < 8) = true := by simpa using hj
  have h2 : decide (i + j < 32) = true := by simp; omega
  have h3 : (255#8).getLsbD j = true := by
    have : ∀ j < 8, (255#8).getLsbD j = true := by decide
    exact this j hj
  rw [h1, h2, h3]
  simp
theorem bytes_not (s : BitVec 32) : bytes4 (~~~ s) = List.zipWith (· ^^^ ·) (bytes4 s) ones4 := by
  have h0 := byte_not s 0 (by omega)
  rw [BitVec.ushiftRight_zero, BitVec.ushiftRight_zero] at h0
  unfold bytes4 ones4
  rw [h0, byte_not s 8 (by omega), byte_not s 16 (by omega), byte_not s 24 (by omega)]
  rfl
theorem run_own (s : BitVec 32) : Crc.runB s (bytes4 (~~~ s)) = Crc.runB 0#32 ones4 := by
  have h := Crc.runB_xor (bytes4 s) ones4 s 0#32 rfl
  rw [BitVec.xor_zero, ← bytes_not, run_self, BitVec.zero_xor] at h
  exact h
/-- Bytes behind which their check stands: what is left of them is always the same. -/
theorem run_checked (body : List (BitVec 8)) : Crc.crcAdd 0#32 (body ++ leI 4 (U (Crc.crcAdd 0#32 body))) = ~~~ (Crc.runB 0#32 ones4) := by
  unfold Crc.crcAdd
  congr 1
  rw [leI_word]
  unfold Crc.runB
  rw [List.foldl_append]
  exact run_own _
theorem readErr_form {b : List (BitVec 8)} (h : readErr b = 0) : ∃ body, b = body ++ leI 4 (U (Crc.crcAdd 0#32 body)) := by
  unfold readErr at h
  by_cases h1 : sizeB b.length = true
  · rw [if_pos h1] at h
    by_cases h2 : buildErr b.length (seem b).kind (seem b).place (seem b).stamp (seem b).load.length = 0 ∧ leafB b.length (seem b).kind (seem b).place (seem b).stamp (seem b).load = b
    · exact ⟨leafBody b.length (seem b).kind (seem b).place (seem b).stamp (seem b).load, h2.2.symm⟩
    · rw [if_neg h2] at h; exact absurd h (by decide)
  · rw [if_neg h1] at h; exact absurd h (by decide)
/-- Two sectors of leaves that differ within 32 bits in a row are one. -/
theorem turned_same {b c : List (BitVec 8)} (hb : readErr b = 0) (hc : readErr c = 0) (hlen : c.length = b.length) (k : Nat)
    (hd : ∀ p, p < 8 * b.length → ((c[p / 8]?.getD 0) ^^^ (b[p / 8]?.getD 0)).getLsbD (p % 8) = true → k ≤ p ∧ p < k + 32) : c = b := by
  obtain ⟨x, hx⟩ := readErr_form hb
  obtain ⟨y, hy⟩ := readErr_form hc
  refine Crc.burst_same b c k 0#32 hlen hd ?_
  have h1 := run_checked x
  have h2 := run_checked y
  rw [← hx] at h1
  rw [← hy] at h2
  rw [h1, h2]
end Go.Proofs.Ytopjadmjahpeoaa

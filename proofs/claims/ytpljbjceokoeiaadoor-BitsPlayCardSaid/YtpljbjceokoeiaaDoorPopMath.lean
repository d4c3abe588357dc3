/-
  How many bits of a word are set, by sums in parallel.
  Conditions: none.
-/
import Derived.Test.YtpljbjceokoeiaaDoorBase
namespace Go.Proofs.YtpljbjceokoeiaaDoor.Pop
/-- The set bits of a byte. -/
def pop8 (b : Nat) : Nat := (List.range 8).countP fun i => b.testBit i
def m0 : Nat → Nat | 0 => 0 | n + 1 => 0x55 + 256 * m0 n
def m1 : Nat → Nat | 0 => 0 | n + 1 => 0x33 + 256 * m1 n
def m2 : Nat → Nat | 0 => 0 | n + 1 => 0x0f + 256 * m2 n
def s1 (b : Nat) : Nat := (b / 2 &&& 0x55) + (b &&& 0x55)
def s2 (b : Nat) : Nat := (b / 4 &&& 0x33) + (b &&& 0x33)
def s3 (b : Nat) : Nat := (b / 16 + b) &&& 0x0f
def S1 (n x : Nat) : Nat := (x / 2 &&& m0 n) + (x &&& m0 n)
def S2 (n x : Nat) : Nat := (x / 4 &&& m1 n) + (x &&& m1 n)
def S3 (n x : Nat) : Nat := (x / 16 + x) &&& m2 n
theorem and_split (x m c : Nat) (hc : c < 256) : x &&& (c + 256 * m) = (x % 256 &&& c) + 256 * (x / 256 &&& m) := by
  have h1 : (x &&& (c + 256 * m)) % 256 = x % 256 &&& c := by
    have := Nat.and_mod_two_pow (a := x) (b := c + 256 * m) (n := 8)
    rw [show (2 : Nat) ^ 8 = 256 from rfl] at this
    rw [this]; congr 1; omega
  have h2 : (x &&& (c + 256 * m)) / 256 = x / 256 &&& m := by
    have := Nat.shiftRight_and_distrib (i := 8) (a := x) (b := c + 256 * m)
    simp only [Nat.shiftRight_eq_div_pow] at this
    rw [show (2 : Nat) ^ 8 = 256 from rfl] at this
    rw [this]; congr 1; omega
  omega
theorem k1 : ∀ y, y < 512 → ((y / 2) % 256 &&& 0x55) = ((y % 256) / 2 &&& 0x55) := by decide +kernel
theorem k2 : ∀ y, y < 1024 → ((y / 4) % 256 &&& 0x33) = ((y % 256) / 4 &&& 0x33) := by decide +kernel
theorem S1_step (n x : Nat) : S1 (n + 1) x = s1 (x % 256) + 256 * S1 n (x / 256) := by
  unfold S1 s1
  show (x / 2 &&& (0x55 + 256 * m0 n)) + (x &&& (0x55 + 256 * m0 n)) = _
  rw [and_split _ _ _ (by decide), and_split _ _ _ (by decide)]
  have e : (x / 2) % 256 &&& 0x55 = (x % 256) / 2 &&& 0x55 := by
    have := k1 (x % 512) (Nat.mod_lt _ (by decide))
    rw [show (x % 512) / 2 % 256 = x / 2 % 256 by omega, show x % 512 % 256 = x % 256 by omega] at this
    exact this
  rw [e, show x / 2 / 256 = x / 256 / 2 by omega]
  omega
theorem S2_step (n x : Nat) : S2 (n + 1) x = s2 (x % 256) + 256 * S2 n (x / 256) := by
  unfold S2 s2
  show (x / 4 &&& (0x33 + 256 * m1 n)) + (x &&& (0x33 + 256 * m1 n)) = _
  rw [and_split _ _ _ (by decide), and_split _ _ _ (by decide)]
  have e : (x / 4) % 256 &&& 0x33 = (x % 256) / 4 &&& 0x33 := by
    have := k2 (x % 1024) (Nat.mod_lt _ (by decide))
    rw [show (x % 1024) / 4 % 256 = x / 4 % 256 by omega, show x % 1024 % 256 = x % 256 by omega] at this
    exact this
  rw [e, show x / 4 / 256 = x / 256 / 4 by omega]
  omega
theorem b1 : ∀ b, b < 256 → s1 b < 256 ∧ s2 (s1 b) < 256 ∧ s2 (s1 b) % 16 ≤ 4 ∧ s2 (s1 b) / 16 ≤ 4 ∧ s3 (s2 (s1 b)) = pop8 b ∧ pop8 b ≤ 8 := by decide +kernel
theorem and15 (x : Nat) : x &&& 15 = x % 16 := Nat.and_two_pow_sub_one_eq_mod x 4
/-- The sums of bytes, as digits. -/
def P : Nat → Nat → Nat | 0, _ => 0 | n + 1, x => pop8 (x % 256) + 256 * P n (x / 256)
theorem S_all (n : Nat) : ∀ x, S2 n (S1 n x) % 16 ≤ 4 ∧ S3 n (S2 n (S1 n x)) = P n x := by
  induction n with
  | zero => intro x; simp [S2, S3, m1, m2, P]
  | succ n ih =>
    intro x
    obtain ⟨h1, h2⟩ := ih (x / 256)
    obtain ⟨a1, a2, a3, a4, a5, a6⟩ := b1 (x % 256) (Nat.mod_lt _ (by decide))
    have e1 : S1 (n + 1) x % 256 = s1 (x % 256) := by rw [S1_step]; omega
    have e2 : S1 (n + 1) x / 256 = S1 n (x / 256) := by rw [S1_step]; omega
    have e3 : S2 (n + 1) (S1 (n + 1) x) = s2 (s1 (x % 256)) + 256 * S2 n (S1 n (x / 256)) := by rw [S2_step, e1, e2]
    rw [e3]
    refine ⟨by omega, ?_⟩
    generalize S2 n (S1 n (x / 256)) = Z at h1 h2 ⊢
    show ((s2 (s1 (x % 256)) + 256 * Z) / 16 + (s2 (s1 (x % 256)) + 256 * Z)) &&& (0x0f + 256 * m2 n) = pop8 (x % 256) + 256 * P n (x / 256)
    rw [and_split _ _ _ (by decide), ← a5, ← h2]
    unfold S3 s3
    generalize s2 (s1 (x % 256)) = t at a2 a3 a4
    have f1 : ((t + 256 * Z) / 16 + (t + 256 * Z)) / 256 = Z / 16 + Z := by omega
    have f2 : ((t + 256 * Z) / 16 + (t + 256 * Z)) % 256 &&& 0x0f = (t / 16 + t) &&& 0x0f := by
      rw [and15, and15]; omega
    rw [f1, f2]
/-- The set bits of a number of n bytes. -/
def sumP : Nat → Nat → Nat | 0, _ => 0 | n + 1, x => pop8 (x % 256) + sumP n (x / 256)
theorem lin1 (c0 c1 c2 c3 c4 c5 c6 c7 : Nat) : c0 + 256 * (c1 + 256 * (c2 + 256 * (c3 + 256 * (c4 + 256 * (c5 + 256 * (c6 + 256 * c7)))))) = (c0 + 256 * (c1 + 256 * (c2 + 256 * c3))) + 4294967296 * (c4 + 256 * (c5 + 256 * (c6 + 256 * c7))) := by omega
theorem fin4 (c0 c1 c2 c3 c4 c5 c6 c7 u v : Nat) (h0 : c0 ≤ 64) (h1 : c1 ≤ 64) (h2 : c2 ≤ 64) (h3 : c3 ≤ 64) (h4 : c4 ≤ 64) (h5 : c5 ≤ 64) (h6 : c6 ≤ 64) (h7 : c7 ≤ 64)
    (hu : u = c0 + 256 * (c1 + 256 * (c2 + 256 * (c3 + 256 * (c4 + 256 * (c5 + 256 * (c6 + 256 * c7))))))) (hv : v = u + u / 4294967296) : v % 128 = (c0 + c4) % 128 ∧ v < 18446744073709551616 := by
  rw [lin1] at hu
  have l1 : c0 + 256 * (c1 + 256 * (c2 + 256 * c3)) < 4294967296 := by omega
  have l2 : c4 + 256 * (c5 + 256 * (c6 + 256 * c7)) ≤ 1077952576 := by omega
  have q2 : u / 4294967296 = c4 + 256 * (c5 + 256 * (c6 + 256 * c7)) := by
    rw [hu, Nat.add_mul_div_left _ _ (by decide), Nat.div_eq_of_lt l1, Nat.zero_add]
  rw [q2] at hv
  clear q2
  refine ⟨?_, ?_⟩
  · subst hu; subst hv; clear l1 l2; omega
  · generalize c4 + 256 * (c5 + 256 * (c6 + 256 * c7)) = H at *
    generalize c0 + 256 * (c1 + 256 * (c2 + 256 * c3)) = L at *
    omega
theorem fin_sum (e0 e1 e2 e3 e4 e5 e6 e7 : Nat) (h0 : e0 ≤ 8) (h1 : e1 ≤ 8) (h2 : e2 ≤ 8) (h3 : e3 ≤ 8) (h4 : e4 ≤ 8) (h5 : e5 ≤ 8) (h6 : e6 ≤ 8) (h7 : e7 ≤ 8)
    (y z u v : Nat) (hy : y = e0 + 256 * (e1 + 256 * (e2 + 256 * (e3 + 256 * (e4 + 256 * (e5 + 256 * (e6 + 256 * e7)))))))
    (hz : z = y + y / 256) (hu : u = z + z / 65536) (hv : v = u + u / 4294967296) : v % 128 = e0 + e1 + e2 + e3 + e4 + e5 + e6 + e7 ∧ v < 18446744073709551616 ∧ u < 18446744073709551616 ∧ z < 18446744073709551616 := by
  have a1 : z = (e0 + e1) + 256 * ((e1 + e2) + 256 * ((e2 + e3) + 256 * ((e3 + e4) + 256 * ((e4 + e5) + 256 * ((e5 + e6) + 256 * ((e6 + e7) + 256 * e7)))))) := by omega
  have a2 : u = (e0 + e1 + e2 + e3) + 256 * ((e1 + e2 + e3 + e4) + 256 * ((e2 + e3 + e4 + e5) + 256 * ((e3 + e4 + e5 + e6) + 256 * ((e4 + e5 + e6 + e7) + 256 * ((e5 + e6 + e7) + 256 * ((e6 + e7) + 256 * e7)))))) := by
    clear hv hz hy
    subst a1; omega
  have a3 := fin4 _ _ _ _ _ _ _ _ u v (by omega) (by omega) (by omega) (by omega) (by omega) (by omega) (by omega) (by omega) a2 hv
  clear hv hu hz hy
  refine ⟨?_, a3.2, ?_, ?_⟩
  · rw [a3.1]; clear a1 a2 a3; omega
  · subst a2; omega
  · subst a1; omega

theorem sumP_eq (n : Nat) : ∀ x, sumP n x = (List.range (8 * n)).countP fun i => x.testBit i := by
  induction n with
  | zero => intro x; rfl
  | succ n ih =>
    intro x
    show pop8 (x % 256) + sumP n (x / 256) = _
    rw [ih, show 8 * (n + 1) = 8 + 8 * n by omega, List.range_add, List.countP_append, List.countP_map]
    congr 1
    · unfold pop8
      apply List.countP_congr
      intro i hi
      have := List.mem_range.1 hi
      rw [show 256 = 2 ^ 8 from rfl, Nat.testBit_mod_two_pow]; simp [this]
    · apply List.countP_congr
      intro i _
      simp only [Function.comp]
      rw [show 256 = 2 ^ 8 from rfl, Nat.testBit_div_two_pow, Nat.add_comm]
theorem P_val (x : Nat) : P 8 x = pop8 (x % 256) + 256 * (pop8 (x / 256 % 256) + 256 * (pop8 (x / 256 / 256 % 256) + 256 * (pop8 (x / 256 / 256 / 256 % 256) + 256 * (pop8 (x / 256 / 256 / 256 / 256 % 256) + 256 * (pop8 (x / 256 / 256 / 256 / 256 / 256 % 256) + 256 * (pop8 (x / 256 / 256 / 256 / 256 / 256 / 256 % 256) + 256 * pop8 (x / 256 / 256 / 256 / 256 / 256 / 256 / 256 % 256))))))) := rfl
theorem sum_val (x : Nat) : sumP 8 x = pop8 (x % 256) + pop8 (x / 256 % 256) + pop8 (x / 256 / 256 % 256) + pop8 (x / 256 / 256 / 256 % 256) + pop8 (x / 256 / 256 / 256 / 256 % 256) + pop8 (x / 256 / 256 / 256 / 256 / 256 % 256) + pop8 (x / 256 / 256 / 256 / 256 / 256 / 256 % 256) + pop8 (x / 256 / 256 / 256 / 256 / 256 / 256 / 256 % 256) := by
  show _ + (_ + (_ + (_ + (_ + (_ + (_ + (_ + 0))))))) = _
  simp only [Nat.add_zero, Nat.add_assoc]
theorem pop8_le (b : Nat) : pop8 (b % 256) ≤ 8 := (b1 _ (Nat.mod_lt _ (by decide))).2.2.2.2.2
/-- How many bits of a word are set. -/
def ones (x : BitVec 64) : Nat := (List.range 64).countP fun i => x.getLsbD i
def sw1 (x : BitVec 64) : BitVec 64 := (x >>> 1 &&& 0x5555555555555555#64) + (x &&& 0x5555555555555555#64)
def sw2 (x : BitVec 64) : BitVec 64 := (x >>> 2 &&& 0x3333333333333333#64) + (x &&& 0x3333333333333333#64)
def sw3 (x : BitVec 64) : BitVec 64 := (x >>> 4 + x) &&& 0x0f0f0f0f0f0f0f0f#64
theorem sw1_nat (x : BitVec 64) : (sw1 x).toNat = S1 8 x.toNat := by
  unfold sw1 S1
  rw [BitVec.toNat_add, BitVec.toNat_and, BitVec.toNat_and, BitVec.toNat_ushiftRight, Nat.shiftRight_eq_div_pow]
  rw [show (0x5555555555555555#64).toNat = m0 8 from rfl, Nat.pow_one]
  have h1 : x.toNat / 2 &&& m0 8 ≤ m0 8 := Nat.and_le_right
  have h2 : x.toNat &&& m0 8 ≤ m0 8 := Nat.and_le_right
  have h3 : m0 8 = 6148914691236517205 := rfl
  rw [h3] at h1 h2 ⊢
  exact Nat.mod_eq_of_lt (by omega)
theorem sw2_nat (x : BitVec 64) : (sw2 x).toNat = S2 8 x.toNat := by
  unfold sw2 S2
  rw [BitVec.toNat_add, BitVec.toNat_and, BitVec.toNat_and, BitVec.toNat_ushiftRight, Nat.shiftRight_eq_div_pow]
  rw [show (0x3333333333333333#64).toNat = m1 8 from rfl, show (2 : Nat) ^ 2 = 4 from rfl]
  have h1 : x.toNat / 4 &&& m1 8 ≤ m1 8 := Nat.and_le_right
  have h2 : x.toNat &&& m1 8 ≤ m1 8 := Nat.and_le_right
  have h3 : m1 8 = 3689348814741910323 := rfl
  rw [h3] at h1 h2 ⊢
  exact Nat.mod_eq_of_lt (by omega)
theorem S2_le (x : Nat) : S2 8 x ≤ 7378697629483820646 := by
  unfold S2
  have h1 : x / 4 &&& m1 8 ≤ m1 8 := Nat.and_le_right
  have h2 : x &&& m1 8 ≤ m1 8 := Nat.and_le_right
  have h3 : m1 8 = 3689348814741910323 := rfl
  omega
theorem sw3_nat (x : BitVec 64) : (sw3 (sw2 x)).toNat = S3 8 (S2 8 x.toNat) := by
  unfold sw3 S3
  rw [BitVec.toNat_and, BitVec.toNat_add, BitVec.toNat_ushiftRight, Nat.shiftRight_eq_div_pow, sw2_nat]
  rw [show (0x0f0f0f0f0f0f0f0f#64).toNat = m2 8 from rfl, show (2 : Nat) ^ 4 = 16 from rfl]
  have := S2_le x.toNat
  rw [Nat.mod_eq_of_lt (by omega)]
theorem ones_is (x y z u v : BitVec 64) (hy : y = sw3 (sw2 (sw1 x))) (hz : z = y + y >>> 8) (hu : u = z + z >>> 16) (hv : v = u + u >>> 32) : v.toNat % 128 = ones x := by
  have h1 : y.toNat = P 8 x.toNat := by rw [hy, sw3_nat, sw1_nat]; exact (S_all 8 x.toNat).2
  have e : ones x = sumP 8 x.toNat := by rw [sumP_eq]; rfl
  rw [e, sum_val]
  rw [P_val] at h1
  have hh := fin_sum _ _ _ _ _ _ _ _ (pop8_le _) (pop8_le _) (pop8_le _) (pop8_le _) (pop8_le _) (pop8_le _) (pop8_le _) (pop8_le _) _ _ _ _ h1 rfl rfl rfl
  have z1 : z.toNat = y.toNat + y.toNat / 256 := by
    rw [hz, BitVec.toNat_add, BitVec.toNat_ushiftRight, Nat.shiftRight_eq_div_pow]
    exact Nat.mod_eq_of_lt hh.2.2.2
  have u1 : u.toNat = z.toNat + z.toNat / 65536 := by
    rw [hu, BitVec.toNat_add, BitVec.toNat_ushiftRight, Nat.shiftRight_eq_div_pow, z1]
    exact Nat.mod_eq_of_lt hh.2.2.1
  have v1 : v.toNat = u.toNat + u.toNat / 4294967296 := by
    rw [hv, BitVec.toNat_add, BitVec.toNat_ushiftRight, Nat.shiftRight_eq_div_pow, u1, z1]
    exact Nat.mod_eq_of_lt hh.2.1
  rw [v1, u1, z1]
  exact hh.1
theorem ones_le (x : BitVec 64) : ones x ≤ 64 := by
  have := List.countP_le_length (p := fun i => x.getLsbD i) (l := List.range 64)
  simpa [ones] using this
end Go.Proofs.YtpljbjceokoeiaaDoor.Pop

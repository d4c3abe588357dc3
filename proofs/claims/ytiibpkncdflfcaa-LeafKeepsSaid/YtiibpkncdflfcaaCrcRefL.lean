/-
  What the verifier's own answers of layer 1 are: the bits that just one of two numbers has, a number behind 8 places, the check bit by bit.
  Conditions: none.
-/
import Derived.Test.YtiibpkncdflfcaaJC
import Derived.Test.YtiibpkncdflfcaaCrcLinear
import Derived.Test.YtiibpkncdflfcaaCrcBurstMathL
namespace Go.Proofs.Ytiibpkncdflfcaa.Crc
open Go.RowKit

theorem even32 (x : BitVec 32) : (U x % 2 == 1) = x.getLsbD 0 := by
  have h : U x % 2 = ((x.toNat % 2 : Nat) : Int) := by unfold U; simp
  rw [h, BitVec.getLsbD, Nat.testBit_zero]
  have : x.toNat % 2 < 2 := Nat.mod_lt _ (by decide)
  rcases (by omega : x.toNat % 2 = 0 ∨ x.toNat % 2 = 1) with h | h <;> simp [h]

theorem xor_half (a b : Nat) : a ^^^ b = 2 * ((a / 2) ^^^ (b / 2)) + (a % 2 + b % 2) % 2 := by
  have h1 : (a ^^^ b) / 2 = (a / 2) ^^^ (b / 2) := by
    have := Nat.shiftRight_xor_distrib (a := a) (b := b) (i := 1)
    simpa [Nat.shiftRight_eq_div_pow] using this
  have h2 : (a ^^^ b) % 2 = (a % 2 + b % 2) % 2 := by
    have := Nat.xor_mod_two_pow (a := a) (b := b) (n := 1)
    have h3 : (a ^^^ b) % 2 = (a % 2) ^^^ (b % 2) := by simpa using this
    rw [h3]
    rcases (by omega : a % 2 = 0 ∨ a % 2 = 1) with h | h <;> rcases (by omega : b % 2 = 0 ∨ b % 2 = 1) with h' | h' <;> rw [h, h'] <;> decide
  omega

/-- What is kept while bits are taken off. -/
structure Apart (A B X a b o t : Nat) : Prop where
  sum : o + t * (a ^^^ b) = X
  left : t * a ≤ A
  right : t * b ≤ B
theorem Apart.same {A B X a b o t : Nat} (h : Apart A B X a b o t) (he : a % 2 = b % 2) : Apart A B X (a / 2) (b / 2) o (t * 2) := by
  have hx := xor_half a b
  have e : (a % 2 + b % 2) % 2 = 0 := by omega
  refine ⟨?_, ?_, ?_⟩
  · have := h.sum
    rw [hx, e, Nat.add_zero, ← Nat.mul_assoc] at this
    exact this
  · have := h.left
    have h2 : t * 2 * (a / 2) ≤ t * a := by rw [Nat.mul_assoc]; exact Nat.mul_le_mul_left _ (by omega)
    omega
  · have := h.right
    have h2 : t * 2 * (b / 2) ≤ t * b := by rw [Nat.mul_assoc]; exact Nat.mul_le_mul_left _ (by omega)
    omega
theorem Apart.other {A B X a b o t : Nat} (h : Apart A B X a b o t) (he : a % 2 ≠ b % 2) : Apart A B X (a / 2) (b / 2) (o + t) (t * 2) := by
  have hx := xor_half a b
  have e : (a % 2 + b % 2) % 2 = 1 := by omega
  refine ⟨?_, ?_, ?_⟩
  · have := h.sum
    rw [hx, e, Nat.mul_add, Nat.mul_one, ← Nat.mul_assoc] at this
    omega
  · have := h.left
    have h2 : t * 2 * (a / 2) ≤ t * a := by rw [Nat.mul_assoc]; exact Nat.mul_le_mul_left _ (by omega)
    omega
  · have := h.right
    have h2 : t * 2 * (b / 2) ≤ t * b := by rw [Nat.mul_assoc]; exact Nat.mul_le_mul_left _ (by omega)
    omega
theorem Apart.bit {A B X a b o t : Nat} (h : Apart A B X a b o t) (hA : A < 4294967296) (hB : B < 4294967296) (hp : 0 < a ∨ 0 < b) : t < 4294967296 := by
  rcases hp with hp | hp
  · have := h.left
    have h2 : t * 1 ≤ t * a := Nat.mul_le_mul_left _ hp
    omega
  · have := h.right
    have h2 : t * 1 ≤ t * b := Nat.mul_le_mul_left _ hp
    omega
theorem Apart.out {A B X a b o t : Nat} (h : Apart A B X a b o t) : o ≤ X := by
  have := h.sum
  have : o ≤ o + t * (a ^^^ b) := Nat.le_add_right _ _
  omega

set_option maxRecDepth 100000 in
set_option maxHeartbeats 1000000 in
theorem apart_any (A B : Nat) (hA : A < 4294967296) (hB : B < 4294967296) (w : World) :
    Calls Try.prog 37 #[.int .i64 A, .int .i64 B] w fun e w' => e = .returned (.int .i64 ((A ^^^ B : Nat) : Int)) ∧ w = w' := by
  have hX : A ^^^ B < 4294967296 := by
    have := Nat.xor_lt_two_pow (x := A) (y := B) (n := 32) (by omega) (by omega)
    simpa using this
  have H0 : Apart A B (A ^^^ B) A B 0 1 := ⟨by omega, by omega, by omega⟩
  generalize A ^^^ B = X at hX H0
  go_enter Try.func37, Try.ntmps37
  go_wp2
  go_loop [0, 1, 5, 6] (fun av bv ov tv => ∃ a b o t : Nat, av = .int .i64 a ∧ bv = .int .i64 b ∧ ov = .int .i64 o ∧ tv = .int .i64 t ∧ a < 4294967296 ∧ b < 4294967296 ∧ t ≤ 8589934592 ∧ Hid (Apart A B X a b o t)) (fun av bv _ _ => (intOf av).toNat + (intOf bv).toNat)
  case atStart => exact ⟨A, B, 0, 1, rfl, rfl, rfl, rfl, hA, hB, by omega, H0⟩
  case round =>
    obtain ⟨a, b, o, t, rfl, rfl, rfl, rfl, ha, hb, ht, H⟩ := hrel
    clear H0
    have ho : o ≤ X := H.out.out
    by_cases hp : 0 < a ∨ 0 < b
    · have ht2 := H.out.bit hA hB hp
      by_cases he : a % 2 = b % 2
      · have H2 := Lib.hid (H.out.same he)
        have hne : ((a : Int) % 2 != (b : Int) % 2) = false := by
          have hq : (a : Int) % 2 = (b : Int) % 2 := by omega
          rw [hq]; simp
        clear H he
        rcases Nat.eq_zero_or_pos a with h0 | h0
        · have p1 : (0 : Int) < b := by omega
          have p0 : ¬ (0 : Int) < a := by omega
          have hs : 0 < a + b := by omega
          clear h0
          clear hp
          go_wp2
          go_round
          case rel => exact ⟨a / 2, b / 2, o, t * 2, by first | (simp; done) | (simp; omega), by first | (simp; done) | (simp; omega), rfl, by go_num, by omega, by omega, by omega, H2.out⟩
          case measure => simp [intOf]; omega
        · have p0 : (0 : Int) < a := by omega
          have hs : 0 < a + b := by omega
          clear hp
          go_wp2
          go_round
          case rel => exact ⟨a / 2, b / 2, o, t * 2, by first | (simp; done) | (simp; omega), by first | (simp; done) | (simp; omega), rfl, by go_num, by omega, by omega, by omega, H2.out⟩
          case measure => simp [intOf]; omega
      · have H2 := Lib.hid (H.out.other he)
        have hne : ((a : Int) % 2 != (b : Int) % 2) = true := by
          have hq : (a : Int) % 2 ≠ (b : Int) % 2 := by omega
          simpa using hq
        clear H he
        rcases Nat.eq_zero_or_pos a with h0 | h0
        · have p1 : (0 : Int) < b := by omega
          have p0 : ¬ (0 : Int) < a := by omega
          have hs : 0 < a + b := by omega
          clear h0
          clear hp
          go_wp2
          go_round
          case rel => exact ⟨a / 2, b / 2, o + t, t * 2, by first | (simp; done) | (simp; omega), by first | (simp; done) | (simp; omega), by go_num, by go_num, by omega, by omega, by omega, H2.out⟩
          case measure => simp [intOf]; omega
        · have p0 : (0 : Int) < a := by omega
          have hs : 0 < a + b := by omega
          clear hp
          go_wp2
          go_round
          case rel => exact ⟨a / 2, b / 2, o + t, t * 2, by first | (simp; done) | (simp; omega), by first | (simp; done) | (simp; omega), by go_num, by go_num, by omega, by omega, by omega, H2.out⟩
          case measure => simp [intOf]; omega
    · obtain rfl : a = 0 := by omega
      obtain rfl : b = 0 := by omega
      have hs := H.out.sum
      have hoX : o = X := by simpa using hs
      subst hoX
      clear hs hp H
      go_wp2
      go_ret
      exact ⟨rfl, rfl⟩

theorem apart_U (x y : BitVec 32) (w : World) :
    Calls Try.prog 37 #[.int .i64 (U x), .int .i64 (U y)] w fun e w' => e = .returned (.int .i64 (U (x ^^^ y))) ∧ w = w' := by
  have h := apart_any x.toNat y.toNat x.isLt y.isLt w
  rw [← BitVec.toNat_xor] at h
  exact h

theorem dn_bit (x : BitVec 32) : dn x = if x.getLsbD 0 = true then x >>> 1 ^^^ 2197175160#32 else x >>> 1 := by
  unfold dn
  by_cases h : x.getLsbD 0 = true
  · rw [if_pos ((lsb_iff x).2 h), if_pos h]
  · rw [if_neg (fun e => h ((lsb_iff x).1 e)), if_neg h]

theorem halfWrap (x : BitVec 32) : wrap64 ((U x).tdiv 2) = U (x >>> 1) := by
  rw [Int.tdiv_eq_ediv_of_nonneg (U_nonneg x), shr1_32]
  have h0 := U_nonneg (x >>> 1)
  have h1 : U (x >>> 1) < 4294967296 := by simpa using U_lt (x >>> 1)
  exact IntWalk.wrap64_in _ ⟨by omega, by omega⟩

set_option maxRecDepth 100000 in
set_option maxHeartbeats 1000000 in
theorem place_any (x : BitVec 32) (w : World) :
    Calls Try.prog 36 #[.int .i64 (U x)] w fun e w' => e = .returned (.int .i64 (U (dnN 8 x))) ∧ w = w' := by
  go_enter Try.func36, Try.ntmps36
  go_wp2
  go_loop [0, 3] (fun nv kv => ∃ k : Nat, k ≤ 8 ∧ kv = .int .i64 k ∧ nv = .int .i64 (U (dnN k x))) (fun _ kv => 8 - (intOf kv).toNat)
  case atStart => exact ⟨0, by omega, rfl, rfl⟩
  case round =>
    obtain ⟨k, hk, rfl, rfl⟩ := hrel
    have HS := Lib.hid (dnN_succ k x)
    have e1 := even32 (dnN k x)
    have e2 := halfWrap (dnN k x)
    have x0 := U_nonneg (dnN k x)
    by_cases hlt : k < 8
    · obtain ⟨P, hP⟩ : ∃ P : BitVec 32, P = 2197175160#32 := ⟨_, rfl⟩
      have hU : U P = 2197175160 := by rw [hP]; decide
      have ha : ∀ W : World, Calls Try.prog 37 #[.int .i64 (U (dnN k x >>> 1)), .int .i64 2197175160] W fun e w' => e = .returned (.int .i64 (U (dnN k x >>> 1 ^^^ P))) ∧ W = w' := by
        intro W
        have h := apart_U (dnN k x >>> 1) P W
        rw [hU] at h
        exact h
      clear hU
      have HP := Lib.hid hP
      clear hP
      generalize dnN k x = q at HS e1 e2 x0 ha
      cases hb : q.getLsbD 0 with
      | true =>
        rw [hb] at e1
        have HE : Hid (dn q = q >>> 1 ^^^ P) := by
          have := dn_bit q
          rw [hb, if_pos rfl, ← HP.out] at this
          exact this
        clear hb
        go_wp2_with (go_at_call 37; refine (ha _).mono ?_; rintro e w' ⟨rfl, rfl⟩)
        go_round
        case rel => exact ⟨k + 1, by omega, by go_num, by rw [HS.out, HE.out]⟩
        case measure => simp [intOf]; omega
      | false =>
        rw [hb] at e1
        have HE : Hid (dn q = q >>> 1) := by
          have := dn_bit q
          rw [hb, if_neg (by simp)] at this
          exact this
        clear hb
        clear ha
        go_wp2
        go_round
        case rel => exact ⟨k + 1, by omega, by go_num, by rw [HS.out, HE.out, ← e2]⟩
        case measure => simp [intOf]; omega
    · obtain rfl : k = 8 := by omega
      clear e1 e2
      go_wp2
      go_ret
      exact ⟨rfl, rfl⟩

theorem ones32 : U (~~~ (0#32)) = 4294967295 := by decide
theorem sub_ones (x : BitVec 32) : 4294967295 - U x = U (~~~ x) := by
  unfold U
  rw [BitVec.toNat_not]
  have := x.isLt
  omega
theorem sub_wrap (x : BitVec 32) : wrap64 (4294967295 - U x) = U (~~~ x) := by
  rw [sub_ones]
  have h0 := U_nonneg (~~~ x)
  have h1 : U (~~~ x) < 4294967296 := by simpa using U_lt (~~~ x)
  exact IntWalk.wrap64_in _ ⟨by omega, by omega⟩
theorem u8_u32 (b : BitVec 8) : U b = U (b.setWidth 32) := by
  unfold U
  rw [BitVec.toNat_setWidth, Nat.mod_eq_of_lt (by have := b.isLt; omega)]

set_option maxRecDepth 100000 in
set_option maxHeartbeats 1000000 in
theorem refSum_any (bs : List (BitVec 8)) (v : Value) (n₀ : Nat) (w : World) (hv : BytesAt n₀ w v bs) (hl : bs.length ≤ 1099511627776) :
    Calls Try.prog 21 #[v] w fun e w' => e = .returned (.int .i64 (U (crcAdd 0#32 bs))) ∧ w = w' := by
  obtain ⟨a, cap, rfl, _, hv⟩ := hv
  have l1 : (bs.length : Int) ≤ 1099511627776 := by omega
  go_enter Try.func21, Try.ntmps21
  go_wp2
  go_loop [3, 4] (fun nv iv => ∃ k : Nat, k ≤ bs.length ∧ iv = .int .i64 k ∧ nv = .int .i64 (U (runB (~~~ (0#32)) (bs.take k)))) (fun _ iv => bs.length - (intOf iv).toNat)
  case atStart => exact ⟨0, Nat.zero_le _, rfl, by rw [List.take_zero]; show _ = Value.int .i64 (U (~~~ (0#32))); rw [ones32]⟩
  case round =>
    obtain ⟨k, hk, rfl, rfl⟩ := hrel
    by_cases hlt : k < bs.length
    · rcases hv with h | ⟨g, off, rfl, _, hc⟩
      · subst h; simp at hlt
      have c1 := hc k hlt
      have HT := Lib.hid (take_one bs 0 k hlt)
      generalize bs[k]?.getD 0 = b at c1 HT
      have HR := Lib.hid (runB_snoc (~~~ (0#32)) (bs.take k) b)
      have ha := fun q W => apart_U q (b.setWidth 32) W
      have hp := fun q W => place_any (q ^^^ b.setWidth 32) W
      generalize runB (~~~ (0#32)) (bs.take k) = q at HR ⊢
      have ha' := ha q
      have hp' := hp q
      rw [← u8_u32] at ha'
      have HS := Lib.hid (stepB_eq q b)
      have b0 := U_nonneg b
      have b1 : U b < 256 := by simpa using U_lt b
      have k0 : (0 : Int) ≤ k := by omega
      have k1 : (k : Int) < bs.length := by omega
      clear hc ha hp
      go_wp2_with (first
        | (go_at_call 37; refine (ha' _).mono ?_; rintro e w' ⟨rfl, rfl⟩)
        | (go_at_call 36; refine (hp' _).mono ?_; rintro e w' ⟨rfl, rfl⟩))
      go_round
      case rel => exact ⟨k + 1, by omega, by go_num, by rw [HT.out, HR.out, HS.out]⟩
      case measure => simp [intOf]; omega
    · obtain rfl : k = bs.length := by omega
      rw [List.take_length]
      obtain ⟨q, hq⟩ : ∃ q, runB (~~~ (0#32)) bs = q := ⟨_, rfl⟩
      rw [hq]
      have HQ := Lib.hid hq
      have e1 := sub_wrap q
      clear hq hv
      go_wp2
      go_ret
      refine ⟨?_, rfl⟩
      show _ = Ending.returned (.int .i64 (U (~~~ (runB (~~~ (0#32)) bs))))
      rw [HQ.out]
      rfl

end Go.Proofs.Ytiibpkncdflfcaa.Crc

/-
  sketch: number, appendNumber.
  Conditions: none.
-/
import Derived.Test.YtalgkiagdjckiaaSk7
import Derived.Test.YtalgkiagdjckiaaRAt
import Derived.Test.YtalgkiagdjckiaaRefOf
namespace Go.Proofs.Ytalgkiagdjckiaa
open Go.RowKit

theorem num_or (q j : Nat) (b : BitVec 8) (hj : j ≤ 3) (hq : q < 256 ^ j) : bits .or .i64 (q : Int) (wrap64 (U b * 2 ^ (8 * j))) = ((q + 256 ^ j * b.toNat : Nat) : Int) := by
  have hp : (256 : Nat) ^ j = 2 ^ (8 * j) := by rw [Nat.pow_mul]
  have hM : (2 : Nat) ^ (8 * j) ≤ 2 ^ 24 := Nat.pow_le_pow_right (by decide) (by omega)
  have hM2 : (2 : Nat) ^ (8 * j) ≤ 16777216 := hM
  have hb := b.isLt
  have hmul : b.toNat * 2 ^ (8 * j) ≤ 255 * 16777216 := Nat.mul_le_mul (by omega) hM2
  have e1 : U b * 2 ^ (8 * j) = ((b.toNat * 2 ^ (8 * j) : Nat) : Int) := by unfold U; simp
  have e2 : wrap64 (U b * 2 ^ (8 * j)) = ((b.toNat * 2 ^ (8 * j) : Nat) : Int) := by rw [e1]; exact IntWalk.wrap64_in _ ⟨by omega, by omega⟩
  rw [e2]
  have h := (bits_nat .i64 62 (by decide) (fun n h0 h1 => by rw [IntKind.wrap_i64]; omega) q (b.toNat * 2 ^ (8 * j)) (by omega) (by omega)).2
  rw [h]
  rw [hp] at hq ⊢
  have e : q ||| b.toNat * 2 ^ (8 * j) = q + 2 ^ (8 * j) * b.toNat := by
    rw [Nat.or_comm, Nat.mul_comm b.toNat, ← Nat.two_pow_add_eq_or_of_lt hq, Nat.add_comm]
  rw [e]

set_option maxRecDepth 100000 in
set_option maxHeartbeats 2000000 in
theorem appendNumber_any (x : BitVec 64) (hx : U x < 4294967296) (k : Nat) (hk : k ≤ 4) (base : Nat) (v : Value) (row : List (BitVec 8)) (w : World) (hown : w.ownsRow base 5 1 v row.length (cellsOf row)) (hb : base ≤ w.heap.size) (hr : row.length ≤ 1000) :
    Calls Try.prog 25 #[v, .int .i64 (U x), .int .i64 k] w fun e w' => ∃ u, e = .returned u ∧ w'.ownsRow base 5 1 u (row ++ leB k x).length (cellsOf (row ++ leB k x)) ∧ Below base w w' := by
  obtain ⟨i0, hi, hz0, hz1, hz2⟩ := info_parts Try.infoU8
  obtain ⟨av0, cv0, rfl⟩ := owns_slice hown
  have k8 : (k : Int) ≤ 4 := by omega
  have x0 := U_nonneg x
  have HB := Lib.hid hb
  go_enter Try.func25, Try.ntmps25
  go_wp2
  go_loopw [0, 1, 8] (fun ov xv iv wr => ∃ j : Nat, j ≤ k ∧ iv = .int .i64 j ∧ xv = .int .i64 (U (x >>> (8 * j))) ∧ wr.ownsRow base 5 1 ov (row ++ leB j x).length (cellsOf (row ++ leB j x)) ∧ Below base w wr) (fun _ _ iv _ => k - (intOf iv).toNat)
  case atStart => exact ⟨0, Nat.zero_le _, rfl, by simp, by simpa [leB] using hown, Below.refl _ _⟩
  case round =>
    obtain ⟨j, hj, rfl, rfl, hown, hB⟩ := hrel
    by_cases hlt : j < k
    · have hwrap := low8_64 (x >>> (8 * j))
      have hshr := shr8_64 (x >>> (8 * j))
      have HX : Hid ((x >>> (8 * j)) >>> 8 = x >>> (8 * (j + 1))) := by unfold Hid; rw [← BitVec.shiftRight_add]; congr 1
      have HL := Lib.hid (leB_succ j x)
      have hlen := leB_len j x
      have hle : U (x >>> (8 * j)) ≤ U x := by
        unfold U
        rw [BitVec.toNat_ushiftRight, Nat.shiftRight_eq_div_pow]
        exact_mod_cast Nat.div_le_self _ _
      obtain ⟨y, hy⟩ : ∃ y, x >>> (8 * j) = y := ⟨_, rfl⟩
      rw [hy] at hwrap hshr HX HL hle ⊢
      obtain ⟨rj, hrj⟩ : ∃ rj, leB j x = rj := ⟨_, rfl⟩
      rw [hrj] at hown hlen HL
      have HLEN := Lib.hid hlen
      have HO := Lib.hid hown
      have y0 := U_nonneg y
      have y1 : U y < 4294967296 := by omega
      clear hrj hown hy hle hlen
      obtain ⟨rr, hrr⟩ : ∃ rr, row ++ rj = rr := ⟨_, rfl⟩
      rw [hrr] at HO
      have HRR := Lib.hid hrr
      have HRL : Hid (rr.length = row.length + j) := by unfold Hid; rw [← hrr, List.length_append, HLEN.out]
      clear hrr
      have j1 : (j : Int) < k := by omega
      obtain ⟨av, cv, rfl⟩ := owns_slice HO.out
      go_wp2_with (at_builtin; go_must (refine wpList_append_bytes rfl (.tmp 10) (.tmp 13) rfl rfl base i0 hi hz0 hz1 hz2 _ rfl rr (HO.out.alloc _) _ rfl _ [y.setWidth 8] (bytes_one _ _) (by have := HRL.out; simp; omega) (by have := hB.size; have := HB.out; simp; omega) ?_); intro v1 w1 n1 HN hown1 hgrow1 hat1; obtain ⟨a1, cp1, rfl⟩ := owns_slice hown1)
      go_roundw
      case rel =>
        have en := HN.out
        clear HN
        subst en
        have er : row ++ leB (j + 1) x = rr ++ [y.setWidth 8] := by rw [HL.out, ← HRR.out, List.append_assoc]
        refine ⟨j + 1, by omega, by go_num, by rw [HX.out], by rw [er]; exact hown1, (hB.alloc (Nat.le_trans HB.out hB.size) _).grown hgrow1 (by have := hB.size; have := HB.out; simp; omega) (fun i e => (HO.out.lt i e).1)⟩
      case measure => simp [intOf]; omega
    · obtain rfl : j = k := by omega
      go_wp2
      go_ret
      exact ⟨_, rfl, hown, hB⟩
set_option maxRecDepth 100000 in
set_option maxHeartbeats 2000000 in
theorem number_any (n₀ : Nat) (bs : List (BitVec 8)) (v : Value) (w : World) (hv : BytesAt n₀ w v bs) (hl : bs.length ≤ 4) : Calls Try.prog 26 #[v] w fun e w' => e = .returned (.int .i64 ((leNat bs : Nat) : Int)) ∧ w = w' := by
  obtain ⟨a, cap, rfl, _, _, hv⟩ := hv
  have l1 : (bs.length : Int) ≤ 4 := by omega
  go_enter Try.func26, Try.ntmps26
  go_wp2
  go_loop [3, 4, 5, 8] (fun nv _ _ iv => ∃ j : Nat, j ≤ bs.length ∧ iv = .int .i64 j ∧ nv = .int .i64 ((leNat (bs.take j) : Nat) : Int)) (fun _ _ _ iv => bs.length - (intOf iv).toNat)
  case atStart => exact ⟨0, Nat.zero_le _, rfl, rfl⟩
  case round =>
    obtain ⟨j, hj, rfl, rfl⟩ := hrel
    by_cases hlt : j < bs.length
    · rcases hv with h | ⟨g, off, rfl, hg, hc⟩
      · subst h; simp at hlt
      have c1 := hc j hlt
      have k1 : (j : Int) < bs.length := by omega
      have HL := Lib.hid (leNat_lt (bs.take j))
      obtain ⟨b, hb⟩ : ∃ b, bs[j]?.getD 0 = b := ⟨_, rfl⟩
      rw [hb] at c1
      obtain ⟨q, hq⟩ : ∃ q, leNat (bs.take j) = q := ⟨_, rfl⟩
      rw [hq] at HL ⊢
      clear hc
      have e8 : wrap64 (8 * (j : Int)) = ((8 * j : Nat) : Int) := by rw [IntWalk.wrap64_in _ ⟨by omega, by omega⟩]; omega
      have b0 := U_nonneg b
      have b1 : U b ≤ 255 := by have := U_lt b; omega
      have ew : wrap64 (U b) = U b := IntWalk.wrap64_in _ ⟨by omega, by omega⟩
      have j3' : j ≤ 3 := by omega
      have HO := Lib.hid (num_or q j b j3' (by have := HL.out; rwa [show (bs.take j).length = j by rw [List.length_take]; omega] at this))
      have HT : Hid (leNat (bs.take (j + 1)) = q + 256 ^ j * b.toNat) := by
        unfold Hid
        rw [List.take_succ_eq_append_getElem hlt, leNat_append, hq, show (bs.take j).length = j by rw [List.length_take]; omega]
        have : bs[j] = b := by rw [← hb]; simp [hlt]
        rw [this]
        simp [leNat]
      clear j3' hq hb
      go_wp2
      exact ⟨⟨j + 1, by omega, by go_num, by rw [HO.out, HT.out]⟩, by simp [intOf]; omega⟩
    · obtain rfl : j = bs.length := by omega
      rw [List.take_length]
      go_wp2
      go_ret
      exact ⟨rfl, rfl⟩
end Go.Proofs.Ytalgkiagdjckiaa

/-
  bits: how many numbers are taken (Count).
  Conditions: none.
-/
import Derived.Test.YtpljbjceokoeiaaDoorBits3
import Derived.Test.YtpljbjceokoeiaaDoorPopMath
namespace Go.Proofs.YtpljbjceokoeiaaDoor
open Go.RowKit Pop

theorem shr1_64 (x : BitVec 64) : U x / (2 : Int) = U (x >>> 1) := shr_U x 1 _ (by decide)
theorem shr2_64 (x : BitVec 64) : U x / (4 : Int) = U (x >>> 2) := shr_U x 2 _ (by decide)
theorem shr4_64 (x : BitVec 64) : U x / (16 : Int) = U (x >>> 4) := shr_U x 4 _ (by decide)
theorem shr8_64 (x : BitVec 64) : U x / (256 : Int) = U (x >>> 8) := shr_U x 8 _ (by decide)
theorem shr16_64 (x : BitVec 64) : U x / (65536 : Int) = U (x >>> 16) := shr_U x 16 _ (by decide)
theorem shr32_64 (x : BitVec 64) : U x / (4294967296 : Int) = U (x >>> 32) := shr_U x 32 _ (by decide)
theorem and_m0 (x : BitVec 64) : bits .and .u64 (U x) 6148914691236517205 = U (x &&& 0x5555555555555555#64) := and_u64 x 0x5555555555555555#64
theorem and_m1 (x : BitVec 64) : bits .and .u64 (U x) 3689348814741910323 = U (x &&& 0x3333333333333333#64) := and_u64 x 0x3333333333333333#64
theorem and_m2 (x : BitVec 64) : bits .and .u64 (U x) 1085102592571150095 = U (x &&& 0x0f0f0f0f0f0f0f0f#64) := and_u64 x 0x0f0f0f0f0f0f0f0f#64
theorem addU_64 (x y : BitVec 64) : IntKind.u64.wrap (U x + U y) = U (x + y) := by rw [add_u64, ofInt_U]
theorem and_127 (v : BitVec 64) : bits .and .i64 (IntKind.i64.wrap (U v)) 127 = ((v.toNat % 128 : Nat) : Int) := by
  have e : BitVec.ofInt 64 (IntKind.i64.wrap (U v)) = v := by
    apply BitVec.eq_of_toInt_eq
    rw [BitVec.toInt_ofInt]
    have h : (IntKind.i64.wrap (U v)) = (U v).bmod (2 ^ 64) := by
      have h0 := U_nonneg v
      have h1 : U v < 18446744073709551616 := by have := U_lt v; simpa using this
      simp [IntKind.wrap, IntKind.bits, IntKind.signed, Int.bmod]
      omega
    rw [h, Int.bmod_bmod, show U v = (v.toNat : Int) from rfl, ← BitVec.toInt_eq_toNat_bmod]
  show IntKind.i64.wrap (((BitVec.ofInt 64 (IntKind.i64.wrap (U v))) &&& (BitVec.ofInt 64 127)).toNat : Int) = _
  rw [e, show BitVec.ofInt 64 127 = 127#64 from rfl, BitVec.toNat_and]
  rw [show (127#64).toNat = 127 from rfl, show v.toNat &&& 127 = v.toNat % 128 from Nat.and_two_pow_sub_one_eq_mod v.toNat 7]
  have : v.toNat % 128 < 128 := Nat.mod_lt _ (by decide)
  exact IntWalk.i64_in _ (by omega)
section
attribute [local go_sem] shr1_64 shr2_64 shr4_64 shr8_64 shr16_64 shr32_64 and_m0 and_m1 and_m2 addU_64
set_option maxHeartbeats 1000000 in
theorem ones_any (x : BitVec 64) (w : World) : Calls Tryd.prog 27 #[.int .u64 (U x)] w fun e w' => e = .returned (.int .i64 (ones x)) ∧ w = w' := by
  have HX := Lib.hid (fun (y z u v : BitVec 64) (hy : y = sw3 (sw2 (sw1 x))) (hz : z = y + y >>> 8) (hu : u = z + z >>> 16) (hv : v = u + u >>> 32) => ones_is x y z u v hy hz hu hv)
  have h0 := U_nonneg x
  go_enter Tryd.func27, Tryd.ntmps27
  go_wp2
  go_ret
  refine ⟨?_, rfl⟩
  rw [← HX.out _ _ _ _ rfl rfl rfl rfl, ← and_127, IntWalk.i64_left]
  rfl
end

/-- How many are taken. -/
def BSet.cnt (s : BSet) : Nat := (List.range s.n).countP s.has
theorem words_sum (ws : List (BitVec 64)) : (ws.map ones).sum = (List.range (64 * ws.length)).countP fun i => (ws[i / 64]?.getD 0#64).getLsbD (i % 64) := by
  induction ws with
  | nil => rfl
  | cons x ws ih =>
    rw [List.map_cons, List.sum_cons, ih, List.length_cons, show 64 * (ws.length + 1) = 64 + 64 * ws.length by omega, List.range_add, List.countP_append, List.countP_map]
    congr 1
    apply List.countP_congr
    intro i _
    simp only [Function.comp]
    rw [show (64 + i) / 64 = i / 64 + 1 by omega, show (64 + i) % 64 = i % 64 by omega, List.getElem?_cons_succ]
theorem cnt_sum {s : BSet} (h : s.Ok) : (s.ws.map ones).sum = s.cnt := by
  rw [words_sum]
  unfold BSet.cnt
  have hl : 64 * s.ws.length = s.n + (64 * s.ws.length - s.n) := by rw [h.len]; omega
  rw [hl, List.range_add, List.countP_append]
  have : List.countP (fun i => (s.ws[i / 64]?.getD 0#64).getLsbD (i % 64)) (List.map (fun x => s.n + x) (List.range (64 * s.ws.length - s.n))) = 0 := by
    rw [List.countP_eq_zero]
    intro a ha
    obtain ⟨k, _, rfl⟩ := List.mem_map.1 ha
    have := h.above (s.n + k) (by omega)
    unfold BSet.has at this
    simp [this]
  rw [this, Nat.add_zero]
  rfl
theorem cnt_le (s : BSet) : s.cnt ≤ s.n := by
  have := List.countP_le_length (p := s.has) (l := List.range s.n)
  simpa [BSet.cnt] using this
theorem take_sum (ws : List (BitVec 64)) {k : Nat} (hk : k < ws.length) : ((ws.take (k + 1)).map ones).sum = ((ws.take k).map ones).sum + ones (ws[k]?.getD 0#64) := by
  rw [List.take_add_one, List.map_append, List.sum_append]
  simp [hk]
theorem take_sum_le (ws : List (BitVec 64)) : ∀ k, ((ws.take k).map ones).sum ≤ 64 * k := by
  intro k
  induction k with
  | zero => simp
  | succ k ih =>
    by_cases hk : k < ws.length
    · have := take_sum ws hk; have := ones_le (ws[k]?.getD 0#64); omega
    · rw [List.take_of_length_le (by omega)]; rw [List.take_of_length_le (by omega)] at ih; omega
set_option maxHeartbeats 1000000 in
theorem count_any {n₀ : Nat} {w : World} {D g cap : Nat} {s : BSet} (h : BitsAt n₀ w D g cap s) : Calls Tryd.prog 18 #[.pointer (some ⟨D, 0, none⟩)] w fun e w' => e = .returned (.int .i64 s.cnt) ∧ w = w' := by
  obtain ⟨c0, c1, c2⟩ := h.cells
  have hlen : s.ws.length ≤ 1024 := by have := h.ok.len; have := h.ok.n2; omega
  have l1 : (s.ws.length : Int) ≤ 1024 := by omega
  have HWD : Hid (∀ k, k < s.ws.length → w.cell? ⟨g, k, none⟩ = some (.int .u64 (U (s.ws[k]?.getD 0#64)))) := fun k hk => h.word hk
  have HE := Lib.hid (cnt_sum h.ok)
  have HT := Lib.hid (fun k (hk : k < s.ws.length) => take_sum s.ws hk)
  have HTL := Lib.hid (take_sum_le s.ws)
  have HTA : Hid (((s.ws.take s.ws.length).map ones).sum = (s.ws.map ones).sum) := by unfold Hid; rw [List.take_length]
  clear h
  go_enter Tryd.func18, Tryd.ntmps18
  go_wp2
  go_loop [3, 13] (fun c i => ∃ k c' : Nat, k ≤ s.ws.length ∧ i = .int .i64 k ∧ c = .int .i64 c' ∧ Hid (c' = ((s.ws.take k).map ones).sum)) (fun _ i => s.ws.length - (intOf i).toNat)
  case atStart => exact ⟨0, 0, Nat.zero_le _, rfl, rfl, by unfold Hid; simp⟩
  case round =>
    obtain ⟨k, c', hk, rfl, rfl, hc⟩ := hrel
    by_cases hlt : k < s.ws.length
    · have c3 := HWD.out k hlt
      have k1 : (k : Int) < s.ws.length := by omega
      have hs := HT.out k hlt
      have hl := HTL.out k
      have ho := ones_le (s.ws[k]?.getD 0#64)
      rw [← hc.out] at hs hl
      have HS := Lib.hid hs
      generalize s.ws[k]?.getD 0#64 = x at c3 HS ho
      have o1 : (ones x : Int) ≤ 64 := by omega
      have q1 : (c' : Int) ≤ 65536 := by omega
      clear hs hl ho
      go_wp2_with (go_at_call 27; (with_reducible refine (ones_any _ _).mono ?_); rintro e w' ⟨rfl, rfl⟩)
      go_round
      case rel => exact ⟨k + 1, c' + ones x, by omega, by go_num, by go_num, by unfold Hid; exact HS.out.symm⟩
      case measure => simp [intOf]; omega
    · obtain rfl : k = s.ws.length := by omega
      have HF : Hid (c' = s.cnt) := by unfold Hid; rw [← HE.out, ← HTA.out]; exact hc.out
      go_wp2
      go_ret
      rw [HF.out]
      exact ⟨rfl, rfl⟩
end Go.Proofs.YtpljbjceokoeiaaDoor

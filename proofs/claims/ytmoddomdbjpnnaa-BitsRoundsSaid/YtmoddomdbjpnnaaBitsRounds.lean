/-
  Proved: freed at once, a number comes again only behind all others that are free. Whatever two numbers come in, the law BitsRounds answers true and the arguments read as they did.
  Conditions: none.
-/
import Derived.Test.YtmoddomdbjpnnaaBits3
import Derived.Test.YtmoddomdbjpnnaaLaw
namespace Go.Proofs.Ytmoddomdbjpnnaa
open Go.ChangeShapes Go.WideShapes Go.ChangeAt Go.RowKit

theorem ones_zero (w : World) : Calls Try.prog 13 #[.int .u64 0] w fun e w' => e = .returned (.int .i64 0) ∧ w = w' := by
  have e1 : bits .and .u64 0 6148914691236517205 = 0 := by decide
  have e2 : bits .and .u64 0 3689348814741910323 = 0 := by decide
  have e3 : bits .and .u64 0 1085102592571150095 = 0 := by decide
  have e4 : bits .and .i64 0 127 = 0 := by decide
  go_enter Try.func13, Try.ntmps13
  go_wp2
  go_ret
  exact ⟨rfl, rfl⟩
/-- Nothing is taken. -/
def BSet.none (s : BSet) : Prop := ∀ j, s.has j = false
theorem none_word {s : BSet} (h : s.none) (k : Nat) : s.ws[k]?.getD 0#64 = 0#64 := by
  apply BitVec.eq_of_getLsbD_eq
  intro i hi
  have := h (64 * k + i)
  unfold BSet.has at this
  rw [show (64 * k + i) / 64 = k by omega, show (64 * k + i) % 64 = i by omega] at this
  rw [this]
  simp
set_option maxHeartbeats 1000000 in
theorem count_none {n₀ : Nat} {w : World} {D g cap : Nat} {s : BSet} (h : BitsAt n₀ w D g cap s) (hs : s.none) : Calls Try.prog 7 #[.pointer (some ⟨D, 0, none⟩)] w fun e w' => e = .returned (.int .i64 0) ∧ w = w' := by
  obtain ⟨c0, c1, c2⟩ := h.cells
  have hlen : s.ws.length ≤ 1024 := by have := h.ok.len; have := h.ok.n2; omega
  have l1 : (s.ws.length : Int) ≤ 1024 := by omega
  have HWD : Hid (∀ k, k < s.ws.length → w.cell? ⟨g, k, none⟩ = some (.int .u64 0)) := fun k hk => by
    have := h.word hk
    rwa [none_word hs k, show U (0#64) = 0 from rfl] at this
  clear h hs
  go_enter Try.func7, Try.ntmps7
  go_wp2
  go_loop [3, 13] (fun c i => ∃ k : Nat, k ≤ s.ws.length ∧ i = .int .i64 k ∧ c = .int .i64 0) (fun _ i => s.ws.length - (intOf i).toNat)
  case atStart => exact ⟨0, Nat.zero_le _, rfl, rfl⟩
  case round =>
    obtain ⟨k, hk, rfl, rfl⟩ := hrel
    by_cases hlt : k < s.ws.length
    · have c3 := HWD.out k hlt
      have k1 : (k : Int) < s.ws.length := by omega
      go_wp2_with (go_at_call 13; (with_reducible refine (ones_zero _).mono ?_); rintro e w' ⟨rfl, rfl⟩)
      go_round
      case rel => exact ⟨k + 1, by omega, by go_num, rfl⟩
      case measure => simp [intOf]; omega
    · obtain rfl : k = s.ws.length := by omega
      go_wp2
      go_ret
      exact ⟨rfl, rfl⟩

/-- Behind i rounds. -/
structure RoundsInv (n i : Nat) (s : BSet) : Prop where
  rn : s.n = n
  none : s.none
  hand : s.hand = i % n
theorem rounds_new (n : Nat) : RoundsInv n 0 (BSet.new n) := ⟨rfl, fun j => has_new n j, (Nat.zero_mod n).symm⟩
theorem rounds_next {n i : Nat} {s : BSet} (h : RoundsInv n i s) (hok : s.Ok) : s.next = i % n := by
  have hl : s.hand < s.n := hok.hand
  have : s.free s.hand = s.hand := free_spec s s.hand (by omega) ⟨Nat.le_refl _, by omega⟩ (fun k h1 h2 => by omega) (fun _ => h.none _)
  unfold BSet.next
  rw [this, if_neg (by omega)]
  exact h.hand
theorem rounds_step {n i : Nat} {s : BSet} (h : RoundsInv n i s) (hok : s.Ok) : s.take.hasB ((i % n : Nat) : Int) = true ∧ RoundsInv n (i + 1) (s.take.clearI ((i % n : Nat) : Int)) := by
  have hn := rounds_next h hok
  have hl : s.hand < s.n := hok.hand
  have hlt : s.next < s.n := by rw [hn, ← h.hand]; exact hl
  have ht : s.take = { (s.mark s.next) with hand := (s.next + 1) % s.n } := by unfold BSet.take; rw [if_pos hlt]
  have hd := hok.div hlt
  have hhas : ∀ j, s.take.has j = decide (j = i % n) := fun j => by
    rw [ht]
    show (s.mark s.next).has j = _
    rw [has_mark s _ j hd, h.none j, hn]; simp
  have hin : inB s.take.n ((i % n : Nat) : Int) = true := by
    have e : s.take.n = s.n := by rw [ht]; rfl
    rw [e]; unfold inB; simp only [decide_eq_true_eq]; rw [← hn]; omega
  have hB : s.take.hasB ((i % n : Nat) : Int) = true := by
    unfold BSet.hasB
    rw [hin, Int.toNat_natCast, hhas]; simp
  refine ⟨hB, ?_⟩
  have hc : s.take.clearI ((i % n : Nat) : Int) = s.take.clear (i % n) := by unfold BSet.clearI; rw [if_pos hB, Int.toNat_natCast]
  rw [hc]
  have hdt : i % n / 64 < s.take.ws.length := by
    rw [ht, ← hn]
    show s.next / 64 < (s.ws.set _ _).length
    rw [List.length_set]; exact hd
  refine ⟨?_, fun j => ?_, ?_⟩
  · show s.take.n = n
    rw [ht]; exact h.rn
  · rw [has_clear _ _ _ hdt, hhas]; simp
  · show s.take.hand = (i + 1) % n
    rw [ht]
    show (s.next + 1) % s.n = _
    rw [hn, h.rn, Nat.mod_add_mod]

set_option maxRecDepth 100000 in
set_option maxHeartbeats 2000000 in
theorem bitsRounds_walk (n : BitVec 16) (r : BitVec 8) (w : World) : Calls Try.prog 3 #[.int .u16 (U n), .int .u8 (U r)] w (Good w) := by
  have n0 := U_nonneg n
  have n1 : U n < 65536 := by have := U_lt n; simpa using this
  have r0 := U_nonneg r
  have r1 : U r < 256 := by have := U_lt r; simpa using this
  obtain ⟨m, hm⟩ : ∃ m : Nat, U n % 300 + 1 = (m : Int) := ⟨(U n % 300 + 1).toNat, by omega⟩
  obtain ⟨R, hR⟩ : ∃ R : Nat, U r = (R : Int) := ⟨(U r).toNat, by omega⟩
  have m1 : 1 ≤ m := by omega
  have m2 : m ≤ 300 := by omega
  have HM := Lib.hid hm
  have HN := Lib.hid (new_any w.heap.size m ⟨m1, by omega⟩ w (Nat.le_refl _))
  rw [hR] at r0 r1
  clear hm
  go_enter Try.func3, Try.ntmps3
  go_upto_region 2 with (fail)
  rw [HM.out]
  have mm1 : (1 : Int) ≤ m := by omega
  have mm2 : (m : Int) ≤ 300 := by omega
  go_wp2_with (go_at_call 4; (with_reducible refine HN.out.mono ?_); rintro e w1 ⟨rfl, hb1, hw1⟩; have HB1 := Lib.hid hb1; have HW := Lib.hid hw1; clear hb1 hw1)
  clear hR
  go_loopw [7] (fun iv wr => ∃ (i : Nat) (s : BSet), i ≤ R ∧ iv = .int .i64 i ∧ RoundsInv m i s ∧ BitsAt w.heap.size wr (w.heap.size + 1) w.heap.size ((m + 63) / 64) s ∧ Below w.heap.size w wr) (fun iv _ => R - (intOf iv).toNat)
  case atStart => exact ⟨0, BSet.new m, Nat.zero_le _, rfl, rounds_new m, HB1.out, HW.out⟩
  case round =>
    obtain ⟨i, s, hi, rfl, hinv, hb, hB⟩ := hrel
    have hok := hb.ok
    by_cases hlt : i < R
    · have HTK := take_any hb
      have hnx := rounds_next hinv hok
      have hst := rounds_step hinv hok
      have hsn : i % m < m := Nat.mod_lt _ (by omega)
      have hres : takeRes s.n s.next = .tuple #[.int .i64 ((i % m : Nat) : Int), .bool true] := by
        unfold takeRes; rw [hnx, hinv.rn, if_pos hsn]
      rw [hres] at HTK
      have HTK := Lib.hid HTK
      have HCL : Hid (∀ W, BitsAt w.heap.size W (w.heap.size + 1) w.heap.size ((m + 63) / 64) s.take → Calls Try.prog 6 #[.pointer (some ⟨w.heap.size + 1, 0, none⟩), .int .i64 ((i % m : Nat) : Int)] W (BitsDid w.heap.size (w.heap.size + 1) w.heap.size ((m + 63) / 64) (s.take.clearI ((i % m : Nat) : Int)) (.bool true) W)) := fun W hW => by
        have := clear_any hW ((i % m : Nat) : Int)
        rwa [hst.1] at this
      have HST := Lib.hid hst.2
      have HB := Lib.hid hB
      have i1 : (i : Int) < R := by omega
      have hmod : (i : Int) % (m : Int) = ((i % m : Nat) : Int) := by push_cast; rfl
      obtain ⟨q, hq⟩ : ∃ q, i % m = q := ⟨_, rfl⟩
      rw [hq] at HTK HCL HST hmod
      clear hb hB hst hinv hok hres hnx hsn hq
      go_wp2_with (first
        | (go_at_call 5; (with_reducible refine HTK.out.mono ?_); rintro e w2 ⟨rfl, hb2, hm2⟩; have HB2 := Lib.hid (HCL.out _ hb2); have HM2 := Lib.hid hm2; clear hb2 hm2)
        | (go_at_call 6; (with_reducible refine HB2.out.mono ?_); rintro e w3 ⟨rfl, hb3, hm3⟩; have HB3 := Lib.hid hb3; have HM3 := Lib.hid hm3; clear hb3 hm3))
      go_roundw
      case rel =>
        have hm := HM2.out.trans HM3.out (fun _ _ h => h)
        exact ⟨i + 1, _, by omega, by go_num, HST.out, HB3.out, HB.out.trans (hm.below (fun j hj => by omega) HB.out.size)⟩
      case measure => simp [intOf]; omega
    · obtain rfl : i = R := by omega
      have HC := Lib.hid (count_none hb hinv.none)
      have HB := Lib.hid hB
      clear hb hB hinv hok
      go_wp2_with (first
        | (go_at_call 7; (with_reducible refine HC.out.mono ?_); rintro e w2 ⟨rfl, rfl⟩)
        | (go_at_call 8; (with_reducible refine (awake07 _).mono ?_); rintro e w3 ⟨rfl, hb3⟩))
      go_ret
      exact ⟨rfl, HB.out.trans (hb3.mono HB.out.size)⟩

set_option maxRecDepth 100000 in
theorem bitsRounds_lifted (os : Os) (started : os.Started) (H : Type) (enc : TypeId × Value → H) :
    ReturnsInHanded {} Try.checked os 3 .any (Rows.bitsRoundsSpec.pre6 enc Try.prog Try.f3 Rows.bitsRoundsRow.domain false) (Rows.bitsRoundsSpec.post enc Try.prog Try.f3 false true false false) :=
  law_lifted 3 Try.f3 Rows.bitsRoundsSpec Try.func3 (by kernel_rfl) rfl rfl
    (fun ds h => by match ds, h with | [_, _], _ => rfl) (by kernel_rfl) os started
    (ChangeSpec.witness6 (enc := enc) (C := Try.checked) false ⟨#[], #[.int .u16 0, .int .u8 0], []⟩ 8 (by kernel_rfl) (by kernel_rfl) (by kernel_rfl) (by kernel_rfl))
    fun W args ds ps hval hA => by
      rw [Try.params3] at hA hval
      obtain ⟨v0, vs0, d0, ds0, p0, q0, hargs, rfl, rfl, h0, r0⟩ := trodAll_cons hA
      obtain ⟨v1, vs1, d1, ds1, p1, q1, rfl, rfl, rfl, h1, r1⟩ := trodAll_cons r0
      obtain ⟨rfl, rfl, rfl⟩ := trodAll_nil r1
      obtain rfl : args = #[v0, v1] := by cases args; simp_all
      obtain ⟨b0, o0⟩ := hval 0 _ v0 rfl rfl
      obtain ⟨b1, o1⟩ := hval 1 _ v1 rfl rfl
      obtain ⟨a0, rfl, rfl, rfl, w0⟩ := open_int Try.underlying22 o0 h0
      obtain ⟨x0, rfl⟩ := wf_u16 w0
      obtain ⟨a1, rfl, rfl, rfl, w1⟩ := open_int Try.underlying5 o1 h1
      obtain ⟨x1, rfl⟩ := wf_u8 w1
      exact bitsRounds_walk x0 x1 W

/-- The statement. -/
theorem bitsRounds_holds : Rows.BitsRoundsSaid :=
  OpenClaim.holds_of_wide 3 Try.f3 rfl rfl rfl rfl rfl rfl rfl ⟨rfl, rfl, rfl, rfl, rfl⟩ rfl rfl rfl rfl rfl (by kernel_rfl) Try.func3 (by kernel_rfl)
    (of_decide_eq_true (by kernel_rfl)) (by unfold Func.isWrapper; first | (rw [if_pos (by decide +kernel)]; kernel_rfl) | (rw [if_neg (by decide +kernel)]; exact ⟨rfl, rfl⟩))
    (fun os started H enc _ => bitsRounds_lifted os started H enc)
#print axioms bitsRounds_holds

end Go.Proofs.Ytmoddomdbjpnnaa

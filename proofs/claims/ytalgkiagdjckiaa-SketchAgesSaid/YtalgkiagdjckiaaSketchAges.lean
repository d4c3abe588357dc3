/-
  Proved: behind ten times its width of marks a sketch has the age 0, and no guess above 7. Whatever numbers come in, the law SketchAges answers true and the arguments read as they did.
  Conditions: none.
-/
import Derived.Test.YtalgkiagdjckiaaSk8
import Derived.Test.YtalgkiagdjckiaaLaw
namespace Go.Proofs.Ytalgkiagdjckiaa
open Go.ChangeShapes Go.WideShapes Go.ChangeAt Go.RowKit

/-- The age of a sketch behind k marks, at most ten times its width. -/
def ageK (N k : Nat) : Nat := if k = 10 * N then 0 else k
theorem ageK_le (N k : Nat) (h : k ≤ 10 * N) : ageK N k ≤ 10 * N := by unfold ageK; split <;> omega
theorem ageK_next (N k : Nat) : mrkA N k = ageK N (k + 1) := rfl
theorem grw_le15 {C : Nat → Nat → Nat} (h : ∀ r j, C r j ≤ 15) (N : Nat) (k : BitVec 64) (l s i : Nat) : grw C N k l s i ≤ 15 := by
  unfold grw
  have := h s i
  split
  · omega
  · exact this
theorem mrkC_small {C : Nat → Nat → Nat} {N : Nat} {h : BitVec 64} {k : Nat} (hC : ∀ r j, C r j ≤ 15) (hk : k + 1 = 10 * N) (s i : Nat) : mrkC C N h k s i ≤ 7 := by
  rw [mrkC_old hk]
  unfold hlv
  have := grw_le15 hC N h (gss C N h) s i
  omega
theorem gss_small {C : Nat → Nat → Nat} {N : Nat} {h : BitVec 64} (hC : ∀ r j, C r j ≤ 7) : gss C N h ≤ 7 := Nat.le_trans (gss_le_row (r := 0) (by decide)) (hC _ _)
theorem pow_next (k m : Nat) (hk : k < m) (hm : m ≤ 7) : wrap64 (((2 ^ (k + 1) : Nat) : Int) * 2) = ((2 ^ (k + 1 + 1) : Nat) : Int) := by
  have h := Nat.pow_le_pow_right (n := 2) (by decide) (show k + 1 ≤ 7 by omega)
  rw [Nat.pow_succ 2 (k + 1)]
  generalize 2 ^ (k + 1) = M at *
  rw [IntWalk.wrap64_in _ ⟨by omega, by omega⟩]; omega
/-- What a round of the marks keeps. -/
structure AgeAt (w : World) (G : Nat) (b : Nat → Nat) (N k : Nat) (W : World) : Prop where
  sk : ∃ C, SkAt W G b N (ageK N k) C ∧ (k = 10 * N → ∀ r j, C r j ≤ 7)
  below : Below w.heap.size w W
set_option maxRecDepth 100000 in
set_option maxHeartbeats 2000000 in
theorem sketchAges_walk (h : BitVec 64) (x : BitVec 8) (w : World) : Calls Try.prog 6 #[.int .u64 (U h), .int .u8 (U x)] w (Good w) := by
  obtain ⟨m, hm, hm4⟩ : ∃ m : Nat, (U x).tmod 5 = (m : Int) ∧ m ≤ 4 := ⟨x.toNat % 5, by unfold U; exact (Int.ofNat_tmod x.toNat 5).symm, by omega⟩
  have x0 := U_nonneg x
  have x1 : U x ≤ 255 := by have := U_lt x; omega
  have xw : wrap64 (U x) = U x := IntWalk.wrap64_in _ ⟨by omega, by omega⟩
  go_enter Try.func6, Try.ntmps6
  go_wp2
  go_loopw [5, 6] (fun u i W => ∃ k : Nat, k ≤ m ∧ i = .int .i64 k ∧ u = .int .i64 ((2 ^ (k + 1) : Nat) : Int) ∧ W = w) (fun _ i _ => m - (intOf i).toNat)
  case atStart => exact ⟨0, Nat.zero_le _, rfl, rfl, rfl⟩
  case round =>
    obtain ⟨k, hk, rfl, rfl, rfl⟩ := hrel
    by_cases hlt : k < m
    · have k1 : (k : Int) < m := by omega
      have e2 := pow_next k m hlt (by omega)
      generalize ((2 ^ (k + 1) : Nat) : Int) = M at *
      go_wp2
      go_roundw
      case rel => exact ⟨k + 1, by omega, by go_num, by go_num, trivial⟩
      case measure => simp [intOf]; omega
    · obtain rfl : k = m := by omega
      obtain ⟨w0, rfl⟩ : ∃ w0, w0 = wr := ⟨_, rfl⟩
      have hwide : WideOk (2 ^ (k + 1)) := ⟨k + 1, by omega, by omega, rfl⟩
      obtain ⟨N, hN⟩ : ∃ N, 2 ^ (k + 1) = N := ⟨_, rfl⟩
      rw [hN] at hwide ⊢
      have hle := hwide.le
      have n10 : wrap64 (10 * (N : Int)) = ((10 * N : Nat) : Int) := by rw [IntWalk.wrap64_in _ ⟨by omega, by omega⟩]; omega
      have HNEW := Lib.hid (new_any hwide w0)
      have HLE := Lib.hid hle
      clear hN hwide hle hm4 hk hlt x0 x1
      go_wp2_with (go_at_call 8; (with_reducible refine HNEW.out.mono ?_); rintro e w1 ⟨rfl, h1, hb1⟩)
      have HW1 := Lib.hid h1
      have HB1 := Lib.hid hb1
      have HS : Hid (∀ i, SkS w0.heap.size (fun r => w0.heap.size + 1 + r) i → w0.heap.size ≤ i) := by
        rintro i (rfl | ⟨r, _, rfl⟩)
        · exact Nat.le_refl _
        · show w0.heap.size ≤ w0.heap.size + 1 + r; omega
      clear h1 hb1 HNEW
      generalize (fun r => w0.heap.size + 1 + r) = b at *
      go_loopw [8] (fun i W => ∃ j : Nat, j ≤ 10 * N ∧ i = .int .i64 j ∧ AgeAt w0 w0.heap.size b N j W) (fun i _ => 10 * N - (intOf i).toNat)
      case atStart =>
        have e0 : ageK N 0 = 0 := by unfold ageK; split <;> rfl
        exact ⟨0, Nat.zero_le _, rfl, ⟨fun _ _ => 0, by rw [e0]; exact HW1.out, fun _ _ _ => Nat.zero_le _⟩, HB1.out⟩
      case round =>
        obtain ⟨j, hj, rfl, ⟨C, hS, hC⟩, hB⟩ := hrel
        have HB := Lib.hid hB
        by_cases hlt : j < 10 * N
        · have ea : ageK N j = j := by unfold ageK; rw [if_neg (by omega)]
          rw [ea] at hS
          have HA := Lib.hid (age_any hS)
          obtain ⟨t, ht, ht3⟩ : ∃ t : Nat, (j : Int).tmod 3 = (t : Int) ∧ t ≤ 2 := ⟨j % 3, (Int.ofNat_tmod j 3).symm, by omega⟩
          have HM := Lib.hid (fun k => mark_any hS hlt k)
          have HSM := Lib.hid hS.small
          have j1 : (j : Int) < ((10 * N : Nat) : Int) := by omega
          have j2 : ((10 * N : Nat) : Int) ≤ 40960 := by have := HLE.out; omega
          have e4 : IntKind.u64.wrap (t : Int) = (t : Int) := by simp [IntKind.wrap, IntKind.bits, IntKind.signed]; omega
          have e5 : IntKind.u64.wrap (U h + (t : Int)) = U (h + BitVec.ofInt 64 (t : Int)) := add_u64 h _
          have HLT := Lib.hid hlt
          obtain ⟨y, hy⟩ : ∃ y, h + BitVec.ofInt 64 (t : Int) = y := ⟨_, rfl⟩
          rw [hy] at e5
          clear hS hC hB hj hlt ea hy ht3
          go_wp2_with (first
            | (go_at_call 21; (with_reducible refine HA.out.mono ?_); rintro e w2 ⟨rfl, rfl⟩)
            | (go_at_call 19; (with_reducible refine (HM.out _).mono ?_); rintro e w3 ⟨rfl, h3, m3⟩; have H3 := Lib.hid h3; have M3 := Lib.hid m3; clear HM h3 m3))
          go_roundw
          case rel =>
            refine ⟨j + 1, by have := HLT.out; omega, by go_num, ⟨_, H3.out, fun e r i => mrkC_small HSM.out e r i⟩, ?_⟩
            have := M3.out.below (B := w0.heap.size) HS.out (by have := HB.out.size; omega)
            exact HB.out.trans this
          case measure => have := HLT.out; simp [intOf]; omega
        · obtain rfl : j = 10 * N := by omega
          have ea : ageK N (10 * N) = 0 := by unfold ageK; rw [if_pos rfl]
          rw [ea] at hS
          have HA := Lib.hid (age_any hS)
          have HG1 := Lib.hid (guess_any hS h)
          have HG2 := Lib.hid (fun V (hb : Below wr.heap.size wr V) => guess_any (hS.same hb) (h + 1#64))
          have g1 := gss_small (N := N) (h := h) (hC rfl)
          have g2 := gss_small (N := N) (h := h + 1#64) (hC rfl)
          have e5 : IntKind.u64.wrap (U h + 1) = U (h + 1#64) := add_u64 h 1
          obtain ⟨x1, hx1⟩ : ∃ x, gss C N h = x := ⟨_, rfl⟩
          obtain ⟨x2, hx2⟩ : ∃ x, gss C N (h + 1#64) = x := ⟨_, rfl⟩
          obtain ⟨y, hy⟩ : ∃ y, h + 1#64 = y := ⟨_, rfl⟩
          rw [hx1] at HG1 g1
          rw [hx2] at HG2 g2
          rw [hy] at HG2 e5
          have k1 : (x1 : Int) ≤ 7 := by omega
          have k2 : (x2 : Int) ≤ 7 := by omega
          clear hS hC hB hlt hj ea hx1 hx2 hy
          go_wp2_with (first
            | (go_at_call 21; (with_reducible refine HA.out.mono ?_); rintro e w2 ⟨rfl, rfl⟩)
            | (go_at_call 22; (with_reducible refine HG1.out.mono ?_); rintro e w3 ⟨rfl, hb3⟩; have H3 := Lib.hid (HG2.out _ hb3); have HB3 := Lib.hid hb3; clear HG1 hb3)
            | (go_at_call 22; (with_reducible refine H3.out.mono ?_); rintro e w4 ⟨rfl, hb4⟩; have HB4 := Lib.hid hb4; clear H3 hb4)
            | (go_at_call 11; (with_reducible refine (awake23 _).mono ?_); rintro e w5 ⟨rfl, hb5⟩; have HB5 := Lib.hid hb5; clear hb5))
          go_ret
          have b0 := HB.out
          have b1 := b0.trans (HB3.out.mono b0.size)
          have b2 := b1.trans (HB4.out.mono b1.size)
          exact ⟨rfl, b2.trans (HB5.out.mono b2.size)⟩

set_option maxRecDepth 100000 in
theorem sketchAges_lifted (os : Os) (started : os.Started) (H : Type) (enc : TypeId × Value → H) :
    ReturnsInHanded {} Try.checked os 6 .any (Rows.sketchAgesSpec.pre6 enc Try.prog Try.f6 Rows.sketchAgesRow.domain false) (Rows.sketchAgesSpec.post enc Try.prog Try.f6 false true false false) :=
  law_lifted 6 Try.f6 Rows.sketchAgesSpec Try.func6 (by kernel_rfl) rfl rfl
    (fun ds h => by match ds, h with | [_, _], _ => rfl) (by kernel_rfl) os started
    (ChangeSpec.witness6 (enc := enc) (C := Try.checked) false ⟨#[], #[.int .u64 0, .int .u8 0], []⟩ 8 (by kernel_rfl) (by kernel_rfl) (by kernel_rfl) (by kernel_rfl))
    fun W args ds ps hval hA => by
      rw [Try.params6] at hA hval
      obtain ⟨v0, vs0, d0, ds0, p0, q0, hargs, rfl, rfl, h0, r0⟩ := trodAll_cons hA
      obtain ⟨v1, vs1, d1, ds1, p1, q1, rfl, rfl, rfl, h1, r1⟩ := trodAll_cons r0
      obtain ⟨rfl, rfl, rfl⟩ := trodAll_nil r1
      obtain rfl : args = #[v0, v1] := by cases args; simp_all
      obtain ⟨b0, o0⟩ := hval 0 _ v0 rfl rfl
      obtain ⟨b1, o1⟩ := hval 1 _ v1 rfl rfl
      obtain ⟨a0, rfl, rfl, rfl, w0⟩ := open_int Try.underlying32 o0 h0
      obtain ⟨x0, rfl⟩ := wf_u64 w0
      obtain ⟨a1, rfl, rfl, rfl, w1⟩ := open_int Try.underlying5 o1 h1
      obtain ⟨x1, rfl⟩ := wf_u8 w1
      exact sketchAges_walk x0 x1 W

/-- The statement. -/
theorem sketchAges_holds : Rows.SketchAgesSaid :=
  OpenClaim.holds_of_wide 6 Try.f6 rfl rfl rfl rfl rfl rfl rfl ⟨rfl, rfl, rfl, rfl, rfl⟩ rfl rfl rfl rfl rfl (by kernel_rfl) Try.func6 (by kernel_rfl)
    (of_decide_eq_true (by kernel_rfl)) (by unfold Func.isWrapper; first | (rw [if_pos (by decide +kernel)]; kernel_rfl) | (rw [if_neg (by decide +kernel)]; exact ⟨rfl, rfl⟩))
    (fun os started H enc _ => sketchAges_lifted os started H enc)
#print axioms sketchAges_holds

end Go.Proofs.Ytalgkiagdjckiaa

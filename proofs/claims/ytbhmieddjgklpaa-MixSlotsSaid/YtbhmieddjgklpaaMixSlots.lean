/-
  Proved: the numbers that begin with any bits are those of the document. Whatever prefix, bits and depth come in, the law MixSlots answers true and the arguments read as they did.
  Conditions: none.
-/
import Derived.Test.YtbhmieddjgklpaaLaw
import Derived.Test.YtbhmieddjgklpaaMixAwake
import Derived.Test.YtbhmieddjgklpaaRefSlots
import Derived.Deep.QuietTactic
import Derived.BigQuiet
namespace Go.Proofs.Ytbhmieddjgklpaa
open Go.ChangeShapes Go.WideShapes Go.ChangeAt Go.RowKit

set_option maxRecDepth 100000 in
set_option maxHeartbeats 1000000 in
/-- Rows that are the same. -/
theorem mixSlots_same (p b d : Int) (hd : d ≤ 12 ∨ 20 < d) (xs : List Int) (hx : xs.length ≤ 1048576)
    (h1 : ∀ w : World, Calls Try.prog 28 #[.int .i64 p, .int .i64 b, .int .i64 d] w fun e W' => ∃ v, e = .returned v ∧ Ints W' v xs ∧ Below w.heap.size w W')
    (h2 : ∀ w : World, Calls Try.prog 29 #[.int .i64 p, .int .i64 b, .int .i64 d] w fun e W' => ∃ v, e = .returned v ∧ Ints W' v xs ∧ Below w.heap.size w W') (w : World) :
    Calls Try.prog 10 #[.int .i64 p, .int .i64 b, .int .i64 d] w (Good w) := by
  have hl : (xs.length : Int) ≤ 1048576 := by omega
  rcases hd with hd | hd
  all_goals
    go_enter Try.func10, Try.ntmps10
    go_wp2_with (first
      | (go_at_call 28; refine (h1 _).mono ?_; rintro e w1 ⟨v1, rfl, hi1, hb1⟩; obtain ⟨a1, cap1, rfl, hv1⟩ := hi1; have hi1 : Ints w1 (.slice a1 xs.length cap1) xs := ⟨_, _, rfl, hv1⟩)
      | (go_at_call 29; refine (h2 _).mono ?_; rintro e w2 ⟨v2, rfl, hi2, hb2⟩; have hi1' := hi1.below hb2 (Nat.le_refl _); obtain ⟨a2, cap2, rfl, hv2⟩ := hi2; clear hi1))
    have hW := (hb1.trans (hb2.mono hb1.size))
    have hz : w.heap.size ≤ w2.heap.size := hW.size
    clear hb1 hb2
    obtain ⟨b1, _, he1, hc1⟩ := hi1'
    simp only [Value.slice.injEq] at he1
    obtain ⟨rfl, _, _⟩ := he1
    go_loopw [9] (fun i wr => ∃ k : Nat, k ≤ xs.length ∧ i = .int .i64 k ∧ Below w2.heap.size w2 wr) (fun i _ => xs.length - (intOf i).toNat)
    case atStart => exact ⟨0, Nat.zero_le _, rfl, Below.refl _ _⟩
    case round =>
      obtain ⟨k, hk, rfl, hB⟩ := hrel
      by_cases hlt : k < xs.length
      · have hne : xs ≠ [] := by intro h; subst h; simp at hlt
        rcases hc1 with h | ⟨g1, off1, rfl, hc1⟩
        · exact absurd h hne
        rcases hv2 with h | ⟨g2, off2, rfl, hc2⟩
        · exact absurd h hne
        have c1 := (hB.cell (p := ⟨g1, off1 + k, none⟩) (World.block_lt_of_cell? _ _ (hc1 k hlt))).trans (hc1 k hlt)
        have c2 := (hB.cell (p := ⟨g2, off2 + k, none⟩) (World.block_lt_of_cell? _ _ (hc2 k hlt))).trans (hc2 k hlt)
        have p0 : 0 ≤ (k : Int) := by omega
        have p1 : (k : Int) < xs.length := by omega
        clear hc1 hc2 hv1 hne
        go_wp2_with fail
        go_quiet (fail)
        go_wp2
        go_roundw
        case rel => exact ⟨k + 1, by omega, by go_num, below_drewN hB _⟩
        case measure => simp [intOf]; omega
      · obtain rfl : k = xs.length := by omega
        go_wp2_with (go_at_call 27; refine (awake02 _).mono ?_; rintro e w' ⟨rfl, hB3⟩)
        go_ret
        exact ⟨rfl, (hW.trans (hB.mono hz)).trans (hB3.mono (Nat.le_trans hz hB.size))⟩

theorem Ints.nil (w : World) : Ints w (.slice none 0 0) [] := ⟨none, 0, rfl, .inl rfl⟩

theorem mixSlots_walk (p b d : Int) (w0 : (Lit.int .i64 p).wf = true) (_w1 : (Lit.int .i64 b).wf = true) (_w2 : (Lit.int .i64 d).wf = true) (w : World) :
    Calls Try.prog 10 #[.int .i64 p, .int .i64 b, .int .i64 d] w (Good w) := by
  by_cases hm : 12 < d ∧ d ≤ 20
  · obtain ⟨m1, m2⟩ := hm
    go_enter Try.func10, Try.ntmps10
    go_wp2
    go_ret
    exact ⟨rfl, Below.refl _ _⟩
  have hd : d ≤ 12 ∨ 20 < d := by omega
  by_cases hbad : b < 0 ∨ d < b ∨ 20 < d ∨ p < 0
  · refine mixSlots_same p b d hd [] (by simp) (fun w => ?_) (fun w => ?_) w
    · exact (lslots_out p b d (by omega) w).mono fun e W' ⟨he, hw⟩ => ⟨_, he, Ints.nil _, hw ▸ Below.refl _ _⟩
    · exact (refSlots_out p b d hbad w).mono fun e W' ⟨he, hw⟩ => ⟨_, he, Ints.nil _, hw ▸ Below.refl _ _⟩
  obtain ⟨p, rfl⟩ := Int.eq_ofNat_of_zero_le (a := p) (by omega)
  obtain ⟨b, rfl⟩ := Int.eq_ofNat_of_zero_le (a := b) (by omega)
  obtain ⟨d, rfl⟩ := Int.eq_ofNat_of_zero_le (a := d) (by omega)
  obtain ⟨f, rfl⟩ : ∃ f, d = b + f := ⟨d - b, by omega⟩
  have hpow : (2 : Nat) ^ (b + f) = 2 ^ b * 2 ^ f := Nat.pow_add _ _ _
  have hN : 0 < 2 ^ f := Nat.two_pow_pos f
  by_cases hp : p < 2 ^ b
  · have hle : 2 ^ f ≤ 1048576 := (wrap_pow f (by omega)).2
    refine mixSlots_same p b (b + f : Nat) hd (upto (slotAt p (2 ^ f)) (2 ^ f)) (by rw [upto_length]; exact hle) (fun w => ?_) (fun w => ?_) w
    · refine (lslots_any p b (b + f) f rfl (by omega) hp w).mono fun e W' ⟨g, he, ho, hB⟩ => ⟨_, he, Ints.of_owns (base := w.heap.size) ?_, hB⟩
      rw [upto_length]
      exact ho
    · refine (refSlots_any p b (b + f) f rfl (by omega) w).mono fun e W' ⟨v, he, ho, hB⟩ => ⟨_, he, Ints.of_owns (base := w.heap.size) ?_, hB⟩
      rw [hpow, quos_all p _ _ hN hp] at ho
      exact ho
  · refine mixSlots_same p b (b + f : Nat) hd [] (by simp) (fun w => ?_) (fun w => ?_) w
    · refine (lslots_out p b (b + f : Nat) ?_ w).mono fun e W' ⟨he, hw⟩ => ⟨_, he, Ints.nil _, hw ▸ Below.refl _ _⟩
      refine .inr (.inr (.inr (.inr ⟨by omega, by omega, ?_⟩)))
      simp only [Int.toNat_natCast]
      have : 2 ^ b ≤ p := by omega
      exact_mod_cast this
    · refine (refSlots_any p b (b + f) f rfl (by omega) w).mono fun e W' ⟨v, he, ho, hB⟩ => ⟨_, he, Ints.of_owns (base := w.heap.size) ?_, hB⟩
      rw [hpow, quos_none p _ _ (by omega)] at ho
      exact ho

set_option maxRecDepth 100000 in
theorem mixSlots_lifted (os : Os) (started : os.Started) (H : Type) (enc : TypeId × Value → H) :
    ReturnsInHanded {} Try.checked os 10 .any (Rows.mixSlotsSpec.pre6 enc Try.prog Try.f10 Rows.mixSlotsRow.domain false) (Rows.mixSlotsSpec.post enc Try.prog Try.f10 false true false false) :=
  law_lifted 10 Try.f10 Rows.mixSlotsSpec Try.func10 (by kernel_rfl) rfl rfl
    (fun ds h => by match ds, h with | [_, _, _], _ => rfl) (by kernel_rfl) os started
    (ChangeSpec.witness6 (enc := enc) (C := Try.checked) false ⟨#[], #[.int .i64 0, .int .i64 0, .int .i64 0], []⟩ 8 (by kernel_rfl) (by kernel_rfl) (by kernel_rfl) (by kernel_rfl))
    fun W args ds ps hval hA => by
      rw [Try.params10] at hA hval
      obtain ⟨v0, vs0, d0, ds0, p0, q0, hargs, rfl, rfl, h0, r0⟩ := trodAll_cons hA
      obtain ⟨v1, vs1, d1, ds1, p1, q1, rfl, rfl, rfl, h1, r1⟩ := trodAll_cons r0
      obtain ⟨v2, vs2, d2, ds2, p2, q2, rfl, rfl, rfl, h2, r2⟩ := trodAll_cons r1
      obtain ⟨rfl, rfl, rfl⟩ := trodAll_nil r2
      obtain rfl : args = #[v0, v1, v2] := by cases args; simp_all
      obtain ⟨b0, o0⟩ := hval 0 _ v0 rfl rfl
      obtain ⟨b1, o1⟩ := hval 1 _ v1 rfl rfl
      obtain ⟨b2, o2⟩ := hval 2 _ v2 rfl rfl
      obtain ⟨a0, rfl, rfl, rfl, w0⟩ := open_int Try.underlying3 o0 h0
      obtain ⟨a1, rfl, rfl, rfl, w1⟩ := open_int Try.underlying3 o1 h1
      obtain ⟨a2, rfl, rfl, rfl, w2⟩ := open_int Try.underlying3 o2 h2
      exact mixSlots_walk a0 a1 a2 w0 w1 w2 W

/-- The statement. -/
theorem mixSlots_holds : Rows.MixSlotsSaid :=
  OpenClaim.holds_of_wide 10 Try.f10 rfl rfl rfl rfl rfl rfl rfl ⟨rfl, rfl, rfl, rfl, rfl⟩ rfl rfl rfl rfl rfl (by kernel_rfl) Try.func10 (by kernel_rfl)
    (of_decide_eq_true (by kernel_rfl)) (by unfold Func.isWrapper; first | (rw [if_pos (by decide +kernel)]; kernel_rfl) | (rw [if_neg (by decide +kernel)]; exact ⟨rfl, rfl⟩))
    (fun os started H enc _ => mixSlots_lifted os started H enc)
#print axioms mixSlots_holds
end Go.Proofs.Ytbhmieddjgklpaa

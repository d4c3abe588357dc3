/-
  Proved: a tally that is not there tells nothing. Whatever kind and number come in, the law TallyNil answers true and the arguments read as they did.
  Conditions: none.
-/
import Derived.Test.YtjcpiljgbomceaaTal4
namespace Go.Proofs.Ytjcpiljgbomceaa
open Go.ChangeShapes Go.WideShapes Go.ChangeAt Go.RowKit

set_option maxRecDepth 100000 in
set_option maxHeartbeats 2000000 in
theorem tallyNil_walk (k n : Int) (_hk : (Lit.int .i64 k).wf = true) (hn : (Lit.int .i64 n).wf = true) (w : World) : Calls Try.prog 4 #[.int .i64 k, .int .i64 n] w (Good w) := by
  have HADD := Lib.hid (fun W => add_not (w := W) (.inl ⟨rfl, rfl⟩) k n (.inl (by unfold hasK; simp)))
  have HGET := Lib.hid (fun W => get_any (w := W) (.inl ⟨rfl, rfl⟩) k)
  have HG0 : Hid (getK [] k = 0) := by unfold Hid getK hasK; simp
  rw [HG0.out] at HGET
  have HS := Lib.hid (fun W => since_nil W n hn)
  clear hn _hk
  go_enter Try.func4, Try.ntmps4
  go_wp2_with (first
    | (go_at_call 16; (with_reducible refine (reset_nil _).mono ?_); rintro e w' ⟨rfl, rfl⟩)
    | (go_at_call 11; (with_reducible refine (HADD.out _).mono ?_); rintro e w' ⟨rfl, rfl⟩)
    | (go_at_call 12; (with_reducible refine (HGET.out _).mono ?_); rintro e w1 ⟨rfl, hb1⟩; have HB1 := Lib.hid hb1; clear hb1)
    | (go_at_call 8; (with_reducible refine (all_nil _).mono ?_); rintro e w2 ⟨v, rfl, hi, hf, hb2⟩; obtain ⟨a2, c2, rfl⟩ := hi.slice; have HB2 := Lib.hid hb2; clear hi hf hb2)
    | (go_at_call 14; (with_reducible refine (HS.out _).mono ?_); rintro e w3 ⟨v, rfl, hi, hf, hb3⟩; obtain ⟨a3, c3, rfl⟩ := hi.slice; have HB3 := Lib.hid ((Below.refl w2.heap.size w2).alloc (Nat.le_refl _) (.cells #[.int .i64 n] 3) |>.trans (hb3.mono (by simp))); clear hi hf hb3)
    | (go_at_call 9; (with_reducible refine (awake16 _).mono ?_); rintro e w4 ⟨rfl, hb4⟩; have HB4 := Lib.hid hb4; clear hb4))
  go_ret
  have b1 := HB1.out
  have b2 := b1.trans (HB2.out.mono b1.size)
  have b3 := b2.trans (HB3.out.mono b2.size)
  exact ⟨rfl, b3.trans (HB4.out.mono b3.size)⟩

set_option maxRecDepth 100000 in
theorem tallyNil_lifted (os : Os) (started : os.Started) (H : Type) (enc : TypeId × Value → H) :
    ReturnsInHanded {} Try.checked os 4 .any (Rows.tallyNilSpec.pre6 enc Try.prog Try.f4 Rows.tallyNilRow.domain false) (Rows.tallyNilSpec.post enc Try.prog Try.f4 false true false false) :=
  law_lifted 4 Try.f4 Rows.tallyNilSpec Try.func4 (by kernel_rfl) rfl rfl
    (fun ds h => by match ds, h with | [_, _], _ => rfl) (by kernel_rfl) os started
    (ChangeSpec.witness6 (enc := enc) (C := Try.checked) false ⟨#[], #[.int .i64 0, .int .i64 0], []⟩ 8 (by kernel_rfl) (by kernel_rfl) (by kernel_rfl) (by kernel_rfl))
    fun W args ds ps hval hA => by
      rw [Try.params4] at hA hval
      obtain ⟨v0, vs0, d0, ds0, p0, q0, hargs, rfl, rfl, h0, r0⟩ := trodAll_cons hA
      obtain ⟨v1, vs1, d1, ds1, p1, q1, rfl, rfl, rfl, h1, r1⟩ := trodAll_cons r0
      obtain ⟨rfl, rfl, rfl⟩ := trodAll_nil r1
      obtain rfl : args = #[v0, v1] := by cases args; simp_all
      obtain ⟨b0, o0⟩ := hval 0 _ v0 rfl rfl
      obtain ⟨b1, o1⟩ := hval 1 _ v1 rfl rfl
      obtain ⟨a0, rfl, rfl, rfl, w0⟩ := open_int Try.underlying3 o0 h0
      obtain ⟨a1, rfl, rfl, rfl, w1⟩ := open_int Try.underlying3 o1 h1
      exact tallyNil_walk a0 a1 w0 w1 W

/-- The statement. -/
theorem tallyNil_holds : Rows.TallyNilSaid :=
  OpenClaim.holds_of_wide 4 Try.f4 rfl rfl rfl rfl rfl rfl rfl ⟨rfl, rfl, rfl, rfl, rfl⟩ rfl rfl rfl rfl rfl (by kernel_rfl) Try.func4 (by kernel_rfl)
    (of_decide_eq_true (by kernel_rfl)) (by unfold Func.isWrapper; first | (rw [if_pos (by decide +kernel)]; kernel_rfl) | (rw [if_neg (by decide +kernel)]; exact ⟨rfl, rfl⟩))
    (fun os started H enc _ => tallyNil_lifted os started H enc)
#print axioms tallyNil_holds

end Go.Proofs.Ytjcpiljgbomceaa

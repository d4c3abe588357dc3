/-
  RecordEnds: what has ended at a time has ended at each later one; what has no end never has.
  Conditions: none.
-/
import Derived.Test.YtmpkalidpaeloaaRec3
import Derived.Test.YtmpkalidpaeloaaLaw
namespace Go.Proofs.Ytmpkalidpaeloaa
open Go.ChangeShapes Go.WideShapes Go.ChangeAt Go.RowKit

set_option maxHeartbeats 2000000 in
theorem ends_walk (n a l : Int) (hn : n ≤ 9223372036854775807) (W : World) : Calls Try.prog 7 #[.int .i64 n, .int .i64 a, .int .i64 l] W (Good W) := by
  have HEN := Lib.hid (fun n a => ended_any n a)
  have HAW := Lib.hid (fun W => awake09 W)
  have b0 : endedB 0 a = false := by simp [endedB]
  by_cases h0 : n = 0
  · subst h0
    go_enter Try.func7, Try.ntmps7
    go_wp2_with (first
      | (go_at_call 12; (with_reducible refine (HEN.out _ _ _).mono ?_); rintro e w2 ⟨rfl, rfl⟩)
      | (go_at_call 13; (with_reducible refine (HAW.out _).mono ?_); rintro e w2 ⟨rfl, hb⟩))
    go_ret
    exact ⟨rfl, hb⟩
  · have h0' : (n == 0) = false := by simpa using h0
    have b1 : endedB n n = true := by simpa [endedB] using h0
    by_cases h1 : n < 1
    · by_cases h2 : n ≤ a
      · have b2 : endedB n a = true := by simp [endedB, h0, h2]
        by_cases h3 : a ≤ l
        · have b3 : endedB n l = true := by simp [endedB, h0]; omega
          clear h0
          go_enter Try.func7, Try.ntmps7
          go_wp2_with (first
            | (go_at_call 12; (with_reducible refine (HEN.out _ _ _).mono ?_); rintro e w2 ⟨rfl, rfl⟩)
            | (go_at_call 13; (with_reducible refine (HAW.out _).mono ?_); rintro e w2 ⟨rfl, hb⟩))
          go_ret
          exact ⟨rfl, hb⟩
        · clear h0
          go_enter Try.func7, Try.ntmps7
          go_wp2_with (first
            | (go_at_call 12; (with_reducible refine (HEN.out _ _ _).mono ?_); rintro e w2 ⟨rfl, rfl⟩)
            | (go_at_call 13; (with_reducible refine (HAW.out _).mono ?_); rintro e w2 ⟨rfl, hb⟩))
          go_ret
          exact ⟨rfl, hb⟩
      · have b2 : endedB n a = false := by simp [endedB]; omega
        clear h0
        go_enter Try.func7, Try.ntmps7
        go_wp2_with (first
          | (go_at_call 12; (with_reducible refine (HEN.out _ _ _).mono ?_); rintro e w2 ⟨rfl, rfl⟩)
          | (go_at_call 13; (with_reducible refine (HAW.out _).mono ?_); rintro e w2 ⟨rfl, hb⟩))
        go_ret
        exact ⟨rfl, hb⟩
    · have b4 : endedB n (n - 1) = false := by simp [endedB]; omega
      by_cases h2 : n ≤ a
      · have b2 : endedB n a = true := by simp [endedB, h0, h2]
        by_cases h3 : a ≤ l
        · have b3 : endedB n l = true := by simp [endedB, h0]; omega
          clear h0
          go_enter Try.func7, Try.ntmps7
          go_wp2_with (first
            | (go_at_call 12; (with_reducible refine (HEN.out _ _ _).mono ?_); rintro e w2 ⟨rfl, rfl⟩)
            | (go_at_call 13; (with_reducible refine (HAW.out _).mono ?_); rintro e w2 ⟨rfl, hb⟩))
          go_ret
          exact ⟨rfl, hb⟩
        · clear h0
          go_enter Try.func7, Try.ntmps7
          go_wp2_with (first
            | (go_at_call 12; (with_reducible refine (HEN.out _ _ _).mono ?_); rintro e w2 ⟨rfl, rfl⟩)
            | (go_at_call 13; (with_reducible refine (HAW.out _).mono ?_); rintro e w2 ⟨rfl, hb⟩))
          go_ret
          exact ⟨rfl, hb⟩
      · have b2 : endedB n a = false := by simp [endedB]; omega
        clear h0
        go_enter Try.func7, Try.ntmps7
        go_wp2_with (first
          | (go_at_call 12; (with_reducible refine (HEN.out _ _ _).mono ?_); rintro e w2 ⟨rfl, rfl⟩)
          | (go_at_call 13; (with_reducible refine (HAW.out _).mono ?_); rintro e w2 ⟨rfl, hb⟩))
        go_ret
        exact ⟨rfl, hb⟩

set_option maxRecDepth 100000 in
theorem recordEnds_lifted (os : Os) (started : os.Started) (H : Type) (enc : TypeId × Value → H) :
    ReturnsInHanded {} Try.checked os 7 .any (Rows.recordEndsSpec.pre6 enc Try.prog Try.f7 Rows.recordEndsRow.domain false) (Rows.recordEndsSpec.post enc Try.prog Try.f7 false true false false) :=
  law_lifted 7 Try.f7 Rows.recordEndsSpec Try.func7 (by kernel_rfl) rfl rfl
    (fun ds h => by match ds, h with | [_, _, _], _ => rfl) (by kernel_rfl) os started
    (ChangeSpec.witness6 (enc := enc) (C := Try.checked) false ⟨#[], #[.int .i64 0, .int .i64 0, .int .i64 0], []⟩ 8 (by kernel_rfl) (by kernel_rfl) (by kernel_rfl) (by kernel_rfl))
    fun W args ds ps hval hA => by
      rw [Try.params7] at hA hval
      obtain ⟨v0, vs0, d0, ds0, p0, q0, hargs, rfl, rfl, h0, r0⟩ := trodAll_cons hA
      obtain ⟨v1, vs1, d1, ds1, p1, q1, rfl, rfl, rfl, h1, r1⟩ := trodAll_cons r0
      obtain ⟨v2, vs2, d2, ds2, p2, q2, rfl, rfl, rfl, h2, r2⟩ := trodAll_cons r1
      obtain ⟨rfl, rfl, rfl⟩ := trodAll_nil r2
      obtain rfl : args = #[v0, v1, v2] := by cases args; simp_all
      obtain ⟨b0, o0⟩ := hval 0 _ v0 rfl rfl
      obtain ⟨b1, o1⟩ := hval 1 _ v1 rfl rfl
      obtain ⟨b2, o2⟩ := hval 2 _ v2 rfl rfl
      obtain ⟨a0, rfl, rfl, rfl, w0⟩ := open_int Try.underlying3 o0 h0
      obtain ⟨a1, rfl, rfl, rfl, w1⟩ := open_int Try.underlying3 o1 h1
      obtain ⟨a2, rfl, rfl, rfl, w2⟩ := open_int Try.underlying3 o2 h2
      exact ends_walk a0 a1 a2 (by have := w0; simp [Lit.wf, IntKind.min, IntKind.max, IntKind.bits, IntKind.signed] at this; omega) W

/-- The statement. -/
theorem recordEnds_holds : Rows.RecordEndsSaid :=
  OpenClaim.holds_of_wide 7 Try.f7 rfl rfl rfl rfl rfl rfl rfl ⟨rfl, rfl, rfl, rfl, rfl⟩ rfl rfl rfl rfl rfl (by kernel_rfl) Try.func7 (by kernel_rfl)
    (of_decide_eq_true (by kernel_rfl)) (by unfold Func.isWrapper; first | (rw [if_pos (by decide +kernel)]; kernel_rfl) | (rw [if_neg (by decide +kernel)]; exact ⟨rfl, rfl⟩))
    (fun os started H enc _ => recordEnds_lifted os started H enc)
#print axioms recordEnds_holds
end Go.Proofs.Ytmpkalidpaeloaa

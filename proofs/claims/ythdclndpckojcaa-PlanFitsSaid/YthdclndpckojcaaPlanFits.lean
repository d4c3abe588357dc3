/-
  PlanFits: the layout of any plan, or that there is none; its bytes.
  Conditions: none.
-/
import Derived.Test.YthdclndpckojcaaPlanFits1
import Derived.Test.YthdclndpckojcaaRefFitYes
import Derived.Test.YthdclndpckojcaaRefFitNot
namespace Go.Proofs.Ythdclndpckojcaa
open Go.ChangeShapes Go.WideShapes Go.ChangeAt Go.RowKit

theorem refFits6 : RefFits := fun p w => by
  by_cases h : p.Alone
  · exact refFit_yes p h w
  · have hf : p.fits = false := by
      cases hf : p.fits with
      | false => rfl
      | true => exact absurd ((fits_iff p).1 hf).1 h
    obtain ⟨e1, e2⟩ := fit_no hf
    rw [e1, e2]
    exact refFit_not p h w
set_option maxRecDepth 100000 in
theorem planFits_lifted (os : Os) (started : os.Started) (H : Type) (enc : TypeId × Value → H) :
    ReturnsInHanded {} Try.checked os 3 .any (Rows.planFitsSpec.pre6 enc Try.prog Try.f3 Rows.planFitsRow.domain false) (Rows.planFitsSpec.post enc Try.prog Try.f3 false true false false) :=
  law_lifted 3 Try.f3 Rows.planFitsSpec Try.func3 (by kernel_rfl) rfl rfl
    (fun ds h => by match ds, h with | [_], _ => rfl) (by kernel_rfl) os started
    (ChangeSpec.witness6 (enc := enc) (C := Try.checked) false ⟨#[], #[.agg #[.int .i64 0, .int .i64 0, .int .i64 0, .int .i64 0, .int .i64 0, .int .i64 0, .int .i64 0, .int .u64 0]], []⟩ 8 (by kernel_rfl) (by kernel_rfl) (by kernel_rfl) (by kernel_rfl))
    fun W args ds ps hval hA => by
      rw [Try.params3] at hA hval
      obtain ⟨v0, vs0, d0, ds0, p0, q0, hargs, rfl, rfl, h0, r0⟩ := trodAll_cons hA
      obtain ⟨rfl, rfl, rfl⟩ := trodAll_nil r0
      obtain rfl : args = #[v0] := by cases args; simp_all
      obtain ⟨b0, o0⟩ := hval 0 _ v0 rfl rfl
      obtain ⟨q0, rfl, hq0⟩ := open_plan o0 h0
      exact planFits_walk refFits6 q0 W

/-- The statement. -/
theorem planFits_holds : Rows.PlanFitsSaid :=
  OpenClaim.holds_of_wide 3 Try.f3 rfl rfl rfl rfl rfl rfl rfl ⟨rfl, rfl, rfl, rfl, rfl⟩ rfl rfl rfl rfl rfl (by kernel_rfl) Try.func3 (by kernel_rfl)
    (of_decide_eq_true (by kernel_rfl)) (by unfold Func.isWrapper; first | (rw [if_pos (by decide +kernel)]; kernel_rfl) | (rw [if_neg (by decide +kernel)]; exact ⟨rfl, rfl⟩))
    (fun os started H enc _ => planFits_lifted os started H enc)
#print axioms planFits_holds
end Go.Proofs.Ythdclndpckojcaa

/-
  Proved: a sketch, whatever is marked, halved, guessed, packed and read again, guesses what the document's does. Whatever comes in (300 acts, a width of 64), the law SketchPlays answers true and the arguments read as they did.
  Conditions: none.
-/
import Derived.Test.YtalgkiagdjckiaaSketchPlays
namespace Go.Proofs.Ytalgkiagdjckiaa
open Go.ChangeShapes Go.WideShapes Go.ChangeAt Go.RowKit

set_option maxRecDepth 100000 in
theorem sketchPlays_lifted (os : Os) (started : os.Started) (H : Type) (enc : TypeId × Value → H) :
    ReturnsInHanded {} Try.checked os 3 .any (Rows.sketchPlaysSpec.pre6 enc Try.prog Try.f3 Rows.sketchPlaysRow.domain false) (Rows.sketchPlaysSpec.post enc Try.prog Try.f3 false true false false) :=
  law_lifted 3 Try.f3 Rows.sketchPlaysSpec Try.func3 (by kernel_rfl) rfl rfl
    (fun ds h => by match ds, h with | [_, _], _ => rfl) (by kernel_rfl) os started
    (ChangeSpec.witness6 (enc := enc) (C := Try.checked) false ⟨#[], #[.int .i64 0, .slice none 0 0], []⟩ 8 (by kernel_rfl) (by kernel_rfl) (by kernel_rfl) (by kernel_rfl))
    fun W args ds ps hval hA => by
      rw [Try.params3] at hA hval
      obtain ⟨v0, vs0, d0, ds0, p0, q0, hargs, rfl, rfl, h0, r0⟩ := trodAll_cons hA
      obtain ⟨v1, vs1, d1, ds1, p1, q1, rfl, rfl, rfl, h1, r1⟩ := trodAll_cons r0
      obtain ⟨rfl, rfl, rfl⟩ := trodAll_nil r1
      obtain rfl : args = #[v0, v1] := by cases args; simp_all
      obtain ⟨b0, o0⟩ := hval 0 _ v0 rfl rfl
      obtain ⟨b1, o1⟩ := hval 1 _ v1 rfl rfl
      obtain ⟨a0, rfl, rfl, rfl, _⟩ := open_int Try.underlying3 o0 h0
      obtain ⟨l1, hb1, _⟩ := open_words1 o1 h1
      exact sketchPlays_walk a0 v1 l1 W hb1

/-- The statement. -/
theorem sketchPlays_holds : Rows.SketchPlaysSaid :=
  OpenClaim.holds_of_wide 3 Try.f3 rfl rfl rfl rfl rfl rfl rfl ⟨rfl, rfl, rfl, rfl, rfl⟩ rfl rfl rfl rfl rfl (by kernel_rfl) Try.func3 (by kernel_rfl)
    (of_decide_eq_true (by kernel_rfl)) (by unfold Func.isWrapper; first | (rw [if_pos (by decide +kernel)]; kernel_rfl) | (rw [if_neg (by decide +kernel)]; exact ⟨rfl, rfl⟩))
    (fun os started H enc _ => sketchPlays_lifted os started H enc)
#print axioms sketchPlays_holds

end Go.Proofs.Ytalgkiagdjckiaa

/-
  sgraffitoref14's Right, called where its answer is known.
  Conditions: none.
-/
import Derived.Test.YtpihncafmjbccaaBkt9a
namespace Go.Proofs.Ytpihncafmjbccaa
open Go.RowKit

/-- A bucket that is answered, its cells written out. -/
def BktLit (d p : Int) (l : List Ent) (w : World) (e : Ending) (w' : World) : Prop := ∃ a n c, e = .returned (.agg #[.int .i64 d, .int .i64 p, .slice a n c]) ∧ EntsAt w'.heap.size w' (.slice a n c) l ∧ Below w.heap.size w w'
def RightCall (d p s : Int) (v : Value) (es : List Ent) (W : World) : Prop := Calls Try.prog 4 #[.agg #[.int .i64 d, .int .i64 p, v], .int .i64 s] W (RightRet d p s es W)
theorem right_is {d p s : Int} {v : Value} {es : List Ent} {W : World} (h : RightCall d p s v es W) (hr : Right14 d p s es) : Calls Try.prog 4 #[.agg #[.int .i64 d, .int .i64 p, v], .int .i64 s] W fun e w' => e = .returned (.bool true) ∧ Below W.heap.size W w' := by
  refine h.mono ?_
  rintro e w' ⟨r, rfl, hi, hb⟩
  rw [hi.2 hr]
  exact ⟨rfl, hb⟩
theorem right_not {d p s : Int} {v : Value} {es : List Ent} {W : World} (h : RightCall d p s v es W) (hr : ¬ Right14 d p s es) : Calls Try.prog 4 #[.agg #[.int .i64 d, .int .i64 p, v], .int .i64 s] W fun e w' => e = .returned (.bool false) ∧ Below W.heap.size W w' := by
  refine h.mono ?_
  rintro e w' ⟨r, rfl, hi, hb⟩
  cases r with
  | true => exact absurd (hi.1 rfl) hr
  | false => exact ⟨rfl, hb⟩
end Go.Proofs.Ytpihncafmjbccaa

/-
  What a writer's Text does, and what its calls answer where there is no writer.
  Conditions: none.
-/
import Derived.Test.YtlpfjmahinfeoaaWire3
namespace Go.Proofs.Ytlpfjmahinfeoaa
open Go.RowKit

/-! No writer -/
theorem number_nil (x : BitVec 64) (k : Int) (w : World) : Calls Try.prog 30 #[.pointer none, .int .u64 (U x), .int .i64 k] w fun e w' => e = .returned (.tuple #[]) ∧ Below w.heap.size w w' := by
  have HM := Lib.hid (may_any k w)
  have HT := Lib.hid (fun W => takes_nil (mayB k) k W)
  go_enter Try.func30, Try.ntmps30
  go_wp2_with (first
    | (go_at_call 53; refine HM.out.mono ?_; rintro e w' ⟨rfl, rfl⟩)
    | (go_at_call 52; refine (HT.out _).mono ?_; rintro e w' ⟨rfl, rfl⟩))
  go_end0
  exact ⟨rfl, (Below.refl _ _).alloc (Nat.le_refl _) _⟩
theorem bytes_nil (w : World) : Calls Try.prog 33 #[.pointer none] w fun e w' => e = .returned (.slice none 0 0) ∧ w = w' := by
  go_enter Try.func33, Try.ntmps33
  go_wp2
  go_ret
  exact ⟨rfl, rfl⟩

end Go.Proofs.Ytlpfjmahinfeoaa

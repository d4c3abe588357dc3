/-
  A region that draws its order, whose operations only read, and whose callees write nothing that was there: walked once, in the order of the text.
  Conditions: none.
-/
import Derived.Test.YtalgkiagdjckiaaRange
import Derived.BigQuiet
import Derived.Deep.QuietTactic
namespace Go.Proofs.Ytalgkiagdjckiaa
open Go.RowKit

/-- A world in which nothing that w has has turned. -/
structure After (w : World) where
  v : World
  h : Below w.heap.size w v
instance (w : World) : Inhabited (After w) := ⟨⟨w, Below.refl _ w⟩⟩
theorem wp_region_after {P : Program} {id : Nat} {Q : Exit → Act → World → Prop} {a : Act} {w : World} {l : List Oper} (hm : P.follows .mixedOrders = true) (hB : Region.lexB .any l.toArray = true)
    (h : wpQuiet P l.toArray (fun w' => ∃ p : After w, w' = p.v) (fun a' => ∀ w', (∃ p : After w, w' = p.v) → Q .normal a' w') l a) : (Code.region id l.toArray true).wp P Q a w :=
  wp_region_quiet (C := fun w' => ∃ p : After w, w' = p.v) hm hB ⟨⟨w.drew, (Below.refl _ w).drew⟩, rfl⟩ (by simpa using h)
theorem after_call {P : Program} {f : FuncId} {args : Array Value} {w : World} {p : After w} {v : Value}
    (h : Calls P f args p.v fun e w' => e = .returned v ∧ Below p.v.heap.size p.v w') : Calls P f args p.v fun e w'' => e = .returned v ∧ ∃ q : After w, w'' = q.v :=
  h.mono fun _ w' ⟨he, hb⟩ => ⟨he, ⟨w', p.h.trans (hb.mono p.h.size)⟩, rfl⟩
theorem after_cell {w : World} {b i : Nat} {v : Value} (hc : w.cell? ⟨b, i, none⟩ = some v) (p : After w) : p.v.cell? ⟨b, i, none⟩ = some v := (p.h.cell (p := ⟨b, i, none⟩) (World.block_lt_of_cell? _ _ hc)).trans hc
end Go.Proofs.Ytalgkiagdjckiaa

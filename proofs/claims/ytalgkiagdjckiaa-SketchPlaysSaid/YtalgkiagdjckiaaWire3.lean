/-
  A writer's calls: wire.NewWriter, Number, Text, Raw, Full, Bytes.
  Conditions: none.
-/
import Derived.Test.YtalgkiagdjckiaaWire2
import Derived.Test.YtalgkiagdjckiaaClone
import Derived.Outline
namespace Go.Proofs.Ytalgkiagdjckiaa
open Go.RowKit

/-- What a writer has behind bytes that are to be written ('none': what may not be). -/
def wRow (row : List (BitVec 8)) (limit : Int) (full : Bool) : Option (List (BitVec 8)) → List (BitVec 8)
  | none => row
  | some bs => if full = true ∨ limit < row.length + bs.length then row else row ++ bs
def wFull (row : List (BitVec 8)) (limit : Int) (full : Bool) : Option (List (BitVec 8)) → Bool
  | none => true
  | some bs => full || decide (limit < row.length + bs.length)
theorem WStep.before {B k : Nat} {v v' : Value} {w w' : World} (h : WStep B v v' (w.drewN k) w') : WStep B v v' w w' := ⟨⟨h.moves.os, h.moves.tape, h.moves.output, h.moves.size, h.moves.block⟩, h.own⟩

/-- A text ahead of which its length stands. -/
def textB (bs : List (BitVec 8)) : Option (List (BitVec 8)) := if bs.length ≤ 65535 then some (leB 2 (BitVec.ofNat 64 bs.length) ++ bs) else none
def numB (x : BitVec 64) (k : Int) : Option (List (BitVec 8)) := if mayB k = true then some (leB k.toNat x) else none

theorem WStep.behind {B : Nat} {v v' : Value} {w w0 w' : World} (hb : Below w.heap.size w w0) (h : WStep B v v' w0 w') : WStep B v v' w w' :=
  ⟨(Moves.of_below hb).trans h.moves (fun _ _ h => h), fun i hi => by
    rcases h.own i hi with e | e
    · exact .inl e
    · right; have := hb.size; omega⟩
end Go.Proofs.Ytalgkiagdjckiaa

/-
  No cell of these rows narrows 'for every input' (looked for: loops, veiled, ifaces, maps, wideKeys, modest, calm, conditions, laid).
  DERIVED. THE GIVEN ROWS OF THIS SEAT. 5 by the template 'for every input the law returns true; each argument reads behind the call as it read before'; 0 by the template 'total and deterministic' (their statements: YtiddfilhfdkogaaTotals.lean).
  GIVEN WITH THE SEED: the statements are not yours to turn. If you find one false, say at which input.
  Laid BY PROGRAM, IN A SANDBOX (cutbox-rows.mjs): the forced cells as the released guide's own fill.sh prints them over the translation 53eac1c313176066… (all of the seat's roots in one cut). By AI agents, Wed Nov 11 2026. No macro, syntax, notation, axiom, sorry.
-/
import Derived.Test.YtiddfilhfdkogaaChecked
import GoSem.Claim
import GoSem.ClaimJoined
import GoSem.ClaimMapViews
import Derived.JoinedTies
import Derived.KernelRfl
namespace Go.Proofs.Ytiddfilhfdkogaa
/- THE CELL 'sum', in the pinned program and in every row, IS THE sha256 OF THE DUMP (.gsa) THAT YtiddfilhfdkogaaProg.lean LOADS. Nothing in Lean hashes anything: it is a label: what it is worth is what the hold of that sum in a sandbox is worth. -/
noncomputable def Try.pinned : Pinned := { name := "ytiddfilhfdkogaa", sum := "53eac1c313176066ca426f0295ecc68f1b5f6e07e352b7ae681f10e7682e7e90", checked := Try.checked }
namespace Rows
def none {H : Type} : Left H := { results := [], args := [] }

/-- 'sgraffitolaw11.RegionRecords': WHATEVER THE INPUT: true; the input reads as it did. -/
def regionRecordsSpec : ChangeSpec := { name := "regionRecords", fn := fun _ => fun
  | [d] => { results := [.lit (.bool true)], args := [d] }
  | _ => none }
def regionRecordsRow : OpenClaim := { program := "ytiddfilhfdkogaa", sum := "53eac1c313176066ca426f0295ecc68f1b5f6e07e352b7ae681f10e7682e7e90", func := "sgraffito/sgraffitolaw11.RegionRecords", spec := "regionRecords", unfollowed := true, recurses := true, apart := false }
def RegionRecordsSaid : Prop := regionRecordsRow.holds Try.pinned (OpenSpec.ofChange regionRecordsSpec)

/-- ITS FALSE NEIGHBOUR: 'it returns false'. Refute it at one input. -/
def regionRecordsWrong : ChangeSpec := { name := "regionRecords", fn := fun _ => fun
  | [d] => { results := [.lit (.bool false)], args := [d] }
  | _ => none }
def RegionRecordsWrongFalsely : Prop := regionRecordsRow.holds Try.pinned (OpenSpec.ofChange regionRecordsWrong)

/-- 'sgraffitolaw11.RegionPlans': WHATEVER THE INPUT: true; the input reads as it did. -/
def regionPlansSpec : ChangeSpec := { name := "regionPlans", fn := fun _ => fun
  | [d1, d2] => { results := [.lit (.bool true)], args := [d1, d2] }
  | _ => none }
def regionPlansRow : OpenClaim := { program := "ytiddfilhfdkogaa", sum := "53eac1c313176066ca426f0295ecc68f1b5f6e07e352b7ae681f10e7682e7e90", func := "sgraffito/sgraffitolaw11.RegionPlans", spec := "regionPlans", unfollowed := true, recurses := true, apart := false }
def RegionPlansSaid : Prop := regionPlansRow.holds Try.pinned (OpenSpec.ofChange regionPlansSpec)

/-- ITS FALSE NEIGHBOUR: 'it returns false'. Refute it at one input. -/
def regionPlansWrong : ChangeSpec := { name := "regionPlans", fn := fun _ => fun
  | [d1, d2] => { results := [.lit (.bool false)], args := [d1, d2] }
  | _ => none }
def RegionPlansWrongFalsely : Prop := regionPlansRow.holds Try.pinned (OpenSpec.ofChange regionPlansWrong)

/-- 'sgraffitolaw11.RegionNil': WHATEVER THE INPUT: true; the input reads as it did. -/
def regionNilSpec : ChangeSpec := { name := "regionNil", fn := fun _ => fun
  | [d] => { results := [.lit (.bool true)], args := [d] }
  | _ => none }
def regionNilRow : OpenClaim := { program := "ytiddfilhfdkogaa", sum := "53eac1c313176066ca426f0295ecc68f1b5f6e07e352b7ae681f10e7682e7e90", func := "sgraffito/sgraffitolaw11.RegionNil", spec := "regionNil", unfollowed := true, recurses := true, apart := false }
def RegionNilSaid : Prop := regionNilRow.holds Try.pinned (OpenSpec.ofChange regionNilSpec)

/-- ITS FALSE NEIGHBOUR: 'it returns false'. Refute it at one input. -/
def regionNilWrong : ChangeSpec := { name := "regionNil", fn := fun _ => fun
  | [d] => { results := [.lit (.bool false)], args := [d] }
  | _ => none }
def RegionNilWrongFalsely : Prop := regionNilRow.holds Try.pinned (OpenSpec.ofChange regionNilWrong)

/-- 'sgraffitolaw11.RegionWheres': WHATEVER THE INPUT: true; the input reads as it did. -/
def regionWheresSpec : ChangeSpec := { name := "regionWheres", fn := fun _ => fun
  | [d] => { results := [.lit (.bool true)], args := [d] }
  | _ => none }
def regionWheresRow : OpenClaim := { program := "ytiddfilhfdkogaa", sum := "53eac1c313176066ca426f0295ecc68f1b5f6e07e352b7ae681f10e7682e7e90", func := "sgraffito/sgraffitolaw11.RegionWheres", spec := "regionWheres", unfollowed := true, recurses := true, apart := false }
def RegionWheresSaid : Prop := regionWheresRow.holds Try.pinned (OpenSpec.ofChange regionWheresSpec)

/-- ITS FALSE NEIGHBOUR: 'it returns false'. Refute it at one input. -/
def regionWheresWrong : ChangeSpec := { name := "regionWheres", fn := fun _ => fun
  | [d] => { results := [.lit (.bool false)], args := [d] }
  | _ => none }
def RegionWheresWrongFalsely : Prop := regionWheresRow.holds Try.pinned (OpenSpec.ofChange regionWheresWrong)

/-- 'sgraffitolaw11.RegionStale': WHATEVER THE INPUT: true; the input reads as it did. -/
def regionStaleSpec : ChangeSpec := { name := "regionStale", fn := fun _ => fun
  | [d1, d2] => { results := [.lit (.bool true)], args := [d1, d2] }
  | _ => none }
def regionStaleRow : OpenClaim := { program := "ytiddfilhfdkogaa", sum := "53eac1c313176066ca426f0295ecc68f1b5f6e07e352b7ae681f10e7682e7e90", func := "sgraffito/sgraffitolaw11.RegionStale", spec := "regionStale", unfollowed := true, recurses := true, apart := false }
def RegionStaleSaid : Prop := regionStaleRow.holds Try.pinned (OpenSpec.ofChange regionStaleSpec)

/-- ITS FALSE NEIGHBOUR: 'it returns false'. Refute it at one input. -/
def regionStaleWrong : ChangeSpec := { name := "regionStale", fn := fun _ => fun
  | [d1, d2] => { results := [.lit (.bool false)], args := [d1, d2] }
  | _ => none }
def RegionStaleWrongFalsely : Prop := regionStaleRow.holds Try.pinned (OpenSpec.ofChange regionStaleWrong)

/- THE SECOND FORM. 'bulk': how many values and letters a reading holds, each counted each time it is reached (what is shared counts as often as it is met; a slice's spare places count too). A statement '..UptoSaid' is the law's where the arguments, and the package variables that the reading takes, are together of bulk at most 1048576: NARROWER than '..Said'. Prove '..Said' where nothing that the law and all that it calls make is longer than what came in: it says more and counts as full. Else prove '..UptoSaid'. A law counts once. -/
mutual
def uptoBulk {H : Type} : DataW H → Nat
  | .lit (.string bytes) => bytes.length + 1
  | .lit _ => 1
  | .nil => 1
  | .ptr d => uptoBulk d + 1
  | .slice elems spare => uptoBulkAll elems + uptoBulkAll spare + 1
  | .agg parts => uptoBulkAll parts + 1
  | .iface _ d => uptoBulk d + 1
  | .map entries => uptoBulkEntries entries + 1
  | .held _ => 1
def uptoBulkAll {H : Type} : List (DataW H) → Nat
  | [] => 0
  | d :: r => uptoBulk d + uptoBulkAll r
def uptoBulkEntries {H : Type} : List (Lit × DataW H) → Nat
  | [] => 0
  | x :: r => uptoBulkEntry x + uptoBulkEntries r
def uptoBulkEntry {H : Type} : Lit × DataW H → Nat
  | (.string bytes, d) => bytes.length + uptoBulk d + 1
  | (_, d) => uptoBulk d + 1
 end
def uptoSmall : (H : Type) → List (DataW H) → Bool := fun _ ds => decide (uptoBulkAll ds ≤ 1048576)
def OpenSpec.upto (s : _root_.Go.ChangeSpec) : _root_.Go.OpenSpec := { _root_.Go.OpenSpec.ofChange s with cond := some uptoSmall }

/-- 'sgraffitolaw11.RegionRecords', WHERE WHAT IT READS IS OF BULK AT MOST 1048576: true; the input reads as it did. -/
def regionRecordsUptoRow : OpenClaim := { program := "ytiddfilhfdkogaa", sum := "53eac1c313176066ca426f0295ecc68f1b5f6e07e352b7ae681f10e7682e7e90", func := "sgraffito/sgraffitolaw11.RegionRecords", spec := "regionRecords", unfollowed := true, recurses := true, apart := false, narrowed := true }
def RegionRecordsUptoSaid : Prop := regionRecordsUptoRow.holds Try.pinned (OpenSpec.upto regionRecordsSpec)

/-- 'sgraffitolaw11.RegionPlans', WHERE WHAT IT READS IS OF BULK AT MOST 1048576: true; the input reads as it did. -/
def regionPlansUptoRow : OpenClaim := { program := "ytiddfilhfdkogaa", sum := "53eac1c313176066ca426f0295ecc68f1b5f6e07e352b7ae681f10e7682e7e90", func := "sgraffito/sgraffitolaw11.RegionPlans", spec := "regionPlans", unfollowed := true, recurses := true, apart := false, narrowed := true }
def RegionPlansUptoSaid : Prop := regionPlansUptoRow.holds Try.pinned (OpenSpec.upto regionPlansSpec)

/-- 'sgraffitolaw11.RegionNil', WHERE WHAT IT READS IS OF BULK AT MOST 1048576: true; the input reads as it did. -/
def regionNilUptoRow : OpenClaim := { program := "ytiddfilhfdkogaa", sum := "53eac1c313176066ca426f0295ecc68f1b5f6e07e352b7ae681f10e7682e7e90", func := "sgraffito/sgraffitolaw11.RegionNil", spec := "regionNil", unfollowed := true, recurses := true, apart := false, narrowed := true }
def RegionNilUptoSaid : Prop := regionNilUptoRow.holds Try.pinned (OpenSpec.upto regionNilSpec)

/-- 'sgraffitolaw11.RegionWheres', WHERE WHAT IT READS IS OF BULK AT MOST 1048576: true; the input reads as it did. -/
def regionWheresUptoRow : OpenClaim := { program := "ytiddfilhfdkogaa", sum := "53eac1c313176066ca426f0295ecc68f1b5f6e07e352b7ae681f10e7682e7e90", func := "sgraffito/sgraffitolaw11.RegionWheres", spec := "regionWheres", unfollowed := true, recurses := true, apart := false, narrowed := true }
def RegionWheresUptoSaid : Prop := regionWheresUptoRow.holds Try.pinned (OpenSpec.upto regionWheresSpec)

/-- 'sgraffitolaw11.RegionStale', WHERE WHAT IT READS IS OF BULK AT MOST 1048576: true; the input reads as it did. -/
def regionStaleUptoRow : OpenClaim := { program := "ytiddfilhfdkogaa", sum := "53eac1c313176066ca426f0295ecc68f1b5f6e07e352b7ae681f10e7682e7e90", func := "sgraffito/sgraffitolaw11.RegionStale", spec := "regionStale", unfollowed := true, recurses := true, apart := false, narrowed := true }
def RegionStaleUptoSaid : Prop := regionStaleUptoRow.holds Try.pinned (OpenSpec.upto regionStaleSpec)

end Rows
end Go.Proofs.Ytiddfilhfdkogaa

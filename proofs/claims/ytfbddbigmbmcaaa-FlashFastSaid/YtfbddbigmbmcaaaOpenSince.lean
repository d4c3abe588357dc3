/-
  The argument of sgraffitolaw04.FlashFast, opened.
  Conditions: none.
-/
import Derived.Test.YtfbddbigmbmcaaaActs04
import Derived.Test.YtfbddbigmbmcaaaOpenAgg
namespace Go.Proofs.Ytfbddbigmbmcaaa
open Go.ChangeShapes Go.WideShapes Go.ChangeAt Go.RowKit Go.Deep

/-- Acts ahead, and since, a sector, fates. -/
structure SinceV where
  v0 : Value
  v1 : Value
  at_ : BitVec 8
  v3 : Value
  l0 : List Act4
  l1 : List Act4
  fs : List Int
def SinceV.cells (q : SinceV) : Array Value := #[q.v0, q.v1, .int .u8 (U q.at_), q.v3]
structure SinceV.At (q : SinceV) (W : World) : Prop where
  h0 : ActsAt4 W.heap.size W q.v0 q.l0
  n0 : q.l0.length ≤ maxLen
  h1 : ActsAt4 W.heap.size W q.v1 q.l1
  n1 : q.l1.length ≤ maxLen
  h3 : IntsIn W.heap.size W q.v3 q.fs
  n3 : q.fs.length ≤ maxLen
section
variable {H : Type} {enc : TypeId × Value → H}
set_option maxRecDepth 100000 in
theorem open_since {W : World} {base : Nat} {v : Value} {d : DataW H} {p : List MemPlace} (o : Value.okWide Try.prog W .any base 60 v) (h : DataW.Trod enc Try.prog W 0 (fun _ => true) true 60 v d p) : ∃ q : SinceV, v = .agg q.cells ∧ q.At W := by
  obtain ⟨cs, n, rfl, hlen, hc⟩ := open_agg_one Try.underlying60 (by kernel_rfl) o h
  have h8 : Try.prog.cellsOf 60 = 4 := by kernel_rfl
  rw [h8] at hlen
  match cs, hlen with
  | [c0, c1, c2, c3], _ =>
    obtain ⟨_, y0⟩ := hc 0 _ c0 rfl rfl
    obtain ⟨_, y1⟩ := hc 1 _ c1 rfl rfl
    obtain ⟨_, y2⟩ := hc 2 _ c2 rfl rfl
    obtain ⟨_, y3⟩ := hc 3 _ c3 rfl rfl
    obtain ⟨l0, b0, m0⟩ := acts4_cell y0
    obtain ⟨l1, b1, m1⟩ := acts4_cell y1
    obtain ⟨x2, rfl⟩ := u8_cell y2
    obtain ⟨fs, b3, m3⟩ := ints_cell y3 (slice_of_cell Try.underlying35 y3)
    exact ⟨⟨c0, c1, x2, c3, l0, l1, fs⟩, rfl, ⟨b0, m0, b1, m1, b3, m3⟩⟩
end
end Go.Proofs.Ytfbddbigmbmcaaa

/-
  Rows of bools in memory.
  Conditions: none.
-/
import Derived.Test.YtpljbjceokoeiaaDoorRows
import Derived.Test.YtpljbjceokoeiaaDoorBase
import Derived.Test.YtpljbjceokoeiaaDoorMoves
import Derived.Laws.MakeOwn
namespace Go.Proofs.YtpljbjceokoeiaaDoor
open Go.RowKit

/-- The cells of bools. -/
def bools (l : List Bool) : List Value := l.map Value.bool
theorem bools_len (l : List Bool) : (bools l).length = l.length := by simp [bools]
theorem bools_append (xs ys : List Bool) : bools (xs ++ ys) = bools xs ++ bools ys := by simp [bools]
theorem bools_one (l : List Bool) : ∀ u ∈ bools l, u.oneCell' = true := by
  intro u hu
  obtain ⟨b, _, rfl⟩ := List.mem_map.1 hu
  rfl
theorem bools_get (l : List Bool) {i : Nat} (hi : i < l.length) : (bools l)[i]? = some (.bool (l[i]?.getD false)) := by simp [bools, hi]
theorem bools_set (l : List Bool) (i : Nat) (x : Bool) : (bools l).toArray.setIfInBounds i (.bool x) = (bools (l.set i x)).toArray := by
  apply Array.ext_getElem?
  intro j
  simp [bools, List.map_set]
theorem bools_rep (n : Nat) (x : Bool) : bools (List.replicate n x) = List.replicate n (.bool x) := by simp [bools]
theorem infoBool : (Tryd.prog.info? 4).map (fun i => (i.zero, i.size, i.bytes)) = some (some (.bool false), 1, 1) := by kernel_rfl
theorem info_partsB {i : Option TypeInfo} {z : Value} {s b : Nat} (h : i.map (fun i => (i.zero, i.size, i.bytes)) = some (some z, s, b)) : ∃ i0, i = some i0 ∧ i0.zero = some z ∧ i0.size = s ∧ i0.bytes = b := by
  cases i with
  | none => cases h
  | some i0 => simp at h; exact ⟨i0, rfl, h.1, h.2.1, h.2.2⟩
theorem makeBools (n : Nat) (hn : n ≤ 1073741824) (W : World) : (Instr.makeSlice 27 (.int .i64 n) (.int .i64 n)).run Tryd.prog W = .ok (.slice (some ⟨W.heap.size, 0, none⟩) n n) (W.alloc (.cells (bools (List.replicate n false)).toArray 4)) := by
  obtain ⟨i0, hi, hz0, hz1, hz2⟩ := info_partsB infoBool
  have h := run_make (P := Tryd.prog) W 27 4 i0 (.bool false) Tryd.underlying27 hi hz0 .i64 .i64 n n (by omega) (by omega) (by rw [hz2]; omega) (by omega)
  simp only [Int.toNat_natCast] at h
  rw [hz1, Nat.mul_one] at h
  have e : madeCells (Value.bool false).cells n = (bools (List.replicate n false)).toArray := by
    rw [bools_rep]
    apply Array.ext_getElem?
    intro i
    by_cases hi : i < n
    · simp [madeCells, Value.cells, hi, Nat.mod_one]
    · simp [madeCells, Value.cells, hi]
  rw [e] at h
  exact h
/-- A block that is a row of bools. -/
def BoolsBlk (w : World) (g : Nat) (l : List Bool) : Prop := w.heap[g]? = some (.cells (bools l).toArray 4 (0, 0))
theorem BoolsBlk.lt {w : World} {g : Nat} {l : List Bool} (h : BoolsBlk w g l) : g < w.heap.size := blk_lt h
theorem BoolsBlk.cell {w : World} {g : Nat} {l : List Bool} (h : BoolsBlk w g l) {i : Nat} (hi : i < l.length) : w.cell? ⟨g, i, none⟩ = some (.bool (l[i]?.getD false)) := by
  rw [blk_cell h, List.getElem?_toArray, bools_get l hi]
theorem BoolsBlk.put {w : World} {g : Nat} {l : List Bool} (h : BoolsBlk w g l) (i : Nat) (x : Bool) : BoolsBlk (w.setCell ⟨g, i, none⟩ (.bool x)) g (l.set i x) := by
  have := blk_set h i (.bool x)
  rw [bools_set] at this
  exact this
theorem BoolsBlk.new (w : World) (l : List Bool) : BoolsBlk (w.alloc (.cells (bools l).toArray 4)) w.heap.size l := heap_alloc_new _ _
end Go.Proofs.YtpljbjceokoeiaaDoor

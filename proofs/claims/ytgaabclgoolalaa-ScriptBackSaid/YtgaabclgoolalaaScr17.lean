/-
  script's read: where it is.
  Conditions: none.
-/
import Derived.Test.YtgaabclgoolalaaScr16
namespace Go.Proofs.Ytgaabclgoolalaa
open Go.RowKit
attribute [local go_sem] Oper.semAt_some

theorem ReadB.num1 {n₀ R : Nat} {s : RSt} {W : World} (h : ReadB n₀ R s W) (hn : n₀ ≤ W.heap.size) (hl : s.1.length ≤ 1099511627776) :
    Calls Try.prog 14 #[.pointer (some ⟨R, 0, none⟩), .int .i64 1] W (RdNum n₀ R (rNum s 1).1 (rNum s 1).2 W) := h.num hn 1 rfl (by omega) (by omega) hl
theorem ReadB.num4 {n₀ R : Nat} {s : RSt} {W : World} (h : ReadB n₀ R s W) (hn : n₀ ≤ W.heap.size) (hl : s.1.length ≤ 1099511627776) :
    Calls Try.prog 14 #[.pointer (some ⟨R, 0, none⟩), .int .i64 4] W (RdNum n₀ R (rNum s 4).1 (rNum s 4).2 W) := h.num hn 4 rfl (by omega) (by omega) hl
theorem ReadB.num8 {n₀ R : Nat} {s : RSt} {W : World} (h : ReadB n₀ R s W) (hn : n₀ ≤ W.heap.size) (hl : s.1.length ≤ 1099511627776) :
    Calls Try.prog 14 #[.pointer (some ⟨R, 0, none⟩), .int .i64 8] W (RdNum n₀ R (rNum s 8).1 (rNum s 8).2 W) := h.num hn 8 rfl (by omega) (by omega) hl
def actC (x : SAct) (a1 a2 a3 : Option Addr) (c1 c2 c3 : Nat) : Array Value := #[.int .i64 x.kind, .slice a1 x.key.length c1, .slice a2 x.val.length c2, .int .i64 x.num, .slice a3 x.nums.length c3]
def act0 : Array Value := #[.int .i64 0, .slice none 0 0, .slice none 0 0, .int .i64 0, .slice none 0 0]
/-- Where read is: the kind's block, the result's, the act's, the reader. -/
structure RB (n₀ : Nat) (w : World) (R : Nat) (wh : Array Value) (s : RSt) (x : SAct) (a1 a2 a3 : Option Addr) (c1 c2 c3 : Nat) (W : World) : Prop where
  inw : R < w.heap.size
  n0 : n₀ ≤ w.heap.size
  what : W.heap[w.heap.size]? = some (.cells wh 70 (0, 0))
  res : W.heap[w.heap.size + 1]? = some (.cells act0 49 (0, 0))
  act : W.heap[w.heap.size + 2]? = some (.cells (actC x a1 a2 a3 c1 c2 c3) 49 (0, 0))
  rd : ReadB n₀ R s W
  mv : Moves (rS R) w W
  key : BytesT W (.slice a1 x.key.length c1) x.key
  val : BytesT W (.slice a2 x.val.length c2) x.val
theorem RB.start {n₀ : Nat} {w : World} {R : Nat} {s : RSt} (h : ReadB n₀ R s w) (hn : n₀ ≤ w.heap.size) (wh : Array Value) (kind : Int) : RB n₀ w R wh s ⟨kind, [], [], 0, []⟩ none none none 0 0 0 (((w.alloc (.cells wh 70)).alloc (.cells act0 49)).alloc (.cells (actC ⟨kind, [], [], 0, []⟩ none none none 0 0 0) 49)) := by
  have s1 : (w.alloc (.cells wh 70)).heap.size = w.heap.size + 1 := World.size_alloc ..
  have s2 : ((w.alloc (.cells wh 70)).alloc (.cells act0 49)).heap.size = w.heap.size + 2 := by rw [World.size_alloc, s1]
  have hb : Below w.heap.size w (((w.alloc (.cells wh 70)).alloc (.cells act0 49)).alloc (.cells (actC ⟨kind, [], [], 0, []⟩ none none none 0 0 0) 49)) :=
    (((Below.refl _ w).alloc (Nat.le_refl _) _).alloc (by rw [s1]; omega) _).alloc (by rw [s2]; omega) _
  refine ⟨h.lt, hn, blk_alloc (blk_alloc (heap_alloc_new _ _) _) _, ?_, ?_, h.below hb hn, Moves.of_below hb, ⟨BytesAt.nil _ _, TypeAt.none⟩, ⟨BytesAt.nil _ _, TypeAt.none⟩⟩
  · have := heap_alloc_new (w.alloc (.cells wh 70)) (.cells act0 49)
    rw [s1] at this
    exact blk_alloc this _
  · have := heap_alloc_new ((w.alloc (.cells wh 70)).alloc (.cells act0 49)) (.cells (actC ⟨kind, [], [], 0, []⟩ none none none 0 0 0) 49)
    rw [s2] at this
    exact this
section
variable {n₀ : Nat} {w W W' : World} {R : Nat} {wh : Array Value} {s s' : RSt} {x : SAct} {a1 a2 a3 : Option Addr} {c1 c2 c3 : Nat}
theorem RB.size (h : RB n₀ w R wh s x a1 a2 a3 c1 c2 c3 W) : w.heap.size + 3 ≤ W.heap.size := by have := blk_lt h.act; omega
theorem RB.nle (h : RB n₀ w R wh s x a1 a2 a3 c1 c2 c3 W) : n₀ ≤ W.heap.size := by have := h.size; have := h.n0; omega
theorem RB.moved (h : RB n₀ w R wh s x a1 a2 a3 c1 c2 c3 W) (hr : ReadB n₀ R s' W') (hm : Moves (rS R) W W') : RB n₀ w R wh s' x a1 a2 a3 c1 c2 c3 W' := by
  have hi := h.inw
  have hne : ∀ k, w.heap.size ≤ k → ¬ rS R k := fun k hk e => by have e : k = R := e; omega
  obtain ⟨_, v, hb, _⟩ := h.rd
  have hm' : Moves (fun k => k = R) W W' := hm
  exact ⟨h.inw, h.n0, (hm.block _ (blk_lt h.what) (hne _ (by omega))).trans h.what, (hm.block _ (blk_lt h.res) (hne _ (by omega))).trans h.res, (hm.block _ (blk_lt h.act) (hne _ (by omega))).trans h.act, hr, h.mv.trans hm (fun _ _ e => e), h.key.turn hb (by decide) hm', h.val.turn hb (by decide) hm'⟩
theorem RB.below (h : RB n₀ w R wh s x a1 a2 a3 c1 c2 c3 W) (hb : Below W.heap.size W W') : RB n₀ w R wh s x a1 a2 a3 c1 c2 c3 W' :=
  h.moved (h.rd.below hb h.nle) (Moves.of_below hb)
theorem set_moves (X i : Nat) (u : Value) : Moves (fun k => k = X) W (W.setCell ⟨X, i, none⟩ u) := (Moves.refl (fun k => k = X) W).setCell (p := ⟨X, i, none⟩) (fun _ => rfl) u
theorem row_moves (X : Nat) (cs : Array Value) : Moves (fun k => k = X) W (W.setRow X cs) := ⟨rfl, rfl, rfl, by rw [size_setRow]; exact Nat.le_refl _, fun k _ hk => setRow_other W X k cs hk⟩
/-- A field of the act is written. -/
theorem RB.set (h : RB n₀ w R wh s x a1 a2 a3 c1 c2 c3 W) (i : Nat) (u : Value) {x' : SAct} {b1 b2 b3 : Option Addr} {d1 d2 d3 : Nat} (he : (actC x a1 a2 a3 c1 c2 c3).setIfInBounds i u = actC x' b1 b2 b3 d1 d2 d3)
    (hk : BytesT W (.slice b1 x'.key.length d1) x'.key) (hv : BytesT W (.slice b2 x'.val.length d2) x'.val) :
    RB n₀ w R wh s x' b1 b2 b3 d1 d2 d3 (W.setCell ⟨w.heap.size + 2, i, none⟩ u) := by
  have hne : ∀ k, k ≠ w.heap.size + 2 → (W.setCell ⟨w.heap.size + 2, i, none⟩ u).heap[k]? = W.heap[k]? := fun k hk => Below.heap_setCell W ⟨w.heap.size + 2, i, none⟩ u k hk
  have hi := h.inw
  have hn := h.n0
  refine ⟨h.inw, h.n0, (hne _ (by omega)).trans h.what, (hne _ (by omega)).trans h.res, ?_, h.rd.turn (by omega) (by omega) h.nle (set_moves _ i u), h.mv.setCell (p := ⟨w.heap.size + 2, i, none⟩) (fun hlt => absurd hlt (by show ¬ w.heap.size + 2 < _; omega)) u, hk.turn h.act (by decide) (set_moves _ i u), hv.turn h.act (by decide) (set_moves _ i u)⟩
  rw [← he]
  exact blk_set h.act i u
/-- The row of numbers grows. -/
theorem RB.grown (h : RB n₀ w R wh s x a1 a2 a3 c1 c2 c3 W) {v : Value} {n : Nat} {xs : List Value} (ho : W.ownsRow (w.heap.size + 3) 3 1 v n xs) (hg : W.grownBy W' v.ownBlock) : RB n₀ w R wh s x a1 a2 a3 c1 c2 c3 W' := by
  have hi := h.inw
  have hn := h.n0
  have hne : ∀ k, k < w.heap.size + 3 → some k ≠ v.ownBlock := fun k hk e => by have := (ho.lt k e.symm).1; omega
  have hs := h.size
  have hm : Moves (fun k => v.ownBlock = some k) W W' := Moves.of_grown hg (fun _ e => e)
  refine ⟨h.inw, h.n0, (hg.block _ (by omega) (hne _ (by omega))).trans h.what, (hg.block _ (by omega) (hne _ (by omega))).trans h.res, (hg.block _ (by omega) (hne _ (by omega))).trans h.act, ?_, ?_, h.key.grown ho (by decide) hg, h.val.grown ho (by decide) hg⟩
  · obtain ⟨h0, v', hb, hv⟩ := h.rd
    exact ⟨h0, v', (hg.block _ (by omega) (hne _ (by omega))).trans hb, hm.bytes hv h.nle (fun hnil k hk e => by
      have := hv.lt hnil hk
      have := (ho.lt k e).1
      omega)⟩
  · exact h.mv.trans hm (fun i hi' e => by have := (ho.lt i e).1; omega)
/-- What read answers, there. -/
theorem RB.done (h : RB n₀ w R wh s x a1 a2 a3 c1 c2 c3 W) (hn : IntsT W (.slice a3 x.nums.length c3) x.nums) : ReadRet n₀ R x s w (.returned (.agg (actC x a1 a2 a3 c1 c2 c3))) (W.setRow (w.heap.size + 1) (actC x a1 a2 a3 c1 c2 c3)) := by
  have hi := h.inw
  have hn0 := h.n0
  have hm := row_moves (W := W) (w.heap.size + 1) (actC x a1 a2 a3 c1 c2 c3)
  exact ⟨a1, c1, a2, c2, a3, c3, rfl, h.key.turn h.res (by decide) hm, h.val.turn h.res (by decide) hm, hn.turn h.res (by decide) hm, h.rd.turn (by omega) (by omega) h.nle hm, h.mv.trans hm (fun i hi' e => by have e : i = w.heap.size + 1 := e; omega)⟩
/-- What stands in the cells. -/
theorem RB.cells {nm : ByteArray} {k v u : Bool} {l m : Int} (h : RB n₀ w R #[.string nm, .bool k, .bool v, .bool u, .int .i64 l, .int .i64 m] s x a1 a2 a3 c1 c2 c3 W) :
    (W.cell? ⟨w.heap.size, 0, none⟩ = some (.string nm) ∧ W.cell? ⟨w.heap.size, 1, none⟩ = some (.bool k) ∧ W.cell? ⟨w.heap.size, 2, none⟩ = some (.bool v) ∧ W.cell? ⟨w.heap.size, 3, none⟩ = some (.bool u) ∧ W.cell? ⟨w.heap.size, 4, none⟩ = some (.int .i64 l) ∧ W.cell? ⟨w.heap.size, 5, none⟩ = some (.int .i64 m)) ∧
    (W.cell? ⟨w.heap.size + 1 + 1, 0, none⟩ = some (.int .i64 x.kind) ∧ W.cell? ⟨w.heap.size + 1 + 1, 1, none⟩ = some (.slice a1 x.key.length c1) ∧ W.cell? ⟨w.heap.size + 1 + 1, 2, none⟩ = some (.slice a2 x.val.length c2) ∧ W.cell? ⟨w.heap.size + 1 + 1, 3, none⟩ = some (.int .i64 x.num) ∧ W.cell? ⟨w.heap.size + 1 + 1, 4, none⟩ = some (.slice a3 x.nums.length c3)) ∧
    (W.frozen? ⟨w.heap.size + 1 + 1, 1, none⟩ = false ∧ W.frozen? ⟨w.heap.size + 1 + 1, 2, none⟩ = false ∧ W.frozen? ⟨w.heap.size + 1 + 1, 3, none⟩ = false ∧ W.frozen? ⟨w.heap.size + 1 + 1, 4, none⟩ = false) :=
  ⟨⟨blk_cell h.what 0, blk_cell h.what 1, blk_cell h.what 2, blk_cell h.what 3, blk_cell h.what 4, blk_cell h.what 5⟩, ⟨blk_cell h.act 0, blk_cell h.act 1, blk_cell h.act 2, blk_cell h.act 3, blk_cell h.act 4⟩, ⟨blk_frozen h.act 1, blk_frozen h.act 2, blk_frozen h.act 3, blk_frozen h.act 4⟩⟩
end
end Go.Proofs.Ytgaabclgoolalaa

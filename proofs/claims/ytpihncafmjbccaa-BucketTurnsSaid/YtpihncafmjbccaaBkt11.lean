/-
  bucket: Right, whatever the answer is.
  Conditions: none.
-/
import Derived.Test.YtpihncafmjbccaaBkt10
namespace Go.Proofs.Ytpihncafmjbccaa
open Go.RowKit Go.Shelf
attribute [local go_sem] Oper.semAt_some

theorem bput_moves (w : World) (b : Nat) (o : Obj) : Moves (fun k => k = b) w (w.putObj b o) := ⟨rfl, rfl, rfl, by rw [World.putObj_size]; exact Nat.le_refl _, fun _ _ hk => World.putObj_heap_other hk⟩
/-- Between two rounds of Right. -/
structure RtInv (w : World) (d p : Int) (a : Option Addr) (c : Nat) (es : List Ent) (k : Nat) (W : World) : Prop where
  le : k ≤ es.length
  ok : ∀ i, i < k → OkE d p es i
  below : Below w.heap.size w W
  b0 : W.heap[w.heap.size]? = some (.cells #[.int .i64 d, .int .i64 p, .slice a es.length c] 32 (0, 0))
  b1 : Boxed W (w.heap.size + 1) 4 (.bool false)
  b2 : W.heap[w.heap.size + 1 + 1]? = some (.cells #[.int .i64 d, .int .i64 p, .slice a es.length c] 32 (0, 0))
theorem RtInv.on {w W W' : World} {d p : Int} {a : Option Addr} {c k : Nat} {es : List Ent} (h : RtInv w d p a c es k W) (hb : Below W.heap.size W W') : RtInv w d p a c es k W' :=
  ⟨h.le, h.ok, h.below.trans (hb.mono h.below.size), (hb.block _ (blk_lt h.b0)).trans h.b0, (hb.block _ h.b1.lt).trans h.b1, (hb.block _ (blk_lt h.b2)).trans h.b2⟩
theorem RtInv.put {w W : World} {d p : Int} {a : Option Addr} {c k : Nat} {es : List Ent} (h : RtInv w d p a c es k W) {i : Nat} {o o' : Obj} (hi : w.heap.size + 3 ≤ i) (_ho : W.heap[i]? = some o) : RtInv w d p a c es k (W.putObj i o') :=
  ⟨h.le, h.ok, h.below.trans ((bput_moves W i o').below (fun j hj => by omega) h.below.size), (World.putObj_heap_other (by omega)).trans h.b0, (World.putObj_heap_other (by omega)).trans h.b1, (World.putObj_heap_other (by omega)).trans h.b2⟩
end Go.Proofs.Ytpihncafmjbccaa

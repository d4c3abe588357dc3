/-
  Rows of bytes that lie apart from each other: what a literal, an append make of them, in whatever order they come.
  Conditions: none.
-/
import Derived.Test.YtapfagbegndgjaaMem
namespace Go.Proofs.Ytapfagbegndgjaa
open Go.RowKit

/-- Rows made behind w0, apart from each other; w has k blocks more than B. -/
structure Live (w0 B w : World) (k : Nat) (L : List (Value × List (BitVec 8))) : Prop where
  sz : w.heap.size = B.heap.size + k
  bel : Below w0.heap.size w0 w
  own : ∀ x ∈ L, w.ownsRow w0.heap.size 5 1 x.1 x.2.length (cellsOf x.2)
  dis : L.Pairwise fun x y => x.1.ownBlock = none ∨ x.1.ownBlock ≠ y.1.ownBlock
theorem Live.start (w : World) : Live w w w 0 [] := ⟨rfl, Below.refl _ _, by simp, .nil⟩
theorem Live.start' {w0 w : World} (h : Below w0.heap.size w0 w) : Live w0 w w 0 [] := ⟨rfl, h, by simp, .nil⟩
theorem Live.head {w0 B w : World} {k : Nat} {L : List (Value × List (BitVec 8))} (h : Live w0 B w k L) (w' : World) (o : Obj) (hw : w' = w.alloc o) (bs : List (BitVec 8)) (m c : Nat)
    (hr : w'.ownsRow w0.heap.size 5 1 (.slice (some ⟨B.heap.size + k, 0, none⟩) m c) bs.length (cellsOf bs)) : Live w0 B w' (k + 1) ((.slice (some ⟨B.heap.size + k, 0, none⟩) m c, bs) :: L) := by
  subst hw
  refine ⟨?_, h.bel.alloc h.bel.size _, ?_, ?_⟩
  · rw [World.size_alloc, h.sz]; omega
  · intro x hx
    rcases List.mem_cons.1 hx with rfl | hx
    · exact hr
    · exact (h.own x hx).alloc _
  · refine List.pairwise_cons.2 ⟨fun y hy => .inr fun e => ?_, h.dis⟩
    have h2 : B.heap.size + k < w.heap.size := ((h.own y hy).lt _ (e.symm.trans rfl)).2
    rw [h.sz] at h2
    omega
theorem Live.e {w0 B w : World} {k : Nat} {L : List (Value × List (BitVec 8))} (h : Live w0 B w k L) : Live w0 B (w.alloc (.cells #[] 5)) (k + 1) ((.slice (some ⟨B.heap.size + k, 0, none⟩) 0 0, []) :: L) :=
  h.head _ _ rfl [] 0 0 (own_empty_at w _ _ h.sz.symm (by have := h.bel.size; rw [h.sz] at this; exact this))
theorem Live.b {w0 B w : World} {k : Nat} {L : List (Value × List (BitVec 8))} {x : BitVec 8} (h : Live w0 B w k L) : Live w0 B (w.alloc (.cells #[.int .u8 (U x)] 5)) (k + 1) ((.slice (some ⟨B.heap.size + k, 0, none⟩) 1 1, [x]) :: L) := by
  have := World.ownsRow_lit (base := w0.heap.size) (e := 5) (size := 1) w #[.int .u8 (U x)] 1 h.bel.size (by decide) rfl
  rw [h.sz] at this
  exact h.head _ _ rfl [x] 1 1 this
theorem Live.bytes {w0 B w : World} {k : Nat} {L l1 l2 : List (Value × List (BitVec 8))} {v : Value} {bs : List (BitVec 8)} (h : Live w0 B w k L) (hi : L = l1 ++ (v, bs) :: l2) : BytesAt w.heap.size w v bs :=
  BytesAt.of_owns (h.own (v, bs) (by rw [hi]; simp))
theorem Live.app {w0 B w w' : World} {k n : Nat} {L l1 l2 : List (Value × List (BitVec 8))} {v v' : Value} {bs cs : List (BitVec 8)} (h : Live w0 B w k L) (hi : L = l1 ++ (v, bs) :: l2) (hn : n = (bs ++ cs).length)
    (hown : w'.ownsRow w0.heap.size 5 1 v' n (cellsOf (bs ++ cs))) (hg : w.grownBy w' v.ownBlock) (hat : v'.ownBlock = v.ownBlock ∨ v'.ownBlock = some w.heap.size) : Live w0 w' w' 0 ((v', bs ++ cs) :: (l1 ++ l2)) := by
  subst hi hn
  have hv := h.own (v, bs) (by simp)
  obtain ⟨d1, d2, d3⟩ := List.pairwise_append.1 h.dis
  obtain ⟨d4, d5⟩ := List.pairwise_cons.1 d2
  have apart : ∀ y ∈ l1 ++ l2, y.1.ownBlock = none ∨ y.1.ownBlock ≠ v.ownBlock := by
    intro y hy
    rcases List.mem_append.1 hy with hy | hy
    · exact d3 y hy (v, bs) (by simp)
    · rcases d4 y hy with e | e
      · cases hyb : y.1.ownBlock with
        | none => exact .inl rfl
        | some b => right; intro e2; rw [show v.ownBlock = none from e] at e2; cases e2
      · exact .inr fun e2 => e e2.symm
  have kept : ∀ y ∈ l1 ++ l2, w'.ownsRow w0.heap.size 5 1 y.1 y.2.length (cellsOf y.2) := fun y hy =>
    (h.own y (by rcases List.mem_append.1 hy with h | h <;> simp [h])).kept hg (apart y hy)
  refine ⟨rfl, h.bel.grown hg h.bel.size (fun k e => (hv.lt k e).1), ?_, ?_⟩
  · intro x hx
    rcases List.mem_cons.1 hx with rfl | hx
    · exact hown
    · exact kept x hx
  · refine List.pairwise_cons.2 ⟨fun y hy => ?_, List.pairwise_append.2 ⟨d1, d5, fun x hx y hy => d3 x hx y (List.mem_cons_of_mem _ hy)⟩⟩
    show v'.ownBlock = none ∨ v'.ownBlock ≠ y.1.ownBlock
    rcases hat with e | e
    · rw [e]
      rcases apart y hy with f | f
      · cases hvb : v.ownBlock with
        | none => exact .inl rfl
        | some b => right; rw [f]; intro e2; cases e2
      · exact .inr fun e2 => f e2.symm
    · right
      rw [e]
      intro e2
      have hy2 : y ∈ l1 ++ (v, bs) :: l2 := by rcases List.mem_append.1 hy with h | h <;> simp [h]
      have := ((h.own y hy2).lt _ e2.symm).2
      omega
theorem step_app {w w0 B : World} {k : Nat} {L l1 l2 : List (Value × List (BitVec 8))} {ops : Array Oper} {o : Oper} {a : Act} {K : Act → World → Prop} {Q : Exit → Act → World → Prop} {E : Prop} (hgd : o.guard = none) (s x : Operand) (hty : o.type = 24)
    (ho : o.op = .call { callee := .builtin .append, args := #[s, x], argTypes := #[24, 24] })
    (i0 : TypeInfo) (hi0 : Try.prog.info? 5 = some i0) (hz0 : i0.zero = some (.int .u8 0)) (hz1 : i0.size = 1) (hz2 : i0.bytes = 1)
    (HL : Live w0 B w k L) (v : Value) (hs : a.eval s = v) (bs : List (BitVec 8)) (hi : L = l1 ++ (v, bs) :: l2) (u : Value) (hx : a.eval x = u) (n₀ : Nat) (cs : List (BitVec 8)) (hu : BytesAt n₀ w u cs) (hlen : bs.length + cs.length ≤ 70368744177664)
    (dst : Option Nat) (hd : o.dst = dst) (h : ∀ v' w', Live w0 w' w' 0 ((v', bs ++ cs) :: (l1 ++ l2)) → K (a.put dst v') w') :
    if Region.wanted o (yielded ops a.tmps) = true then Oper.wp Try.prog o a w K Q else E :=
  step_append_bytes hgd s x hty ho w0.heap.size i0 hi0 hz0 hz1 hz2 v hs bs (HL.own (v, bs) (by rw [hi]; simp)) u hx n₀ cs hu hlen HL.bel.size
    fun v' w' n hn hown hg hat => hd ▸ h v' w' (HL.app hi hn.out hown hg hat)
end Go.Proofs.Ytapfagbegndgjaa

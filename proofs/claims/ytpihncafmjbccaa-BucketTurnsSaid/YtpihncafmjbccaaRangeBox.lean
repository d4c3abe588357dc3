/-
  The law of a range over a function whose variable is a struct in a block of its own, laid anew in each round.
  Conditions: none.
-/
import Derived.Test.YtpihncafmjbccaaRange
namespace Go.Proofs.Ytpihncafmjbccaa
open Go.RowKit Go.Shelf
variable {F : Fence} {n : Nat} {P : Program}

theorem rangeFunc_boxed {α : Type} {g : Operand} {ps : Array Tmp} {assign body : Code} {Q : Exit → Act → World → Prop} {a : Act} {w : World}
    (hro : F.round = none) (h1 : 1 ≤ n) {gf : Nat} {lb : Array Value} (hg : a.eval g = .func (.func gf) #[] lb) (hFg : F.fn gf) (eg : ∀ args w, (callFunc gf args).run P w = .ok (.enter gf args) w)
    {encs : α → Array Value} {Kp : World → World → Prop} {S Sp : List α → Prop} {N : Nat} {w0 : World} (hseq : SeqStopsK F (n - 1) P gf lb encs Kp S Sp N w0)
    (hKt : ∀ {A B C : World}, Kp A B → Kp B C → Kp A C) (hKb : ∀ (W : World) (l : Nat) (o o' : Obj), w.heap.size ≤ l → W.heap[l]? = some o → o.isCells = false → o.isWalk = false → Kp W (W.putObj l o')) (hb0 : Below w0.heap.size w0 w) (hps : ∀ x, (encs x).size = ps.size)
    (I : List α → World → Prop) (Ix : Code → List α → World → Prop) (hI : OwnFrom w.heap.size I) (hIx : ∀ c, OwnFrom w.heap.size (Ix c)) (h0 : I [] w)
    (T : TypeId) (cellsX : α → Array Value) (hsz : ∀ pre W, I pre W → w.heap.size ≤ W.heap.size) (hKa : ∀ (W : World) (o : Obj), Kp W (W.alloc o))
    (hround : ∃ a₁ : α → Nat → Act, (∀ (l : Nat) (x : α) (W : World) (b : Nat) (K : Act → World → Prop), b = W.heap.size → K (a₁ x b) (W.alloc (.cells (cellsX x) T)) →
        assign.wpIn (F.inRound l) (n - 1 - 1) P (Exit.then K (fun _ _ _ => False)) { tmps := (ps.zip (encs x)).foldl (fun t (p, v) => t.setIfInBounds p v) a.tmps, defers := [] } W) ∧
      (∀ (l : Nat) (pre : List α) (x : α) (b : Nat) (W : World), I pre W → w.heap.size ≤ b → W.heap[b]? = some (.cells (cellsX x) T (0, 0)) → pre.length < N → body.wpIn (F.inRound l) (n - 1 - 1) P (ownPostG w.heap.size Kp I Ix (pre ++ [x]) W) (a₁ x b) W))
    (hdone : ∀ (D : Nat) (xs : List α) (W : World), w.heap.size ≤ D → S xs → I xs W → W.heap[D]? = some (.deferred (some [])) → Q .normal { a with defers := { target := .collected D, args := #[] } :: a.defers } W)
    (hstop : ∀ (D : Nat) (c : Code) (pre : List α) (W : World), w.heap.size ≤ D → Sp pre → Ix c pre W → W.heap[D]? = some (.deferred (some [])) → c.wpIn F n P Q { a with defers := { target := .collected D, args := #[] } :: a.defers } W) :
    (Code.rangeFunc g ps assign body).wpIn F n P Q a w := by
  obtain ⟨a₁, ha, hb⟩ := hround
  refine wpIn_rangeFunc_ownH hro h1 hg hFg eg hseq (fun h k => hKt h k) hKb hb0 hps I Ix hI hIx h0
    (fun x a' W => ∃ b, w.heap.size ≤ b ∧ W.heap[b]? = some (.cells (cellsX x) T (0, 0)) ∧ a' = a₁ x b) ?_ ?_ ?_ hdone hstop
  · rintro x a' _ X Y row ⟨b, hbl, hbb, he⟩ hgr hrow
    refine ⟨b, hbl, ?_, he⟩
    refine (hgr.block b (Array.getElem?_eq_some_iff.1 hbb).1 (fun e' => ?_)).trans hbb
    obtain ⟨_, o, ho, hc⟩ := hrow b e'.symm
    rw [hbb] at ho; cases ho; cases hc
  · intro l pre x W K hi hK
    exact ha l x W W.heap.size K rfl (hK _ _ ((KeepsOthers.alloc W _).from _) (hKa _ _) (hI.alloc _ hi) ⟨W.heap.size, hsz _ _ hi, heap_alloc_new _ _, rfl⟩)
  · rintro l pre x a' W _ _ hi ⟨b, hbl, hbb, rfl⟩ hlt
    exact hb l pre x b W hi hbl hbb hlt
end Go.Proofs.Ytpihncafmjbccaa

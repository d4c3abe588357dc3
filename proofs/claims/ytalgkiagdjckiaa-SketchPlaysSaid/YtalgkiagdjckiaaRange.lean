/-
  The law of a range over a function with the temporaries of a round left open till its assignment is walked.
  Conditions: none.
-/
import Derived.RangeFuncBox
import Derived.RangeFuncNested
import Derived.RangeFuncBound
import Derived.RangeFuncCalls
import Derived.RangeFuncLeaves
import Derived.Shelf.Abstract
import Derived.OwnWalkIn
import Derived.TacticsInMore
import Derived.LoopNIn
import Derived.LoopIn
import Derived.Maps.AppendAt
import Derived.Deep.QuietTactic
import Derived.BigQuiet
import Derived.Lib.Hide
import Derived.Laws.CopyRow
import Derived.Laws.CopyOwn
import Derived.Test.YtalgkiagdjckiaaBase
namespace Go.Proofs.Ytalgkiagdjckiaa
open Go.RowKit Go.Shelf
variable {F : Fence} {n : Nat} {P : Program}

theorem rangeFunc_open {α : Type} {g : Operand} {ps : Array Tmp} {assign body : Code} {Q : Exit → Act → World → Prop} {a : Act} {w : World}
    (hro : F.round = none) (h1 : 1 ≤ n) {gf : Nat} {lb : Array Value} (hg : a.eval g = .func (.func gf) #[] lb) (hFg : F.fn gf) (eg : ∀ args w, (callFunc gf args).run P w = .ok (.enter gf args) w)
    {encs : α → Array Value} {Kp : World → World → Prop} {S Sp : List α → Prop} {N : Nat} {w0 : World} (hseq : SeqStopsK F (n - 1) P gf lb encs Kp S Sp N w0)
    (hKt : ∀ {A B C : World}, Kp A B → Kp B C → Kp A C) (hKb : ∀ (W : World) (l : Nat) (o o' : Obj), w.heap.size ≤ l → W.heap[l]? = some o → o.isCells = false → o.isWalk = false → Kp W (W.putObj l o')) (hb0 : Below w0.heap.size w0 w) (hps : ∀ x, (encs x).size = ps.size)
    (I : List α → World → Prop) (Ix : Code → List α → World → Prop) (hI : OwnFrom w.heap.size I) (hIx : ∀ c, OwnFrom w.heap.size (Ix c)) (h0 : I [] w)
    (hround : ∃ a₁ : α → Act, (∀ (l : Nat) (x : α) (W : World) (K : Act → World → Prop), K (a₁ x) W →
        assign.wpIn (F.inRound l) (n - 1 - 1) P (Exit.then K (fun _ _ _ => False)) { tmps := (ps.zip (encs x)).foldl (fun t (p, v) => t.setIfInBounds p v) a.tmps, defers := [] } W) ∧
      (∀ (l : Nat) (pre : List α) (x : α) (W : World), I pre W → pre.length < N → body.wpIn (F.inRound l) (n - 1 - 1) P (ownPostG w.heap.size Kp I Ix (pre ++ [x]) W) (a₁ x) W))
    (hdone : ∀ (D : Nat) (xs : List α) (W : World), w.heap.size ≤ D → S xs → I xs W → W.heap[D]? = some (.deferred (some [])) → Q .normal { a with defers := { target := .collected D, args := #[] } :: a.defers } W)
    (hstop : ∀ (D : Nat) (c : Code) (pre : List α) (W : World), w.heap.size ≤ D → Sp pre → Ix c pre W → W.heap[D]? = some (.deferred (some [])) → c.wpIn F n P Q { a with defers := { target := .collected D, args := #[] } :: a.defers } W) :
    (Code.rangeFunc g ps assign body).wpIn F n P Q a w := by
  obtain ⟨a₁, ha, hb⟩ := hround
  exact wpIn_rangeFunc_ownG hro h1 hg hFg eg hseq hKt hKb hb0 hps I Ix hI hIx h0 a₁ ha hb hdone hstop

/-- What has come when k rounds are over. -/
def upto {α : Type} (f : Nat → α) (k : Nat) : List α := (List.range k).map f
theorem upto_succ {α : Type} (f : Nat → α) (k : Nat) : upto f (k + 1) = upto f k ++ [f k] := by simp [upto, List.range_succ]
theorem upto_length {α : Type} (f : Nat → α) (k : Nat) : (upto f k).length = k := by simp [upto]

/-- The blocks of cells that S names hold what they held. -/
def KeepsAt (S : Nat → Prop) (W W' : World) : Prop := ∀ b, S b → ∀ c t z, W.heap[b]? = some (.cells c t z) → W'.heap[b]? = some (.cells c t z)
theorem KeepsAt.refl (S : Nat → Prop) (W : World) : KeepsAt S W W := fun _ _ _ _ _ h => h
theorem KeepsAt.trans {S : Nat → Prop} {A B C : World} (h : KeepsAt S A B) (k : KeepsAt S B C) : KeepsAt S A C := fun b hb c t z e => k b hb c t z (h b hb c t z e)
theorem KeepsAt.cell {S : Nat → Prop} {W W' : World} (h : KeepsAt S W W') {p : Addr} (hp : S p.block) {v : Value} (hc : W.cell? p = some v) : W'.cell? p = some v := by
  unfold World.cell? at hc ⊢
  cases e : W.heap[p.block]? with
  | none => rw [e] at hc; cases hc
  | some o =>
    cases o with
    | cells c t z => rw [h p.block hp c t z e]; rw [e] at hc; exact hc
    | _ => rw [e] at hc; cases hc
theorem KeepsAt.of_below {S : Nat → Prop} {n₀ : Nat} {W W' : World} (h : Below n₀ W W') (hS : ∀ b, S b → b < n₀) : KeepsAt S W W' := fun b hb _ _ _ e => (h.block b (hS b hb)).trans e
theorem KeepsAt.alloc {S : Nat → Prop} (W : World) (o : Obj) : KeepsAt S W (W.alloc o) := fun b _ _ _ _ e => (Below.heap_alloc W o b (Array.getElem?_eq_some_iff.1 e).1).trans e
theorem KeepsAt.setCell {S : Nat → Prop} (W : World) (p : Addr) (v : Value) (hp : ¬ S p.block) : KeepsAt S W (W.setCell p v) := fun b hb _ _ _ e => (Below.heap_setCell W p v b (fun h => hp (h ▸ hb))).trans e
theorem KeepsAt.grown {S : Nat → Prop} {W W' : World} {row : Option Nat} (hg : W.grownBy W' row) (hr : ∀ k, row = some k → ¬ S k) : KeepsAt S W W' := fun b hb _ _ _ e =>
  (hg.block b (Array.getElem?_eq_some_iff.1 e).1 (fun h => hr b h.symm hb)).trans e
theorem KeepsAt.put {S : Nat → Prop} (W : World) (l : Nat) (o o' : Obj) (hl : W.heap[l]? = some o) (ho : o.isCells = false) : KeepsAt S W (W.putObj l o') := fun b _ c t z e => by
  by_cases h : b = l
  · subst h; rw [e] at hl; cases hl; cases ho
  · exact (World.putObj_heap_other h).trans e
theorem keepsAt_t {S : Nat → Prop} {A B C : World} (h : KeepsAt S A B) (k : KeepsAt S B C) : KeepsAt S A C := h.trans k
theorem keepsAt_b {S : Nat → Prop} {w : World} : ∀ (W : World) (l : Nat) (o o' : Obj), w.heap.size ≤ l → W.heap[l]? = some o → o.isCells = false → o.isWalk = false → KeepsAt S W (W.putObj l o') :=
  fun W l o o' _ hl ho _ => KeepsAt.put W l o o' hl ho

/-- 'x = append(x, v)' within the capacity, x in a box of its own: what the walk owes behind the store. -/
theorem Boxed.fits {W w1 : World} {n₀ B g : Nat} {t e : TypeId} {size cap : Nat} {v v' : Value} {k m : Nat} {xs ys : List Value} {tmp : Obj} {S : Nat → Prop}
    (hv : Boxed W B t v) (hrow : W.ownsRow n₀ e size (.slice (some ⟨g, 0, none⟩) k cap) k xs) (hBg : B ≠ g) (hn₀ : n₀ ≤ W.heap.size) (hB : n₀ ≤ B) (hg₀ : n₀ ≤ g) (hSg : ¬ S g) (hSB : ¬ S B)
    (hown' : w1.ownsRow n₀ e size (.slice (some ⟨g, 0, none⟩) m cap) m ys) (hgrow : (W.alloc tmp).grownBy w1 (some g)) :
    Boxed w1 B t v ∧ Boxed (w1.setCell ⟨B, 0, none⟩ v') B t v' ∧ (w1.setCell ⟨B, 0, none⟩ v').ownsRow n₀ e size (.slice (some ⟨g, 0, none⟩) m cap) m ys ∧ KeepsOthers W (w1.setCell ⟨B, 0, none⟩ v') ∧ Below n₀ W (w1.setCell ⟨B, 0, none⟩ v') ∧ KeepsAt S W (w1.setCell ⟨B, 0, none⟩ v') := by
  have hv1 : Boxed w1 B t v := (hv.alloc tmp).kept hgrow (by simpa using hBg)
  refine ⟨hv1, hv1.set v', hown'.kept (grownBy_setCell' w1 B v') (.inr ?_), ?_, ?_, ?_⟩
  · simp only [Value.ownBlock, ne_eq, Option.some.injEq]; omega
  · refine ((KeepsOthers.alloc W tmp).trans (KeepsOthers.of_grownBy hgrow fun j o ej hj => ?_)).trans (KeepsOthers.setCell _ _ _)
    rcases (hrow.alloc tmp).2 with ⟨h, _⟩ | ⟨g', cap', cur, hs, _, hgb, _⟩
    · cases h
    · simp only [Value.slice.injEq, Option.some.injEq, Addr.mk.injEq] at hs
      obtain rfl : g = j := by simpa using ej
      rw [← hs.1.1] at hgb
      rw [hgb] at hj; cases hj; rfl
  · exact (((Below.refl n₀ W).alloc hn₀ tmp).grown hgrow (by simp; omega) fun j ej => by
      obtain rfl : g = j := by simpa using ej
      exact hg₀).setCell (p := ⟨B, 0, none⟩) hB v'
  · exact ((KeepsAt.alloc W tmp).trans (KeepsAt.grown hgrow fun j ej => by
      obtain rfl : g = j := by simpa using ej
      exact hSg)).trans (KeepsAt.setCell _ _ _ hSB)

theorem ownsRow_block {W : World} {n₀ g : Nat} {e : TypeId} {size k m cap : Nat} {xs : List Value} (h : W.ownsRow n₀ e size (.slice (some ⟨g, 0, none⟩) k cap) m xs) : n₀ ≤ g ∧ g < W.heap.size := h.lt g rfl

/-- 'x is a row of known place in a box' speaks of cells alone. -/
theorem holdsRowAt_own {β : Type} (n₀ B g : Nat) (t e : TypeId) (size cap : Nat) (k : β → Nat) (f : β → List Value) : Own (fun s W => Boxed W B t (.slice (some ⟨g, 0, none⟩) (k s) cap) ∧ W.ownsRow n₀ e size (.slice (some ⟨g, 0, none⟩) (k s) cap) (k s) (f s)) := by
  rintro s X Y row ⟨hv, hr⟩ hg hrow
  refine ⟨hv.kept hg (fun e' => ?_), hr.kept hg (.inr fun e' => ?_)⟩
  · obtain ⟨o, ho, hc⟩ := hrow B e'.symm
    rw [show X.heap[B]? = _ from hv] at ho; cases ho; cases hc
  · rcases hr.2 with ⟨h, _⟩ | ⟨g', cap', cur, hs, _, hgb, _⟩
    · cases h
    · simp only [Value.slice.injEq, Option.some.injEq, Addr.mk.injEq] at hs
      obtain ⟨o, ho, hc⟩ := hrow g (by simpa [Value.ownBlock] using e'.symm)
      rw [← hs.1.1] at hgb
      rw [hgb] at ho; cases ho; cases hc

/-- A row stays owned while nothing below the heap's size turns. -/
theorem ownsRow_below {w w' : World} {base : Nat} {e : TypeId} {size : Nat} {v : Value} {n : Nat} {xs : List Value} (h : w.ownsRow base e size v n xs) (hb : Below w.heap.size w w') : w'.ownsRow base e size v n xs := by
  obtain ⟨h1, h2⟩ := h
  refine ⟨h1, ?_⟩
  rcases h2 with h2 | ⟨g, cap, cur, hv, hg, hh, r⟩
  · exact .inl h2
  · exact .inr ⟨g, cap, cur, hv, hg, (hb.block g (Array.getElem?_eq_some_iff.1 hh).1).trans hh, r⟩

/-- A callee that only computes, in a region that draws its order. -/
theorem quiet_here {f : FuncId} {args : Array Value} {w : World} {m : Nat} {v : Value}
    (c : Calls P f args (w.drewN m) fun e w' => e = .returned v ∧ w.drewN m = w') : Calls P f args (w.drewN m) fun e w'' => e = .returned v ∧ ∃ k, w'' = w.drewN k :=
  c.mono fun _ _ ⟨he, h⟩ => ⟨he, m, h.symm⟩
theorem quiet_there {f : FuncId} {args : Array Value} {w : World} {a m : Nat} {v : Value}
    (c : Calls P f args (w.drewN (a + m)) fun e w' => e = .returned v ∧ w.drewN (a + m) = w') : Calls P f args (w.drewN (a + m)) fun e w'' => e = .returned v ∧ ∃ k, w'' = w.drewN (a + k) :=
  c.mono fun _ _ ⟨he, h⟩ => ⟨he, m, h.symm⟩

theorem upto_get {f : Nat → Int} {n k : Nat} (h : k < n) : (upto f n)[k]?.getD 0 = f k := by
  unfold upto
  simp [h]

/-- A whole row stored into a variable of an array's type. -/
theorem run_storeAll {w : World} {g : Nat} {t : TypeId} {cur cs : Array Value} (hg : w.heap[g]? = some (.cells cur t (0, 0))) (hs : cs.size = cur.size) (h1 : ∀ v ∈ cs.toList, v.oneCell' = true) :
    (storeCells ⟨g, 0, none⟩ cs.toList).run P w = .ok () (w.setRow g cs) := by
  have h := run_storeCells_at (P := P) g 0 t cs.toList 0 cur w hg (by simp [hs]) h1
  rw [h]
  congr 2
  have : List.drop cs.size cur.toList = [] := List.drop_eq_nil_of_le (by simp [hs])
  simp [this]

/-- 'A block holds these cells' speaks of cells alone. -/
theorem holdsBlock_own {β : Type} (B : Nat) (t : TypeId) (f : β → Array Value) : Own (fun s W => W.heap[B]? = some (.cells (f s) t (0, 0))) := by
  rintro s X Y row h hg hrow
  refine (hg.block B (Array.getElem?_eq_some_iff.1 h).1 (fun e' => ?_)).trans h
  obtain ⟨o, ho, hc⟩ := hrow B e'.symm
  rw [h] at ho; cases ho; cases hc

end Go.Proofs.Ytalgkiagdjckiaa

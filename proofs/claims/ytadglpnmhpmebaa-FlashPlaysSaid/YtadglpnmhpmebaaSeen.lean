/-
  A range over a function whose rounds are met one by one: what a round does to memory is told to the walk of the function that is ranged over.
  Conditions: the body goes on to the next round each time.
-/
import Derived.Test.YtadglpnmhpmebaaRange
namespace Go.Proofs.Ytadglpnmhpmebaa
open Go.RowKit Go.Shelf
variable {F : Fence} {n : Nat} {P : Program}

theorem put_same_l {W : World} {l : Nat} {o o' : Obj} (h : W.heap[l]? = some o) : (W.putObj l o').heap[l]? = some o' := World.putObj_heap_same (Array.getElem?_eq_some_iff.1 h).1

/-- A round: the variable is laid in a block of its own, the body goes on. -/
theorem rangeFunc_seen {α γ : Type} {g : Operand} {ps : Array Tmp} {assign body : Code} {Q : Exit → Act → World → Prop} {a : Act} {w : World}
    (hro : F.round = none) (h1 : 1 ≤ n) {gf : Nat} {lb : Array Value} (hg : a.eval g = .func (.func gf) #[] lb) (hFg : F.fn gf) (eg : ∀ args w, (callFunc gf args).run P w = .ok (.enter gf args) w)
    {encs : α → Array Value} (hps : ∀ x, (encs x).size = ps.size) (T : TypeId) (cellsX : α → Array Value) (a₁ : α → Nat → Act)
    (Pre : γ → World → Prop) (Body : γ → α → World → World → Prop) (S : World → Prop)
    (hPre : ∀ s W l o o' v, w.heap.size ≤ l → W.heap[l]? = some o → o.isCells = false → Pre s W → Pre s ((W.alloc v).putObj l o'))
    (hBody : ∀ s x W W' l o o1 o2 o', w.heap.size ≤ l → W.heap[l]? = some o → o.isCells = false → W'.heap[l]? = some o1 → o1.isCells = false → Body s x ((W.alloc (.cells (cellsX x) T)).putObj l o2) W' → Body s x W (W'.putObj l o'))
    (hS : ∀ W l o o', w.heap.size ≤ l → W.heap[l]? = some o → o.isCells = false → S W → S (W.putObj l o'))
    (hassign : ∀ (l : Nat) (x : α) (W : World) (K : Act → World → Prop), K (a₁ x W.heap.size) (W.alloc (.cells (cellsX x) T)) →
      assign.wpIn (F.inRound l) (n - 1 - 1) P (Exit.then K (fun _ _ _ => False)) { tmps := (ps.zip (encs x)).foldl (fun t (p, v) => t.setIfInBounds p v) a.tmps, defers := [] } W)
    (hbody : ∀ (l : Nat) (s : γ) (x : α) (b : Nat) (W : World), Pre s W → w.heap.size ≤ W.heap.size → W.heap[b]? = some (.cells (cellsX x) T (0, 0)) →
      body.wpIn (F.inRound l) (n - 1 - 1) P (fun e _ W' => e = .normal ∧ KeepsFrom w.heap.size W W' ∧ Body s x W W') (a₁ x b) W)
    (hcall : ∀ (l : Nat) (Rdy : World → Prop) (W0 : World), Below w.heap.size w W0 → (∀ W W', Rdy W → Below W.heap.size W W' → Rdy W') → Rdy W0 →
      (∀ s x W, Rdy W → w.heap.size ≤ W.heap.size → Pre s W → YieldAt F (n - 1 - 1) P l (encs x) W fun e W' => e = .returned (.bool true) ∧ Rdy W' ∧ Body s x W W') →
      CallsIn F (n - 1) P gf (#[.func (.yield l) #[] #[]] ++ lb) W0 fun e W' => (∃ v, e = .returned v) ∧ Rdy W' ∧ S W')
    (hdone : ∀ (D : Nat) (W : World), w.heap.size ≤ D → S W → W.heap[D]? = some (.deferred (some [])) → Q .normal { a with defers := { target := .collected D, args := #[] } :: a.defers } W) :
    (Code.rangeFunc g ps assign body).wpIn F n P Q a w := by
  refine wpIn_rangeFunc fun fn hfn => ?_
  rw [hro]
  let R : LoopState → Option Code → Obj := fun st pe => .loop { state := st, pending := pe, fn := fn, tmps := a.tmps, params := ps, assign := assign, body := body, defers := w.heap.size }
  have hsz1 : (w.alloc (.deferred (some []))).heap.size = w.heap.size + 1 := World.size_alloc ..
  have hB : Below w.heap.size w ((w.alloc (.deferred (some []))).alloc (R .ready none)) := ((Below.refl _ w).alloc (Nat.le_refl _) _).alloc (by rw [hsz1]; omega) _
  have hl : ((w.alloc (.deferred (some []))).alloc (R .ready none)).heap[w.heap.size + 1]? = some (R .ready none) := by
    have := World.alloc_heap_new (w.alloc (.deferred (some []))) (R .ready none)
    rw [hsz1] at this; exact this
  have hD : ((w.alloc (.deferred (some []))).alloc (R .ready none)).heap[w.heap.size]? = some (.deferred (some [])) :=
    (Below.heap_alloc _ _ _ (by rw [hsz1]; omega)).trans (World.alloc_heap_new w _)
  refine ⟨w.heap.size + 1, [{ target := .collected w.heap.size, args := #[] }], (w.alloc (.deferred (some []))).alloc (R .ready none), { target := .fn (.func gf) lb, args := #[.func (.yield (w.heap.size + 1)) #[] #[]] }, (w.alloc (.deferred (some []))).alloc (R .ready none), gf, #[.func (.yield (w.heap.size + 1)) #[] #[]] ++ lb, (w.alloc (.deferred (some []))).alloc (R .ready none),
    run_enterLoop_outer fn a.tmps ps assign body, ?_, ?_, ?_, fun _ => h1, ?_⟩
  · simp only [resolve, hg]; simp [go_sem]
  · intro f' hf'
    have e : gf = f' := by simpa [Target.leads] using hf'
    exact e ▸ hFg
  · simp [invoke, go_sem, eg]
  refine (hcall (w.heap.size + 1) (fun W => W.heap[w.heap.size + 1]? = some (R .ready none) ∧ W.heap[w.heap.size]? = some (.deferred (some []))) _ hB ?_ ⟨hl, hD⟩ ?_).mono ?_
  · rintro W W' ⟨q1, q2⟩ hb
    exact ⟨(hb.block _ (Array.getElem?_eq_some_iff.1 q1).1).trans q1, (hb.block _ (Array.getElem?_eq_some_iff.1 q2).1).trans q2⟩
  · rintro s x W ⟨q1, q2⟩ hle hpre
    refine ⟨fn, _, assign, body, run_yield q1 (hps x), roundIn_of_wpIn hfn (hassign _ x W _ ?_)⟩
    have l1 := (Array.getElem?_eq_some_iff.1 q1).1
    have r1 : (W.alloc (.cells (cellsX x) T)).heap[w.heap.size + 1]? = some (R .ready none) := (Below.heap_alloc W _ _ l1).trans q1
    have r2 : (W.alloc (.cells (cellsX x) T)).heap[w.heap.size]? = some (.deferred (some [])) := (Below.heap_alloc W _ _ (Array.getElem?_eq_some_iff.1 q2).1).trans q2
    have r3 : (W.alloc (.cells (cellsX x) T)).heap[W.heap.size]? = some (.cells (cellsX x) T (0, 0)) := World.alloc_heap_new W _
    refine ⟨_, run_beginRound r1 rfl, ?_⟩
    have hW2 : w.heap.size ≤ ((W.alloc (.cells (cellsX x) T)).putObj (w.heap.size + 1) (R .busy none)).heap.size := by
      rw [World.putObj_size, World.size_alloc]; omega
    refine wpIn_mono (hbody _ s x W.heap.size _ (hPre s W _ _ _ _ (Nat.le_succ _) q1 rfl hpre) hW2 ((World.putObj_heap_other (by omega)).trans r3)) ?_
    rintro e a3 W3 ⟨rfl, hk, hb⟩
    have q4 : W3.heap[w.heap.size + 1]? = some (R .busy none) := hk.same _ _ (Nat.le_succ _) (put_same_l r1) rfl
    have q5 : W3.heap[w.heap.size]? = some (.deferred (some [])) := hk.same _ _ (Nat.le_refl _) ((World.putObj_heap_other (by omega)).trans r2) rfl
    exact ⟨_, _, run_endRound none q4, rfl, ⟨put_same_l q4, (World.putObj_heap_other (by omega)).trans q5⟩, hBody s x W W3 _ _ _ _ _ (Nat.le_succ _) q1 rfl q4 rfl hb⟩
  · rintro e W2 ⟨⟨v, rfl⟩, ⟨q1, q2⟩, hs⟩
    exact ⟨none, _, run_endLoop q1 (by simp), hdone _ _ (Nat.le_refl _) (hS _ _ _ _ (Nat.le_succ _) q1 rfl hs) ((World.putObj_heap_other (by omega)).trans q2)⟩
end Go.Proofs.Ytadglpnmhpmebaa

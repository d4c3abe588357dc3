/-
  A range over a function whose rounds carry a state along, with what a round does to memory left open: the loop variable is laid in a block of its own; a round goes on, or returns.
  Conditions: the body goes on to the next round, or returns.
-/
import Derived.Test.YtadglpnmhpmebaaSeen
namespace Go.Proofs.Ytadglpnmhpmebaa
open Go.RowKit Go.Shelf
variable {F : Fence} {n : Nat} {P : Program}

theorem rangeFunc_inv {γ : Type} {g : Operand} {ps : Array Tmp} {assign body : Code} {Q : Exit → Act → World → Prop} {a : Act} {w : World}
    (hro : F.round = none) (h1 : 1 ≤ n) {gf : Nat} {lb : Array Value} (hg : a.eval g = .func (.func gf) #[] lb) (hFg : F.fn gf) (eg : ∀ args w, (callFunc gf args).run P w = .ok (.enter gf args) w)
    (enc : γ → Array Value) (hps : ∀ x, (enc x).size = ps.size) (T : TypeId) (cellsX : γ → Array Value) (nx : γ → γ) (more : γ → Prop) (s0 : γ)
    (Inv : γ → World → Prop) (Stop : World → Prop)
    (hbel : ∀ s W W', Inv s W → Below W.heap.size W W' → Inv s W')
    (hturn : ∀ s W o o', W.heap[w.heap.size + 1]? = some o → o.isCells = false → Inv s W → Inv s (W.putObj (w.heap.size + 1) o'))
    (hstop : ∀ W o o', W.heap[w.heap.size + 1]? = some o → o.isCells = false → Stop W → Stop (W.putObj (w.heap.size + 1) o'))
    (hround : ∃ a₁ : γ → Nat → Act, (∀ (l : Nat) (s : γ) (W : World) (b : Nat) (K : Act → World → Prop), b = W.heap.size → more s → Inv s W → K (a₁ s b) (W.alloc (.cells (cellsX s) T)) →
        assign.wpIn (F.inRound l) (n - 1 - 1) P (Exit.then K (fun _ _ _ => False)) { tmps := (ps.zip (enc s)).foldl (fun t (p, v) => t.setIfInBounds p v) a.tmps, defers := [] } W) ∧
      (∀ (l : Nat) (s : γ) (b : Nat) (W : World), more s → Inv s W → w.heap.size + 2 ≤ b → W.heap[b]? = some (.cells (cellsX s) T (0, 0)) → w.heap.size + 2 ≤ W.heap.size →
        body.wpIn (F.inRound l) (n - 1 - 1) P (fun e _ W' => (W'.heap[w.heap.size + 1]? = W.heap[w.heap.size + 1]? ∧ W'.heap[w.heap.size]? = W.heap[w.heap.size]?) ∧ ((e = .normal ∧ Inv (nx s) W') ∨ (e = .ret ∧ Stop W'))) (a₁ s b) W))
    (h0 : ∀ o : Obj, o.isCells = false → Inv s0 ((w.alloc (.deferred (some []))).alloc o))
    (hcall : ∀ (l : Nat) (J : γ → World → Prop) (JS : World → Prop) (W0 : World), (∀ s W, J s W → Inv s W) → (∀ s W W', J s W → Below W.heap.size W W' → J s W') → J s0 W0 →
      (∀ s W, J s W → more s → YieldAt F (n - 1 - 1) P l (enc s) W fun e W' => (e = .returned (.bool true) ∧ J (nx s) W') ∨ (e = .returned (.bool false) ∧ JS W')) →
      CallsIn F (n - 1) P gf (#[.func (.yield l) #[] #[]] ++ lb) W0 fun e W' => (∃ v, e = .returned v) ∧ ((∃ s, ¬ more s ∧ J s W') ∨ JS W'))
    (hdone : ∀ (W : World) (s : γ), ¬ more s → Inv s W → W.heap[w.heap.size]? = some (.deferred (some [])) → Q .normal { a with defers := { target := .collected w.heap.size, args := #[] } :: a.defers } W)
    (hleft : ∀ (W : World), Stop W → W.heap[w.heap.size]? = some (.deferred (some [])) → Code.ret.wpIn F n P Q { a with defers := { target := .collected w.heap.size, args := #[] } :: a.defers } W) :
    (Code.rangeFunc g ps assign body).wpIn F n P Q a w := by
  obtain ⟨a₁, hassign, hbody⟩ := hround
  refine wpIn_rangeFunc fun fn hfn => ?_
  rw [hro]
  let R : LoopState → Option Code → Obj := fun st pe => .loop { state := st, pending := pe, fn := fn, tmps := a.tmps, params := ps, assign := assign, body := body, defers := w.heap.size }
  have hsz1 : (w.alloc (.deferred (some []))).heap.size = w.heap.size + 1 := World.size_alloc ..
  have hl : ((w.alloc (.deferred (some []))).alloc (R .ready none)).heap[w.heap.size + 1]? = some (R .ready none) := by
    have := World.alloc_heap_new (w.alloc (.deferred (some []))) (R .ready none)
    rw [hsz1] at this; exact this
  have hD : ((w.alloc (.deferred (some []))).alloc (R .ready none)).heap[w.heap.size]? = some (.deferred (some [])) :=
    (Below.heap_alloc _ _ _ (by rw [hsz1]; omega)).trans (World.alloc_heap_new w _)
  have hlt : ∀ {W : World} {k : Nat} {o : Obj}, W.heap[k]? = some o → k < W.heap.size := fun h => (Array.getElem?_eq_some_iff.1 h).1
  refine ⟨w.heap.size + 1, [{ target := .collected w.heap.size, args := #[] }], (w.alloc (.deferred (some []))).alloc (R .ready none), { target := .fn (.func gf) lb, args := #[.func (.yield (w.heap.size + 1)) #[] #[]] }, (w.alloc (.deferred (some []))).alloc (R .ready none), gf, #[.func (.yield (w.heap.size + 1)) #[] #[]] ++ lb, (w.alloc (.deferred (some []))).alloc (R .ready none),
    run_enterLoop_outer fn a.tmps ps assign body, ?_, ?_, ?_, fun _ => h1, ?_⟩
  · simp only [resolve, hg]; simp [go_sem]
  · intro f' hf'
    have e : gf = f' := by simpa [Target.leads] using hf'
    exact e ▸ hFg
  · simp [invoke, go_sem, eg]
  refine (hcall (w.heap.size + 1) (fun s W => Inv s W ∧ W.heap[w.heap.size + 1]? = some (R .ready none) ∧ W.heap[w.heap.size]? = some (.deferred (some []))) (fun W => Stop W ∧ W.heap[w.heap.size + 1]? = some (R .done (some .ret)) ∧ W.heap[w.heap.size]? = some (.deferred (some []))) _ (fun _ _ h => h.1) ?_ ⟨h0 _ rfl, hl, hD⟩ ?_).mono ?_
  · rintro s W W' ⟨q0, q1, q2⟩ hb
    exact ⟨hbel _ _ _ q0 hb, (hb.block _ (hlt q1)).trans q1, (hb.block _ (hlt q2)).trans q2⟩
  · rintro s W ⟨q0, q1, q2⟩ hm
    refine ⟨fn, _, assign, body, run_yield q1 (hps s), roundIn_of_wpIn hfn (hassign _ s W W.heap.size _ rfl hm q0 ?_)⟩
    have ha : Below W.heap.size W (W.alloc (.cells (cellsX s) T)) := (Below.refl _ W).alloc (Nat.le_refl _) _
    have q1' := (ha.block _ (hlt q1)).trans q1
    have q2' := (ha.block _ (hlt q2)).trans q2
    refine ⟨_, run_beginRound q1' rfl, ?_⟩
    have hlW := hlt q1
    have hnew : ((W.alloc (.cells (cellsX s) T)).putObj (w.heap.size + 1) (R .busy none)).heap[W.heap.size]? = some (.cells (cellsX s) T (0, 0)) := (World.putObj_heap_other (by omega)).trans (heap_alloc_new _ _)
    refine wpIn_mono (hbody _ s W.heap.size _ hm (hturn _ _ _ _ q1' rfl (hbel _ _ _ q0 ha)) (by omega) hnew (by rw [World.putObj_size, World.size_alloc]; omega)) ?_
    rintro e a3 W3 ⟨⟨k1, k2⟩, hb⟩
    have q4 : W3.heap[w.heap.size + 1]? = some (R .busy none) := k1.trans (put_same_l q1')
    have q5 : W3.heap[w.heap.size]? = some (.deferred (some [])) := k2.trans ((World.putObj_heap_other (by omega)).trans q2')
    rcases hb with ⟨rfl, hb⟩ | ⟨rfl, hb⟩
    · exact ⟨_, _, run_endRound none q4, .inl ⟨rfl, hturn _ _ _ _ q4 rfl hb, put_same_l q4, (World.putObj_heap_other (by omega)).trans q5⟩⟩
    · exact ⟨_, _, run_endRound (some .ret) q4, .inr ⟨rfl, hstop _ _ _ q4 rfl hb, put_same_l q4, (World.putObj_heap_other (by omega)).trans q5⟩⟩
  · rintro e W2 ⟨⟨v, rfl⟩, ⟨s, hns, q0, q1, q2⟩ | ⟨q0, q1, q2⟩⟩
    · exact ⟨none, _, run_endLoop q1 (by simp), hdone _ s hns (hturn _ _ _ _ q1 rfl q0) ((World.putObj_heap_other (by omega)).trans q2)⟩
    · exact ⟨some .ret, _, run_endLoop q1 (by simp), hleft _ (hstop _ _ _ q1 rfl q0) ((World.putObj_heap_other (by omega)).trans q2)⟩
end Go.Proofs.Ytadglpnmhpmebaa

/-
  A range over a function whose rounds all go on; what is given is told by the world at hand; what a round leaves of the blocks behind the loop's record is told to the function that is ranged over (so that it may range over a function of its own).
  Conditions: the body goes on to the next round each time.
-/
import Derived.Test.YtadglpnmhpmebaaInvRange
namespace Go.Proofs.Ytadglpnmhpmebaa
open Go.RowKit Go.Shelf
variable {F : Fence} {n : Nat} {P : Program}

/-- Behind l every block stays that is no row of t. -/
def Stay (t : TypeId) (l : Nat) (W W' : World) : Prop := W.heap.size ≤ W'.heap.size ∧ ∀ (i : Nat) (o : Obj), l < i → W.heap[i]? = some o → (∀ cs sp, o ≠ .cells cs t sp) → W'.heap[i]? = some o
theorem Stay.trans {t : TypeId} {l : Nat} {W W' W2 : World} (h : Stay t l W W') (h' : Stay t l W' W2) : Stay t l W W2 :=
  ⟨Nat.le_trans h.1 h'.1, fun i o hi ho hc => h'.2 i o hi (h.2 i o hi ho hc) hc⟩
theorem Stay.more {t : TypeId} {l l' : Nat} {W W' : World} (h : Stay t l W W') (hl : l ≤ l') : Stay t l' W W' := ⟨h.1, fun i o hi => h.2 i o (by omega)⟩
theorem Stay.of_below {t : TypeId} {l : Nat} {W W' : World} (h : Below W.heap.size W W') : Stay t l W W' :=
  ⟨h.size, fun i _ _ ho _ => (h.block i (Array.getElem?_eq_some_iff.1 ho).1).trans ho⟩
theorem Stay.put {t : TypeId} {l : Nat} {W : World} {o : Obj} : Stay t l W (W.putObj l o) :=
  ⟨by rw [World.putObj_size]; exact Nat.le_refl _, fun i _ hi ho _ => (World.putObj_heap_other (by omega)).trans ho⟩

theorem rangeFunc_near {α γ : Type} {g : Operand} {ps : Array Tmp} {assign body : Code} {Q : Exit → Act → World → Prop} {a : Act} {w : World}
    (hro : F.round = none) (h1 : 1 ≤ n) {gf : Nat} {lb : Array Value} (hg : a.eval g = .func (.func gf) #[] lb) (hFg : F.fn gf) (eg : ∀ args w, (callFunc gf args).run P w = .ok (.enter gf args) w)
    (encs : α → Array Value) (hps : ∀ x, (encs x).size = ps.size) (nx : γ → α → γ) (s0 : γ) (t : TypeId)
    (Inv : γ → World → Prop) (May : γ → α → World → Prop) (Fin : γ → Prop)
    (hbel : ∀ s W W', Inv s W → Below W.heap.size W W' → Inv s W')
    (hturn : ∀ s W i o o', w.heap.size + 1 ≤ i → W.heap[i]? = some o → o.isCells = false → Inv s W → Inv s (W.putObj i o'))
    (hmayT : ∀ s x W o o', W.heap[w.heap.size + 1]? = some o → o.isCells = false → May s x W → May s x (W.putObj (w.heap.size + 1) o'))
    (hround : ∃ a₁ : α → Act, (∀ (l : Nat) (x : α) (W : World) (K : Act → World → Prop), K (a₁ x) W →
        assign.wpIn (F.inRound l) (n - 1 - 1) P (Exit.then K (fun _ _ _ => False)) { tmps := (ps.zip (encs x)).foldl (fun t (p, v) => t.setIfInBounds p v) a.tmps, defers := [] } W) ∧
      (∀ (l : Nat) (s : γ) (x : α) (W : World), Inv s W → May s x W → w.heap.size + 2 ≤ W.heap.size → (∃ o, W.heap[w.heap.size + 1]? = some o ∧ o.isCells = false) → W.heap[w.heap.size]? = some (.deferred (some [])) →
        body.wpIn (F.inRound l) (n - 1 - 1) P (fun e _ W' => e = .normal ∧ (W'.heap[w.heap.size + 1]? = W.heap[w.heap.size + 1]? ∧ W'.heap[w.heap.size]? = W.heap[w.heap.size]?) ∧ Stay t (w.heap.size + 1) W W' ∧ Inv (nx s x) W') (a₁ x) W))
    (h0 : ∀ o : Obj, o.isCells = false → Inv s0 ((w.alloc (.deferred (some []))).alloc o))
    (hcall : ∀ (l : Nat) (J : γ → World → Prop) (W0 : World), l = w.heap.size + 1 → l < W0.heap.size → (∀ s W, J s W → Inv s W) → (∀ s W W', J s W → Below W.heap.size W W' → J s W') → (∀ s W i o o', l < i → W.heap[i]? = some o → o.isCells = false → J s W → J s (W.putObj i o')) → J s0 W0 →
      (∀ s x W, J s W → May s x W → YieldAt F (n - 1 - 1) P l (encs x) W fun e W' => e = .returned (.bool true) ∧ J (nx s x) W' ∧ Stay t l W W') →
      CallsIn F (n - 1) P gf (#[.func (.yield l) #[] #[]] ++ lb) W0 fun e W' => (∃ v, e = .returned v) ∧ ∃ s, Fin s ∧ J s W')
    (hdone : ∀ (W : World) (s : γ), Fin s → Inv s W → W.heap[w.heap.size]? = some (.deferred (some [])) → Q .normal { a with defers := { target := .collected w.heap.size, args := #[] } :: a.defers } W) :
    (Code.rangeFunc g ps assign body).wpIn F n P Q a w := by
  obtain ⟨a₁, hassign, hbody⟩ := hround
  refine wpIn_rangeFunc fun fn hfn => ?_
  rw [hro]
  let R : LoopState → Option Code → Obj := fun st pe => .loop { state := st, pending := pe, fn := fn, tmps := a.tmps, params := ps, assign := assign, body := body, defers := w.heap.size }
  have hsz1 : (w.alloc (.deferred (some []))).heap.size = w.heap.size + 1 := World.size_alloc ..
  have hl : ((w.alloc (.deferred (some []))).alloc (R .ready none)).heap[w.heap.size + 1]? = some (R .ready none) := by
    have := World.alloc_heap_new (w.alloc (.deferred (some []))) (R .ready none)
    rw [hsz1] at this; exact this
  have hD : ((w.alloc (.deferred (some []))).alloc (R .ready none)).heap[w.heap.size]? = some (.deferred (some [])) :=
    (Below.heap_alloc _ _ _ (by rw [hsz1]; omega)).trans (World.alloc_heap_new w _)
  have hlt : ∀ {W : World} {k : Nat} {o : Obj}, W.heap[k]? = some o → k < W.heap.size := fun h => (Array.getElem?_eq_some_iff.1 h).1
  refine ⟨w.heap.size + 1, [{ target := .collected w.heap.size, args := #[] }], (w.alloc (.deferred (some []))).alloc (R .ready none), { target := .fn (.func gf) lb, args := #[.func (.yield (w.heap.size + 1)) #[] #[]] }, (w.alloc (.deferred (some []))).alloc (R .ready none), gf, #[.func (.yield (w.heap.size + 1)) #[] #[]] ++ lb, (w.alloc (.deferred (some []))).alloc (R .ready none),
    run_enterLoop_outer fn a.tmps ps assign body, ?_, ?_, ?_, fun _ => h1, ?_⟩
  · simp only [resolve, hg]; simp [go_sem]
  · intro f' hf'
    have e : gf = f' := by simpa [Target.leads] using hf'
    exact e ▸ hFg
  · simp [invoke, go_sem, eg]
  refine (hcall (w.heap.size + 1) (fun s W => Inv s W ∧ W.heap[w.heap.size + 1]? = some (R .ready none) ∧ W.heap[w.heap.size]? = some (.deferred (some []))) _ rfl (hlt hl) (fun _ _ h => h.1) ?_ ?_ ⟨h0 _ rfl, hl, hD⟩ ?_).mono ?_
  · rintro s W W' ⟨q0, q1, q2⟩ hb
    exact ⟨hbel _ _ _ q0 hb, (hb.block _ (hlt q1)).trans q1, (hb.block _ (hlt q2)).trans q2⟩
  · rintro s W i o o' hi ho hc ⟨q0, q1, q2⟩
    exact ⟨hturn _ _ _ _ _ (by omega) ho hc q0, (World.putObj_heap_other (by omega)).trans q1, (World.putObj_heap_other (by omega)).trans q2⟩
  · rintro s x W ⟨q0, q1, q2⟩ hm
    refine ⟨fn, _, assign, body, run_yield q1 (hps x), roundIn_of_wpIn hfn (hassign _ x W _ ?_)⟩
    refine ⟨_, run_beginRound q1 rfl, ?_⟩
    have hlW := hlt q1
    refine wpIn_mono (hbody _ s x _ (hturn _ _ _ _ _ (Nat.le_refl _) q1 rfl q0) (hmayT _ _ _ _ _ q1 rfl hm) (by rw [World.putObj_size]; omega) ⟨_, put_same_l q1, rfl⟩ ((World.putObj_heap_other (by omega)).trans q2)) ?_
    rintro e a3 W3 ⟨rfl, ⟨k1, k2⟩, hst, hb⟩
    have q4 : W3.heap[w.heap.size + 1]? = some (R .busy none) := k1.trans (put_same_l q1)
    have q5 : W3.heap[w.heap.size]? = some (.deferred (some [])) := k2.trans ((World.putObj_heap_other (by omega)).trans q2)
    exact ⟨_, _, run_endRound none q4, rfl, ⟨hturn _ _ _ _ _ (Nat.le_refl _) q4 rfl hb, put_same_l q4, (World.putObj_heap_other (by omega)).trans q5⟩, Stay.put.trans (hst.trans Stay.put)⟩
  · rintro e W2 ⟨⟨v, rfl⟩, s, hns, q0, q1, q2⟩
    exact ⟨none, _, run_endLoop q1 (by simp), hdone _ s hns (hturn _ _ _ _ _ (Nat.le_refl _) q1 rfl q0) ((World.putObj_heap_other (by omega)).trans q2)⟩
end Go.Proofs.Ytadglpnmhpmebaa

/-
  A range over a function whose rounds are met one by one, and may be left: what a round does to memory is told to the walk of the function that is ranged over.
  Conditions: the body goes on to the next round, or leaves one named block ('break').
-/
import Derived.Test.YtocjdhkjlnkgaaaSeen
namespace Go.Proofs.Ytocjdhkjlnkgaaa
open Go.RowKit Go.Shelf
variable {F : Fence} {n : Nat} {P : Program}

/-- A round: the variable is laid in a block of its own, the body goes on. -/
theorem rangeFunc_seenB {α γ : Type} {g : Operand} {ps : Array Tmp} {assign body : Code} {Q : Exit → Act → World → Prop} {a : Act} {w : World}
    (hro : F.round = none) (h1 : 1 ≤ n) {gf : Nat} {lb : Array Value} (hg : a.eval g = .func (.func gf) #[] lb) (hFg : F.fn gf) (eg : ∀ args w, (callFunc gf args).run P w = .ok (.enter gf args) w)
    {encs : α → Array Value} (hps : ∀ x, (encs x).size = ps.size) (a₁ : α → Act)
    (Pre : γ → World → Prop) (Body Stop : γ → α → World → World → Prop) (S Sp : World → Prop) (bid : Nat)
    (hPre : ∀ s W l o o', w.heap.size ≤ l → W.heap[l]? = some o → o.isCells = false → Pre s W → Pre s (W.putObj l o'))
    (hBody : ∀ s x W W' l o o1 o2 o', w.heap.size ≤ l → W.heap[l]? = some o → o.isCells = false → W'.heap[l]? = some o1 → o1.isCells = false → Body s x (W.putObj l o2) W' → Body s x W (W'.putObj l o'))
    (hStop : ∀ s x W W' l o o1 o2 o', w.heap.size ≤ l → W.heap[l]? = some o → o.isCells = false → W'.heap[l]? = some o1 → o1.isCells = false → Stop s x (W.putObj l o2) W' → Stop s x W (W'.putObj l o'))
    (hSp : ∀ W l o o', w.heap.size ≤ l → W.heap[l]? = some o → o.isCells = false → Sp W → Sp (W.putObj l o'))
    (hS : ∀ W l o o', w.heap.size ≤ l → W.heap[l]? = some o → o.isCells = false → S W → S (W.putObj l o'))
    (hassign : ∀ (l : Nat) (x : α) (W : World) (K : Act → World → Prop), K (a₁ x) W →
      assign.wpIn (F.inRound l) (n - 1 - 1) P (Exit.then K (fun _ _ _ => False)) { tmps := (ps.zip (encs x)).foldl (fun t (p, v) => t.setIfInBounds p v) a.tmps, defers := [] } W)
    (hbody : ∀ (l : Nat) (s : γ) (x : α) (W : World), Pre s W → w.heap.size ≤ W.heap.size →
      body.wpIn (F.inRound l) (n - 1 - 1) P (fun e _ W' => KeepsFrom w.heap.size W W' ∧ ((e = .normal ∧ Body s x W W') ∨ (e = .exit bid ∧ Stop s x W W'))) (a₁ x) W)
    (hcall : ∀ (l : Nat) (Rdy Over : World → Prop) (W0 : World), Below w.heap.size w W0 → (∀ W W', Rdy W → KeepsFrom w.heap.size W W' → Rdy W') → (∀ W W', Over W → KeepsFrom w.heap.size W W' → Over W') → Rdy W0 →
      (∀ s x W, Rdy W → w.heap.size ≤ W.heap.size → Pre s W → YieldAt F (n - 1 - 1) P l (encs x) W fun e W' => (e = .returned (.bool true) ∧ Rdy W' ∧ Body s x W W') ∨ (e = .returned (.bool false) ∧ Over W' ∧ Stop s x W W')) →
      CallsIn F (n - 1) P gf (#[.func (.yield l) #[] #[]] ++ lb) W0 fun e W' => (∃ v, e = .returned v) ∧ ((Rdy W' ∧ S W') ∨ (Over W' ∧ Sp W')))
    (hdone : ∀ (D : Nat) (W : World), w.heap.size ≤ D → S W → W.heap[D]? = some (.deferred (some [])) → Q .normal { a with defers := { target := .collected D, args := #[] } :: a.defers } W)
    (hleft : ∀ (D : Nat) (W : World), w.heap.size ≤ D → Sp W → W.heap[D]? = some (.deferred (some [])) → (Code.exit bid).wpIn F n P Q { a with defers := { target := .collected D, args := #[] } :: a.defers } W) :
    (Code.rangeFunc g ps assign body).wpIn F n P Q a w := by
  refine wpIn_rangeFunc fun fn hfn => ?_
  rw [hro]
  let R : LoopState → Option Code → Obj := fun st pe => .loop { state := st, pending := pe, fn := fn, tmps := a.tmps, params := ps, assign := assign, body := body, defers := w.heap.size }
  have hsz1 : (w.alloc (.deferred (some []))).heap.size = w.heap.size + 1 := World.size_alloc ..
  have hB : Below w.heap.size w ((w.alloc (.deferred (some []))).alloc (R .ready none)) := ((Below.refl _ w).alloc (Nat.le_refl _) _).alloc (by rw [hsz1]; omega) _
  have hl : ((w.alloc (.deferred (some []))).alloc (R .ready none)).heap[w.heap.size + 1]? = some (R .ready none) := by
    have := World.alloc_heap_new (w.alloc (.deferred (some []))) (R .ready none)
    rw [hsz1] at this; exact this
  have hD : ((w.alloc (.deferred (some []))).alloc (R .ready none)).heap[w.heap.size]? = some (.deferred (some [])) :=
    (Below.heap_alloc _ _ _ (by rw [hsz1]; omega)).trans (World.alloc_heap_new w _)
  refine ⟨w.heap.size + 1, [{ target := .collected w.heap.size, args := #[] }], (w.alloc (.deferred (some []))).alloc (R .ready none), { target := .fn (.func gf) lb, args := #[.func (.yield (w.heap.size + 1)) #[] #[]] }, (w.alloc (.deferred (some []))).alloc (R .ready none), gf, #[.func (.yield (w.heap.size + 1)) #[] #[]] ++ lb, (w.alloc (.deferred (some []))).alloc (R .ready none),
    run_enterLoop_outer fn a.tmps ps assign body, ?_, ?_, ?_, fun _ => h1, ?_⟩
  · simp only [resolve, hg]; simp [go_sem]
  · intro f' hf'
    have e : gf = f' := by simpa [Target.leads] using hf'
    exact e ▸ hFg
  · simp [invoke, go_sem, eg]
  refine (hcall (w.heap.size + 1) (fun W => W.heap[w.heap.size + 1]? = some (R .ready none) ∧ W.heap[w.heap.size]? = some (.deferred (some []))) (fun W => W.heap[w.heap.size + 1]? = some (R .done (some (.exit bid))) ∧ W.heap[w.heap.size]? = some (.deferred (some []))) _ hB ?_ ?_ ⟨hl, hD⟩ ?_).mono ?_
  · rintro W W' ⟨q1, q2⟩ hb
    exact ⟨hb.same _ _ (Nat.le_succ _) q1 rfl, hb.same _ _ (Nat.le_refl _) q2 rfl⟩
  · rintro W W' ⟨q1, q2⟩ hb
    exact ⟨hb.same _ _ (Nat.le_succ _) q1 rfl, hb.same _ _ (Nat.le_refl _) q2 rfl⟩
  · rintro s x W ⟨q1, q2⟩ hle hpre
    refine ⟨fn, _, assign, body, run_yield q1 (hps x), roundIn_of_wpIn hfn (hassign _ x W _ ?_)⟩
    refine ⟨_, run_beginRound q1 rfl, ?_⟩
    have hW2 : w.heap.size ≤ (W.putObj (w.heap.size + 1) (R .busy none)).heap.size := by
      rw [World.putObj_size]; omega
    refine wpIn_mono (hbody _ s x _ (hPre s W _ _ _ (Nat.le_succ _) q1 rfl hpre) hW2) ?_
    rintro e a3 W3 ⟨hk, hb⟩
    have q4 : W3.heap[w.heap.size + 1]? = some (R .busy none) := hk.same _ _ (Nat.le_succ _) (put_same q1) rfl
    have q5 : W3.heap[w.heap.size]? = some (.deferred (some [])) := hk.same _ _ (Nat.le_refl _) ((World.putObj_heap_other (by omega)).trans q2) rfl
    rcases hb with ⟨rfl, hb⟩ | ⟨rfl, hb⟩
    · exact ⟨_, _, run_endRound none q4, .inl ⟨rfl, ⟨put_same q4, (World.putObj_heap_other (by omega)).trans q5⟩, hBody s x W W3 _ _ _ _ _ (Nat.le_succ _) q1 rfl q4 rfl hb⟩⟩
    · exact ⟨_, _, run_endRound (some (.exit bid)) q4, .inr ⟨rfl, ⟨put_same q4, (World.putObj_heap_other (by omega)).trans q5⟩, hStop s x W W3 _ _ _ _ _ (Nat.le_succ _) q1 rfl q4 rfl hb⟩⟩
  · rintro e W2 ⟨⟨v, rfl⟩, ⟨⟨q1, q2⟩, hs⟩ | ⟨⟨q1, q2⟩, hs⟩⟩
    · exact ⟨none, _, run_endLoop q1 (by simp), hdone _ _ (Nat.le_refl _) (hS _ _ _ _ (Nat.le_succ _) q1 rfl hs) ((World.putObj_heap_other (by omega)).trans q2)⟩
    · exact ⟨some (.exit bid), _, run_endLoop q1 (by simp), hleft _ _ (Nat.le_refl _) (hSp _ _ _ _ (Nat.le_succ _) q1 rfl hs) ((World.putObj_heap_other (by omega)).trans q2)⟩
end Go.Proofs.Ytocjdhkjlnkgaaa

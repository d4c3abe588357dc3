/-
  Joined: Seen, SeenB, Scope, QuietB, QuietR.
  Conditions: none.
-/
import Derived.Test.YtiddfilhfdkogaaJA
import Derived.Scope
import Derived.BigQuiet
import Derived.Deep.QuietTactic
import Derived.Sort.QuietIn
import Derived.OwnWalkIn
namespace Go.Proofs.Ytiddfilhfdkogaa
open Go.RowKit Go.Shelf
variable {F : Fence} {n : Nat} {P : Program}

theorem put_same_l {W : World} {l : Nat} {o o' : Obj} (h : W.heap[l]? = some o) : (W.putObj l o').heap[l]? = some o' := World.putObj_heap_same (Array.getElem?_eq_some_iff.1 h).1

/-- A round: the variable is laid in a block of its own, the body goes on. -/
theorem rangeFunc_seen {α γ : Type} {g : Operand} {ps : Array Tmp} {assign body : Code} {Q : Exit → Act → World → Prop} {a : Act} {w : World}
    (hro : F.round = none) (h1 : 1 ≤ n) {gf : Nat} {lb : Array Value} (hg : a.eval g = .func (.func gf) #[] lb) (hFg : F.fn gf) (eg : ∀ args w, (callFunc gf args).run P w = .ok (.enter gf args) w)
    {encs : α → Array Value} (hps : ∀ x, (encs x).size = ps.size) (T : TypeId) (cellsX : α → Array Value) (a₁ : α → Nat → Act)
    (Pre : γ → World → Prop) (Body : γ → α → World → World → Prop) (S : World → Prop)
    (hPre : ∀ s W l o o' v, w.heap.size ≤ l → W.heap[l]? = some o → o.isCells = false → Pre s W → Pre s ((W.alloc v).putObj l o'))
    (hBody : ∀ s x W W' l o o1 o2 o', w.heap.size ≤ l → W.heap[l]? = some o → o.isCells = false → W'.heap[l]? = some o1 → o1.isCells = false → Body s x ((W.alloc (.cells (cellsX x) T)).putObj l o2) W' → Body s x W (W'.putObj l o'))
    (hS : ∀ W l o o', w.heap.size ≤ l → W.heap[l]? = some o → o.isCells = false → S W → S (W.putObj l o'))
    (hassign : ∀ (l : Nat) (x : α) (W : World) (K : Act → World → Prop), K (a₁ x W.heap.size) (W.alloc (.cells (cellsX x) T)) →
      assign.wpIn (F.inRound l) (n - 1 - 1) P (Exit.then K (fun _ _ _ => False)) { tmps := (ps.zip (encs x)).foldl (fun t (p, v) => t.setIfInBounds p v) a.tmps, defers := [] } W)
    (hbody : ∀ (l : Nat) (s : γ) (x : α) (b : Nat) (W : World), Pre s W → w.heap.size ≤ W.heap.size → W.heap[b]? = some (.cells (cellsX x) T (0, 0)) →
      body.wpIn (F.inRound l) (n - 1 - 1) P (fun e _ W' => e = .normal ∧ KeepsFrom w.heap.size W W' ∧ Body s x W W') (a₁ x b) W)
    (hcall : ∀ (l : Nat) (Rdy : World → Prop) (W0 : World), Below w.heap.size w W0 → (∀ W W', Rdy W → Below W.heap.size W W' → Rdy W') → Rdy W0 →
      (∀ s x W, Rdy W → w.heap.size ≤ W.heap.size → Pre s W → YieldAt F (n - 1 - 1) P l (encs x) W fun e W' => e = .returned (.bool true) ∧ Rdy W' ∧ Body s x W W') →
      CallsIn F (n - 1) P gf (#[.func (.yield l) #[] #[]] ++ lb) W0 fun e W' => (∃ v, e = .returned v) ∧ Rdy W' ∧ S W')
    (hdone : ∀ (D : Nat) (W : World), w.heap.size ≤ D → S W → W.heap[D]? = some (.deferred (some [])) → Q .normal { a with defers := { target := .collected D, args := #[] } :: a.defers } W) :
    (Code.rangeFunc g ps assign body).wpIn F n P Q a w := by
  refine wpIn_rangeFunc fun fn hfn => ?_
  rw [hro]
  let R : LoopState → Option Code → Obj := fun st pe => .loop { state := st, pending := pe, fn := fn, tmps := a.tmps, params := ps, assign := assign, body := body, defers := w.heap.size }
  have hsz1 : (w.alloc (.deferred (some []))).heap.size = w.heap.size + 1 := World.size_alloc ..
  have hB : Below w.heap.size w ((w.alloc (.deferred (some []))).alloc (R .ready none)) := ((Below.refl _ w).alloc (Nat.le_refl _) _).alloc (by rw [hsz1]; omega) _
  have hl : ((w.alloc (.deferred (some []))).alloc (R .ready none)).heap[w.heap.size + 1]? = some (R .ready none) := by
    have := World.alloc_heap_new (w.alloc (.deferred (some []))) (R .ready none)
    rw [hsz1] at this; exact this
  have hD : ((w.alloc (.deferred (some []))).alloc (R .ready none)).heap[w.heap.size]? = some (.deferred (some [])) :=
    (Below.heap_alloc _ _ _ (by rw [hsz1]; omega)).trans (World.alloc_heap_new w _)
  refine ⟨w.heap.size + 1, [{ target := .collected w.heap.size, args := #[] }], (w.alloc (.deferred (some []))).alloc (R .ready none), { target := .fn (.func gf) lb, args := #[.func (.yield (w.heap.size + 1)) #[] #[]] }, (w.alloc (.deferred (some []))).alloc (R .ready none), gf, #[.func (.yield (w.heap.size + 1)) #[] #[]] ++ lb, (w.alloc (.deferred (some []))).alloc (R .ready none),
    run_enterLoop_outer fn a.tmps ps assign body, ?_, ?_, ?_, fun _ => h1, ?_⟩
  · simp only [resolve, hg]; simp [go_sem]
  · intro f' hf'
    have e : gf = f' := by simpa [Target.leads] using hf'
    exact e ▸ hFg
  · simp [invoke, go_sem, eg]
  refine (hcall (w.heap.size + 1) (fun W => W.heap[w.heap.size + 1]? = some (R .ready none) ∧ W.heap[w.heap.size]? = some (.deferred (some []))) _ hB ?_ ⟨hl, hD⟩ ?_).mono ?_
  · rintro W W' ⟨q1, q2⟩ hb
    exact ⟨(hb.block _ (Array.getElem?_eq_some_iff.1 q1).1).trans q1, (hb.block _ (Array.getElem?_eq_some_iff.1 q2).1).trans q2⟩
  · rintro s x W ⟨q1, q2⟩ hle hpre
    refine ⟨fn, _, assign, body, run_yield q1 (hps x), roundIn_of_wpIn hfn (hassign _ x W _ ?_)⟩
    have l1 := (Array.getElem?_eq_some_iff.1 q1).1
    have r1 : (W.alloc (.cells (cellsX x) T)).heap[w.heap.size + 1]? = some (R .ready none) := (Below.heap_alloc W _ _ l1).trans q1
    have r2 : (W.alloc (.cells (cellsX x) T)).heap[w.heap.size]? = some (.deferred (some [])) := (Below.heap_alloc W _ _ (Array.getElem?_eq_some_iff.1 q2).1).trans q2
    have r3 : (W.alloc (.cells (cellsX x) T)).heap[W.heap.size]? = some (.cells (cellsX x) T (0, 0)) := World.alloc_heap_new W _
    refine ⟨_, run_beginRound r1 rfl, ?_⟩
    have hW2 : w.heap.size ≤ ((W.alloc (.cells (cellsX x) T)).putObj (w.heap.size + 1) (R .busy none)).heap.size := by
      rw [World.putObj_size, World.size_alloc]; omega
    refine wpIn_mono (hbody _ s x W.heap.size _ (hPre s W _ _ _ _ (Nat.le_succ _) q1 rfl hpre) hW2 ((World.putObj_heap_other (by omega)).trans r3)) ?_
    rintro e a3 W3 ⟨rfl, hk, hb⟩
    have q4 : W3.heap[w.heap.size + 1]? = some (R .busy none) := hk.same _ _ (Nat.le_succ _) (put_same_l r1) rfl
    have q5 : W3.heap[w.heap.size]? = some (.deferred (some [])) := hk.same _ _ (Nat.le_refl _) ((World.putObj_heap_other (by omega)).trans r2) rfl
    exact ⟨_, _, run_endRound none q4, rfl, ⟨put_same_l q4, (World.putObj_heap_other (by omega)).trans q5⟩, hBody s x W W3 _ _ _ _ _ (Nat.le_succ _) q1 rfl q4 rfl hb⟩
  · rintro e W2 ⟨⟨v, rfl⟩, ⟨q1, q2⟩, hs⟩
    exact ⟨none, _, run_endLoop q1 (by simp), hdone _ _ (Nat.le_refl _) (hS _ _ _ _ (Nat.le_succ _) q1 rfl hs) ((World.putObj_heap_other (by omega)).trans q2)⟩
end Go.Proofs.Ytiddfilhfdkogaa
namespace Go.Proofs.Ytiddfilhfdkogaa
open Go.RowKit Go.Shelf
variable {F : Fence} {n : Nat} {P : Program}

/-- A round: the variable is laid in a block of its own, the body goes on. -/
theorem rangeFunc_seenB {α γ : Type} {g : Operand} {ps : Array Tmp} {assign body : Code} {Q : Exit → Act → World → Prop} {a : Act} {w : World}
    (hro : F.round = none) (h1 : 1 ≤ n) {gf : Nat} {lb : Array Value} (hg : a.eval g = .func (.func gf) #[] lb) (hFg : F.fn gf) (eg : ∀ args w, (callFunc gf args).run P w = .ok (.enter gf args) w)
    {encs : α → Array Value} (hps : ∀ x, (encs x).size = ps.size) (a₁ : α → Act)
    (Pre : γ → World → Prop) (Body Stop : γ → α → World → World → Prop) (S Sp : World → Prop) (bid : Nat)
    (hPre : ∀ s W l o o', w.heap.size ≤ l → W.heap[l]? = some o → o.isCells = false → Pre s W → Pre s (W.putObj l o'))
    (hBody : ∀ s x W W' l o o1 o2 o', w.heap.size ≤ l → W.heap[l]? = some o → o.isCells = false → W'.heap[l]? = some o1 → o1.isCells = false → Body s x (W.putObj l o2) W' → Body s x W (W'.putObj l o'))
    (hStop : ∀ s x W W' l o o1 o2 o', w.heap.size ≤ l → W.heap[l]? = some o → o.isCells = false → W'.heap[l]? = some o1 → o1.isCells = false → Stop s x (W.putObj l o2) W' → Stop s x W (W'.putObj l o'))
    (hSp : ∀ W l o o', w.heap.size ≤ l → W.heap[l]? = some o → o.isCells = false → Sp W → Sp (W.putObj l o'))
    (hS : ∀ W l o o', w.heap.size ≤ l → W.heap[l]? = some o → o.isCells = false → S W → S (W.putObj l o'))
    (hassign : ∀ (l : Nat) (x : α) (W : World) (K : Act → World → Prop), K (a₁ x) W →
      assign.wpIn (F.inRound l) (n - 1 - 1) P (Exit.then K (fun _ _ _ => False)) { tmps := (ps.zip (encs x)).foldl (fun t (p, v) => t.setIfInBounds p v) a.tmps, defers := [] } W)
    (hbody : ∀ (l : Nat) (s : γ) (x : α) (W : World), Pre s W → w.heap.size ≤ W.heap.size →
      body.wpIn (F.inRound l) (n - 1 - 1) P (fun e _ W' => KeepsFrom w.heap.size W W' ∧ ((e = .normal ∧ Body s x W W') ∨ (e = .exit bid ∧ Stop s x W W'))) (a₁ x) W)
    (hcall : ∀ (l : Nat) (Rdy Over : World → Prop) (W0 : World), Below w.heap.size w W0 → (∀ W W', Rdy W → KeepsFrom w.heap.size W W' → Rdy W') → (∀ W W', Over W → KeepsFrom w.heap.size W W' → Over W') → Rdy W0 →
      (∀ s x W, Rdy W → w.heap.size ≤ W.heap.size → Pre s W → YieldAt F (n - 1 - 1) P l (encs x) W fun e W' => (e = .returned (.bool true) ∧ Rdy W' ∧ Body s x W W') ∨ (e = .returned (.bool false) ∧ Over W' ∧ Stop s x W W')) →
      CallsIn F (n - 1) P gf (#[.func (.yield l) #[] #[]] ++ lb) W0 fun e W' => (∃ v, e = .returned v) ∧ ((Rdy W' ∧ S W') ∨ (Over W' ∧ Sp W')))
    (hdone : ∀ (D : Nat) (W : World), w.heap.size ≤ D → S W → W.heap[D]? = some (.deferred (some [])) → Q .normal { a with defers := { target := .collected D, args := #[] } :: a.defers } W)
    (hleft : ∀ (D : Nat) (W : World), w.heap.size ≤ D → Sp W → W.heap[D]? = some (.deferred (some [])) → (Code.exit bid).wpIn F n P Q { a with defers := { target := .collected D, args := #[] } :: a.defers } W) :
    (Code.rangeFunc g ps assign body).wpIn F n P Q a w := by
  refine wpIn_rangeFunc fun fn hfn => ?_
  rw [hro]
  let R : LoopState → Option Code → Obj := fun st pe => .loop { state := st, pending := pe, fn := fn, tmps := a.tmps, params := ps, assign := assign, body := body, defers := w.heap.size }
  have hsz1 : (w.alloc (.deferred (some []))).heap.size = w.heap.size + 1 := World.size_alloc ..
  have hB : Below w.heap.size w ((w.alloc (.deferred (some []))).alloc (R .ready none)) := ((Below.refl _ w).alloc (Nat.le_refl _) _).alloc (by rw [hsz1]; omega) _
  have hl : ((w.alloc (.deferred (some []))).alloc (R .ready none)).heap[w.heap.size + 1]? = some (R .ready none) := by
    have := World.alloc_heap_new (w.alloc (.deferred (some []))) (R .ready none)
    rw [hsz1] at this; exact this
  have hD : ((w.alloc (.deferred (some []))).alloc (R .ready none)).heap[w.heap.size]? = some (.deferred (some [])) :=
    (Below.heap_alloc _ _ _ (by rw [hsz1]; omega)).trans (World.alloc_heap_new w _)
  refine ⟨w.heap.size + 1, [{ target := .collected w.heap.size, args := #[] }], (w.alloc (.deferred (some []))).alloc (R .ready none), { target := .fn (.func gf) lb, args := #[.func (.yield (w.heap.size + 1)) #[] #[]] }, (w.alloc (.deferred (some []))).alloc (R .ready none), gf, #[.func (.yield (w.heap.size + 1)) #[] #[]] ++ lb, (w.alloc (.deferred (some []))).alloc (R .ready none),
    run_enterLoop_outer fn a.tmps ps assign body, ?_, ?_, ?_, fun _ => h1, ?_⟩
  · simp only [resolve, hg]; simp [go_sem]
  · intro f' hf'
    have e : gf = f' := by simpa [Target.leads] using hf'
    exact e ▸ hFg
  · simp [invoke, go_sem, eg]
  refine (hcall (w.heap.size + 1) (fun W => W.heap[w.heap.size + 1]? = some (R .ready none) ∧ W.heap[w.heap.size]? = some (.deferred (some []))) (fun W => W.heap[w.heap.size + 1]? = some (R .done (some (.exit bid))) ∧ W.heap[w.heap.size]? = some (.deferred (some []))) _ hB ?_ ?_ ⟨hl, hD⟩ ?_).mono ?_
  · rintro W W' ⟨q1, q2⟩ hb
    exact ⟨hb.same _ _ (Nat.le_succ _) q1 rfl, hb.same _ _ (Nat.le_refl _) q2 rfl⟩
  · rintro W W' ⟨q1, q2⟩ hb
    exact ⟨hb.same _ _ (Nat.le_succ _) q1 rfl, hb.same _ _ (Nat.le_refl _) q2 rfl⟩
  · rintro s x W ⟨q1, q2⟩ hle hpre
    refine ⟨fn, _, assign, body, run_yield q1 (hps x), roundIn_of_wpIn hfn (hassign _ x W _ ?_)⟩
    refine ⟨_, run_beginRound q1 rfl, ?_⟩
    have hW2 : w.heap.size ≤ (W.putObj (w.heap.size + 1) (R .busy none)).heap.size := by
      rw [World.putObj_size]; omega
    refine wpIn_mono (hbody _ s x _ (hPre s W _ _ _ (Nat.le_succ _) q1 rfl hpre) hW2) ?_
    rintro e a3 W3 ⟨hk, hb⟩
    have q4 : W3.heap[w.heap.size + 1]? = some (R .busy none) := hk.same _ _ (Nat.le_succ _) (put_same_l q1) rfl
    have q5 : W3.heap[w.heap.size]? = some (.deferred (some [])) := hk.same _ _ (Nat.le_refl _) ((World.putObj_heap_other (by omega)).trans q2) rfl
    rcases hb with ⟨rfl, hb⟩ | ⟨rfl, hb⟩
    · exact ⟨_, _, run_endRound none q4, .inl ⟨rfl, ⟨put_same_l q4, (World.putObj_heap_other (by omega)).trans q5⟩, hBody s x W W3 _ _ _ _ _ (Nat.le_succ _) q1 rfl q4 rfl hb⟩⟩
    · exact ⟨_, _, run_endRound (some (.exit bid)) q4, .inr ⟨rfl, ⟨put_same_l q4, (World.putObj_heap_other (by omega)).trans q5⟩, hStop s x W W3 _ _ _ _ _ (Nat.le_succ _) q1 rfl q4 rfl hb⟩⟩
  · rintro e W2 ⟨⟨v, rfl⟩, ⟨⟨q1, q2⟩, hs⟩ | ⟨⟨q1, q2⟩, hs⟩⟩
    · exact ⟨none, _, run_endLoop q1 (by simp), hdone _ _ (Nat.le_refl _) (hS _ _ _ _ (Nat.le_succ _) q1 rfl hs) ((World.putObj_heap_other (by omega)).trans q2)⟩
    · exact ⟨some (.exit bid), _, run_endLoop q1 (by simp), hleft _ _ (Nat.le_refl _) (hSp _ _ _ _ (Nat.le_succ _) q1 rfl hs) ((World.putObj_heap_other (by omega)).trans q2)⟩
end Go.Proofs.Ytiddfilhfdkogaa
namespace Go.Proofs.Ytiddfilhfdkogaa
open Go.RowKit

theorem wpIn_scope {F : Fence} {n : Nat} {P : Program} {Q : Exit → Act → World → Prop} {a : Act} {w : World} {c : Code} (h : c.wpIn F n P (Exit.noGoto Q) a w) : (Code.scope c).wpIn F n P Q a w := by
  intro b k cs hro hb hr
  have f0 : (lone (b.atR a (.code (.scope c) :: k)) cs w).fenced P F := fenced_calm hb hr rfl
  have into : step P (lone (b.atR a (.code (.scope c) :: k)) cs w) = .next (lone (b.atR a (.code c :: .inScope c :: k)) cs w) :=
    step_lone_go (by simp [stepG, stepG.exec, Frame.atR])
  have out : ∀ (a' : Act) (w' : World), step P (lone (b.atR a' (.inScope c :: k)) cs w') = .next (lone (b.atR a' k) cs w') := fun _ _ =>
    step_lone_go (by simp [stepG, stepG.exec, Frame.atR])
  obtain ⟨e, a', w', hq, harr⟩ := h b (.inScope c :: k) cs hro hb hr
  have hx : ∀ id, exitTo id (.inScope c :: k) = exitTo id k := fun id => by simp [exitTo]
  cases e with
  | normal => exact ⟨_, a', w', hq, .head f0 into (StepsIn.trans harr (.one (fenced_calm hb hr rfl) (out _ _)))⟩
  | exit id =>
    refine ⟨_, a', w', hq, fun k' hk => .head f0 into (harr.1 k' (by rw [hx]; exact hk)), fun hr' hk => ?_⟩
    obtain ⟨k₁, h1, h2⟩ := harr.2 hr' (by rw [hx]; exact hk)
    exact ⟨k₁, h1, .head f0 into h2⟩
  | goto l => exact hq.elim
  | ret => exact ⟨_, a', w', hq, .of_steps (.one f0 into) harr⟩
  | panic ch => exact ⟨_, a', w', hq, .of_steps (.one f0 into) harr⟩
  | outgrown => exact ⟨_, a', w', hq, .of_steps (.one f0 into) harr⟩
end Go.Proofs.Ytiddfilhfdkogaa
namespace Go.Proofs.Ytiddfilhfdkogaa
open Go.RowKit

/-- A world in which nothing that w has has turned. -/
structure After (w : World) where
  v : World
  h : Below w.heap.size w v
instance (w : World) : Inhabited (After w) := ⟨⟨w, Below.refl _ w⟩⟩
theorem wp_region_after {P : Program} {id : Nat} {Q : Exit → Act → World → Prop} {a : Act} {w : World} {l : List Oper} (hm : P.follows .mixedOrders = true) (hB : Region.lexB .any l.toArray = true)
    (h : wpQuiet P l.toArray (fun w' => ∃ p : After w, w' = p.v) (fun a' => ∀ w', (∃ p : After w, w' = p.v) → Q .normal a' w') l a) : (Code.region id l.toArray true).wp P Q a w :=
  wp_region_quiet (C := fun w' => ∃ p : After w, w' = p.v) hm hB ⟨⟨w.drew, (Below.refl _ w).drew⟩, rfl⟩ (by simpa using h)
theorem after_call {P : Program} {f : FuncId} {args : Array Value} {w : World} {p : After w} {v : Value}
    (h : Calls P f args p.v fun e w' => e = .returned v ∧ Below p.v.heap.size p.v w') : Calls P f args p.v fun e w'' => e = .returned v ∧ ∃ q : After w, w'' = q.v :=
  h.mono fun _ w' ⟨he, hb⟩ => ⟨he, ⟨w', p.h.trans (hb.mono p.h.size)⟩, rfl⟩
theorem after_cell {w : World} {b i : Nat} {v : Value} (hc : w.cell? ⟨b, i, none⟩ = some v) (p : After w) : p.v.cell? ⟨b, i, none⟩ = some v := (p.h.cell (p := ⟨b, i, none⟩) (World.block_lt_of_cell? _ _ hc)).trans hc
end Go.Proofs.Ytiddfilhfdkogaa
namespace Go.Proofs.Ytiddfilhfdkogaa
open Go.RowKit
variable {F : Fence} {n : Nat} {P : Program} {ops : Array Oper} {C : World → Prop}

/-- Nothing is deferred. -/
def plainOps (ops : Array Oper) : Bool := ops.all fun o => match o.op with
  | .defer _ => false
  | _ => true
theorem plain_op (hp : plainOps ops = true) {i : Nat} {o : Oper} (ho : ops[i]? = some o) : ∀ c, o.op ≠ .defer c := by
  intro c h
  have hm : o ∈ ops := Array.mem_of_getElem? ho
  have := (Array.all_eq_true'.1 hp) o hm
  rw [h] at this
  cases this
theorem round_op {o : Oper} {a : Act} {K : Act → Prop} {K' : Act → World → Prop} {Q' : Exit → Act → World → Prop} {w : World} (hnd : ∀ c, o.op ≠ .defer c) (hw : C w) (hk : ∀ a w', C w' → K a → K' a w')
    (ha : o.askedIn F P a C) (hq : o.quietIn F n P a C K) : o.wpIn F n P a w K' Q' := by
  obtain ⟨v, hv, hn⟩ := hq
  have hs := hv w hw
  unfold Oper.quietAtIn at hs
  unfold Oper.wpIn
  refine ⟨ha w hw, ?_⟩
  rw [Oper.semAt_plain F _ _ hnd]
  revert hs
  cases (execOp a.eval o).run P w with
  | halt x w' => intro hs; exact hs.elim
  | ok x w' =>
    cases x with
    | value u =>
      rintro ⟨rfl, rfl⟩
      exact hk _ _ hw hn
    | skip =>
      rintro ⟨rfl, rfl⟩
      exact hk _ _ hw hn
    | enter f args =>
      rintro ⟨rfl, hd, hc⟩
      refine ⟨hd, hc.mono ?_⟩
      rintro e w'' ⟨rfl, hcw⟩
      exact hk _ _ hcw hn
    | _ => intro hs; exact hs.elim
theorem round_any (hp : plainOps ops = true) {md : Region.Mode} {Q : Act → Prop} {Q' : Exit → Act → World → Prop} (hQ : ∀ a w, C w → Q a → Q' .normal a w) : ∀ (fuel : Nat) (listed : Array Bool) (a : Act) (w : World), C w →
    wpAnyQIn F n P md ops C Q fuel listed a → wpAnyIn F n P md ops Q' fuel listed a w
  | 0, _, a, w, hw, h => ⟨h.1, hQ a w hw h.2⟩
  | fuel + 1, listed, a, w, hw, h => by
    refine ⟨fun h0 => hQ a w hw (h.1 h0), fun i hi => ?_⟩
    have hh := h.2 i hi
    unfold qOpIn at hh
    unfold wpOpIn
    cases ho : ops[i]? with
    | none =>
      rw [ho] at hh
      exact round_any hp hQ fuel _ a w hw hh
    | some o =>
      rw [ho] at hh
      obtain ⟨ha, hh⟩ := hh
      by_cases hwant : Region.wanted o (yielded ops a.tmps) = true
      · simp only [hwant, if_true] at hh ⊢
        exact round_op (plain_op hp ho) hw (fun a' w' hw' hk => round_any hp hQ fuel _ a' w' hw' hk) ha hh
      · simp only [hwant, Bool.false_eq_true, if_false] at hh ⊢
        exact ⟨ha w hw, round_any hp hQ fuel _ _ w hw hh⟩
theorem wpIn_region_round {id : Nat} {Q : Exit → Act → World → Prop} {a : Act} {w : World} {l : List Oper} (hp : plainOps l.toArray = true) (hm : P.follows .mixedOrders = true) (hB : Region.lexB .any l.toArray = true)
    (h : wpQuietIn F n P l.toArray (fun w' => ∃ p : After w, w' = p.v) (fun a' => ∀ w', (∃ p : After w, w' = p.v) → Q .normal a' w') l a) : (Code.region id l.toArray true).wpIn F n P Q a w := by
  simp only [Region.lexB, Bool.and_eq_true] at hB
  refine wpIn_region_any hm (round_any (C := fun w' => ∃ p : After w, w' = p.v) hp (Q := fun a' => ∀ w', (∃ p : After w, w' = p.v) → Q .normal a' w') (fun _ w' hw' h => h w' hw') _ _ _ _ ⟨⟨w.drew, (Below.refl _ w).drew⟩, rfl⟩ ?_)
  have := wpAnyQIn_lex (F := F) (n := n) (C := fun w' => ∃ p : After w, w' = p.v) (md := .any) hB.1 l 0 (Array.replicate l.toArray.size false) a (by simp) (by simpa using hB.2) h
  simpa using this
theorem after_callIn {f : FuncId} {args : Array Value} {w : World} {p : After w} {v : Value}
    (h : CallsIn F n P f args p.v fun e w' => e = .returned v ∧ Below p.v.heap.size p.v w') : CallsIn F n P f args p.v fun e w'' => e = .returned v ∧ ∃ q : After w, w'' = q.v :=
  h.mono fun _ w' ⟨he, hb⟩ => ⟨he, ⟨w', p.h.trans (hb.mono p.h.size)⟩, rfl⟩
end Go.Proofs.Ytiddfilhfdkogaa

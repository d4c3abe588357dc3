/-
  Joined: SeenBB, ScopeIn, Scr23, SeenBC, ScrMath4, OrdIn, Scr24, Scr25, Scr26, Scr27, Scr28.
  Conditions: none.
-/
import Derived.Test.YtgaabclgoolalaaSeen
import Derived.ControlIn
import Derived.Scope
import Derived.Test.YtgaabclgoolalaaScr20
import Derived.Maps.OwnIn
import Derived.BigRegionIn
import Derived.Test.YtgaabclgoolalaaOrd3
import Derived.OrdersIn
namespace Go.Proofs.Ytgaabclgoolalaa
open Go.RowKit Go.Shelf
variable {F : Fence} {n : Nat} {P : Program}

/-- A round: the variable is laid in a block of its own, the body goes on. -/
theorem rangeFunc_seenBB {α γ : Type} {g : Operand} {ps : Array Tmp} {assign body : Code} {Q : Exit → Act → World → Prop} {a : Act} {w : World}
    (hro : F.round = none) (h1 : 1 ≤ n) {gf : Nat} {lb : Array Value} (hg : a.eval g = .func (.func gf) #[] lb) (hFg : F.fn gf) (eg : ∀ args w, (callFunc gf args).run P w = .ok (.enter gf args) w)
    {encs : α → Array Value} (hps : ∀ x, (encs x).size = ps.size) (T : TypeId) (cellsX : α → Array Value) (a₁ : α → Nat → Act)
    (Pre : γ → World → Prop) (Body Stop : γ → α → World → World → Prop) (S Sp : World → Prop) (bid : Nat)
    (hPre : ∀ s W l o o', l = w.heap.size + 1 → W.heap[l]? = some o → o.isCells = false → Pre s W → Pre s (W.putObj l o'))
    (hBody : ∀ s x W W' l o o1 o2 o', l = w.heap.size + 1 → W.heap[l]? = some o → o.isCells = false → W'.heap[l]? = some o1 → o1.isCells = false → Body s x (W.putObj l o2) W' → Body s x W (W'.putObj l o'))
    (hStop : ∀ s x W W' l o o1 o2 o', l = w.heap.size + 1 → W.heap[l]? = some o → o.isCells = false → W'.heap[l]? = some o1 → o1.isCells = false → Stop s x (W.putObj l o2) W' → Stop s x W (W'.putObj l o'))
    (hSp : ∀ W l o o', l = w.heap.size + 1 → W.heap[l]? = some o → o.isCells = false → Sp W → Sp (W.putObj l o'))
    (hS : ∀ W l o o', l = w.heap.size + 1 → W.heap[l]? = some o → o.isCells = false → S W → S (W.putObj l o'))
    (hPreA : ∀ s W o, Pre s W → Pre s (W.alloc o))
    (hBodyA : ∀ s x W W' o, w.heap.size ≤ W.heap.size → Body s x (W.alloc o) W' → Body s x W W')
    (hStopA : ∀ s x W W' o, w.heap.size ≤ W.heap.size → Stop s x (W.alloc o) W' → Stop s x W W')
    (hassign : ∀ (l : Nat) (x : α) (W : World) (b : Nat) (K : Act → World → Prop), b = W.heap.size → K (a₁ x b) (W.alloc (.cells (cellsX x) T)) →
      assign.wpIn (F.inRound l) (n - 1 - 1) P (Exit.then K (fun _ _ _ => False)) { tmps := (ps.zip (encs x)).foldl (fun t (p, v) => t.setIfInBounds p v) a.tmps, defers := [] } W)
    (hbody : ∀ (l : Nat) (s : γ) (x : α) (b : Nat) (W : World), Pre s W → w.heap.size ≤ b → W.heap[b]? = some (.cells (cellsX x) T (0, 0)) → w.heap.size ≤ W.heap.size →
      body.wpIn (F.inRound l) (n - 1 - 1) P (fun e _ W' => KeepsFrom w.heap.size W W' ∧ ((e = .normal ∧ Body s x W W') ∨ (e = .exit bid ∧ Stop s x W W'))) (a₁ x b) W)
    (hcall : ∀ (l : Nat) (Rdy Over : World → Prop) (W0 : World), Below w.heap.size w W0 → (∀ W W', Rdy W → KeepsFrom w.heap.size W W' → Rdy W') → (∀ W W', Over W → KeepsFrom w.heap.size W W' → Over W') → Rdy W0 →
      (∀ s x W, Rdy W → w.heap.size ≤ W.heap.size → Pre s W → YieldAt F (n - 1 - 1) P l (encs x) W fun e W' => (e = .returned (.bool true) ∧ Rdy W' ∧ Body s x W W') ∨ (e = .returned (.bool false) ∧ Over W' ∧ Stop s x W W')) →
      CallsIn F (n - 1) P gf (#[.func (.yield l) #[] #[]] ++ lb) W0 fun e W' => (∃ v, e = .returned v) ∧ ((Rdy W' ∧ S W') ∨ (Over W' ∧ Sp W')))
    (hdone : ∀ (D : Nat) (W : World), w.heap.size ≤ D → S W → W.heap[D]? = some (.deferred (some [])) → Q .normal { a with defers := { target := .collected D, args := #[] } :: a.defers } W)
    (hleft : ∀ (D : Nat) (W : World), w.heap.size ≤ D → Sp W → W.heap[D]? = some (.deferred (some [])) → (Code.exit bid).wpIn F n P Q { a with defers := { target := .collected D, args := #[] } :: a.defers } W) :
    (Code.rangeFunc g ps assign body).wpIn F n P Q a w := by
  refine wpIn_rangeFunc fun fn hfn => ?_
  rw [hro]
  let R : LoopState → Option Code → Obj := fun st pe => .loop { state := st, pending := pe, fn := fn, tmps := a.tmps, params := ps, assign := assign, body := body, defers := w.heap.size }
  have hsz1 : (w.alloc (.deferred (some []))).heap.size = w.heap.size + 1 := World.size_alloc ..
  have hB : Below w.heap.size w ((w.alloc (.deferred (some []))).alloc (R .ready none)) := ((Below.refl _ w).alloc (Nat.le_refl _) _).alloc (by rw [hsz1]; omega) _
  have hl : ((w.alloc (.deferred (some []))).alloc (R .ready none)).heap[w.heap.size + 1]? = some (R .ready none) := by
    have := World.alloc_heap_new (w.alloc (.deferred (some []))) (R .ready none)
    rw [hsz1] at this; exact this
  have hD : ((w.alloc (.deferred (some []))).alloc (R .ready none)).heap[w.heap.size]? = some (.deferred (some [])) :=
    (Below.heap_alloc _ _ _ (by rw [hsz1]; omega)).trans (World.alloc_heap_new w _)
  refine ⟨w.heap.size + 1, [{ target := .collected w.heap.size, args := #[] }], (w.alloc (.deferred (some []))).alloc (R .ready none), { target := .fn (.func gf) lb, args := #[.func (.yield (w.heap.size + 1)) #[] #[]] }, (w.alloc (.deferred (some []))).alloc (R .ready none), gf, #[.func (.yield (w.heap.size + 1)) #[] #[]] ++ lb, (w.alloc (.deferred (some []))).alloc (R .ready none),
    run_enterLoop_outer fn a.tmps ps assign body, ?_, ?_, ?_, fun _ => h1, ?_⟩
  · simp only [resolve, hg]; simp [go_sem]
  · intro f' hf'
    have e : gf = f' := by simpa [Target.leads] using hf'
    exact e ▸ hFg
  · simp [invoke, go_sem, eg]
  refine (hcall (w.heap.size + 1) (fun W => W.heap[w.heap.size + 1]? = some (R .ready none) ∧ W.heap[w.heap.size]? = some (.deferred (some []))) (fun W => W.heap[w.heap.size + 1]? = some (R .done (some (.exit bid))) ∧ W.heap[w.heap.size]? = some (.deferred (some []))) _ hB ?_ ?_ ⟨hl, hD⟩ ?_).mono ?_
  · rintro W W' ⟨q1, q2⟩ hb
    exact ⟨hb.same _ _ (Nat.le_succ _) q1 rfl, hb.same _ _ (Nat.le_refl _) q2 rfl⟩
  · rintro W W' ⟨q1, q2⟩ hb
    exact ⟨hb.same _ _ (Nat.le_succ _) q1 rfl, hb.same _ _ (Nat.le_refl _) q2 rfl⟩
  · rintro s x W ⟨q1, q2⟩ hle hpre
    refine ⟨fn, _, assign, body, run_yield q1 (hps x), roundIn_of_wpIn hfn (hassign _ x W W.heap.size _ rfl ?_)⟩
    have q1' : (W.alloc (.cells (cellsX x) T)).heap[w.heap.size + 1]? = some (R .ready none) := (Below.heap_alloc _ _ _ (Array.getElem?_eq_some_iff.1 q1).1).trans q1
    have q2' : (W.alloc (.cells (cellsX x) T)).heap[w.heap.size]? = some (.deferred (some [])) := (Below.heap_alloc _ _ _ (Array.getElem?_eq_some_iff.1 q2).1).trans q2
    refine ⟨_, run_beginRound q1' rfl, ?_⟩
    have hWA : (W.alloc (.cells (cellsX x) T)).heap.size = W.heap.size + 1 := World.size_alloc ..
    have hW2 : w.heap.size ≤ ((W.alloc (.cells (cellsX x) T)).putObj (w.heap.size + 1) (R .busy none)).heap.size := by
      rw [World.putObj_size, hWA]; omega
    have hl1 := (Array.getElem?_eq_some_iff.1 q1).1
    refine wpIn_mono (hbody _ s x W.heap.size _ (hPre s _ _ _ _ rfl q1' rfl (hPreA s W _ hpre)) hle ((World.putObj_heap_other (by omega)).trans (World.alloc_heap_new W _)) hW2) ?_
    rintro e a3 W3 ⟨hk, hb⟩
    have q4 : W3.heap[w.heap.size + 1]? = some (R .busy none) := hk.same _ _ (Nat.le_succ _) (put_same_l q1') rfl
    have q5 : W3.heap[w.heap.size]? = some (.deferred (some [])) := hk.same _ _ (Nat.le_refl _) ((World.putObj_heap_other (by omega)).trans q2') rfl
    rcases hb with ⟨rfl, hb⟩ | ⟨rfl, hb⟩
    · exact ⟨_, _, run_endRound none q4, .inl ⟨rfl, ⟨put_same_l q4, (World.putObj_heap_other (by omega)).trans q5⟩, hBodyA s x W _ _ hle (hBody s x _ W3 _ _ _ _ _ rfl q1' rfl q4 rfl hb)⟩⟩
    · exact ⟨_, _, run_endRound (some (.exit bid)) q4, .inr ⟨rfl, ⟨put_same_l q4, (World.putObj_heap_other (by omega)).trans q5⟩, hStopA s x W _ _ hle (hStop s x _ W3 _ _ _ _ _ rfl q1' rfl q4 rfl hb)⟩⟩
  · rintro e W2 ⟨⟨v, rfl⟩, ⟨⟨q1, q2⟩, hs⟩ | ⟨⟨q1, q2⟩, hs⟩⟩
    · exact ⟨none, _, run_endLoop q1 (by simp), hdone _ _ (Nat.le_refl _) (hS _ _ _ _ rfl q1 rfl hs) ((World.putObj_heap_other (by omega)).trans q2)⟩
    · exact ⟨some (.exit bid), _, run_endLoop q1 (by simp), hleft _ _ (Nat.le_refl _) (hSp _ _ _ _ rfl q1 rfl hs) ((World.putObj_heap_other (by omega)).trans q2)⟩
end Go.Proofs.Ytgaabclgoolalaa
namespace Go.Proofs.Ytgaabclgoolalaa
open Go

section
variable {F : Fence} {n : Nat} {P : Program} {b : Frame} {a : Act} {k : List Item} {cs : List Frame} {w : World} {Q : Exit → Act → World → Prop}
theorem stepR_scope {c : Code} : step P (lone (b.atR a (.code (.scope c) :: k)) cs w) = .next (lone (b.atR a (.code c :: .inScope c :: k)) cs w) :=
  step_lone_go (by simp [stepG, stepG.exec, Frame.atR])
theorem stepR_inScope {c : Code} : step P (lone (b.atR a (.inScope c :: k)) cs w) = .next (lone (b.atR a k) cs w) :=
  step_lone_go (by simp [stepG, stepG.exec, Frame.atR])
theorem wpIn_scope_straight {c : Code} (h : c.wpIn F n P (Exit.noGoto Q) a w) : (Code.scope c).wpIn F n P Q a w := by
  intro b k cs hro hb hr
  have h0 : (lone (b.atR a (.code (.scope c) :: k)) cs w).fenced P F := fenced_calm hb hr rfl
  obtain ⟨e, a₁, w₁, hq, harr⟩ := h b (.inScope c :: k) cs hro hb hr
  cases e with
  | normal => exact ⟨.normal, a₁, w₁, hq, .head h0 stepR_scope (StepsIn.trans harr (.one (fenced_calm hb hr rfl) stepR_inScope))⟩
  | exit id' =>
    have hx : exitTo id' (.inScope c :: k) = exitTo id' k := by simp [exitTo]
    exact ⟨.exit id', a₁, w₁, hq, fun k' hk => .head h0 stepR_scope (harr.1 k' (by rw [hx]; exact hk)),
      fun hr' hk => let ⟨k₁, h1, h2⟩ := harr.2 hr' (by rw [hx]; exact hk); ⟨k₁, h1, .head h0 stepR_scope h2⟩⟩
  | goto l => exact hq.elim
  | ret => exact ⟨_, a₁, w₁, hq, .of_steps (.one h0 stepR_scope) harr⟩
  | panic ch => exact ⟨_, a₁, w₁, hq, .of_steps (.one h0 stepR_scope) harr⟩
  | outgrown => exact ⟨_, a₁, w₁, hq, .of_steps (.one h0 stepR_scope) harr⟩
end
end Go.Proofs.Ytgaabclgoolalaa
namespace Go.Proofs.Ytgaabclgoolalaa
open Go.RowKit Go.Shelf
attribute [local go_sem] Oper.semAt_some

theorem ReadB.bad {n₀ R : Nat} {s : RSt} {W : World} (h : ReadB n₀ R s W) (hn : n₀ ≤ W.heap.size) : Calls Try.prog 15 #[.pointer (some ⟨R, 0, none⟩)] W fun e w' => e = .returned (.bool s.2) ∧ W = w' := by
  obtain ⟨v, h⟩ := h.at hn
  exact bad_any R v s.1 s.2 W h
theorem ReadB.rest {n₀ R : Nat} {s : RSt} {W : World} (h : ReadB n₀ R s W) (hn : n₀ ≤ W.heap.size) (hl : s.1.length ≤ 1099511627776) : Calls Try.prog 17 #[.pointer (some ⟨R, 0, none⟩)] W fun e w' => (∃ a c, e = .returned (.slice a s.1.length c)) ∧ Below W.heap.size W w' := by
  obtain ⟨v, h⟩ := h.at hn
  refine (rest_any R v s.1 s.2 W h hl).mono ?_
  rintro e w' ⟨u, rfl, hu, hb⟩
  obtain ⟨a, c, rfl, _⟩ := hu
  exact ⟨⟨a, c, rfl⟩, hb⟩
/-- script.acts: the iterator's closure, its captures: the count's box, the reader's. -/
theorem acts_any (R : Nat) (C : Int) (w : World) : Calls Try.prog 16 #[.pointer (some ⟨R, 0, none⟩), .int .i64 C] w fun e w' => e = .returned (.func (.func 33) #[] #[.pointer (some ⟨w.heap.size + 1, 0, none⟩), .pointer (some ⟨w.heap.size, 0, none⟩)]) ∧ (w.alloc (.cells #[.pointer (some ⟨R, 0, none⟩)] 40)).alloc (.cells #[.int .i64 C] 3) = w' := by
  go_enter Try.func16, Try.ntmps16
  go_wp2
  go_ret
  exact ⟨rfl, rfl⟩
/-- A new reader: its bytes are there. -/
def NewB (bs : List (BitVec 8)) (w : World) (e : Ending) (w' : World) : Prop := ∃ R, e = .returned (.pointer (some ⟨R, 0, none⟩)) ∧ w.heap.size ≤ R ∧ ReadB w'.heap.size R (bs, false) w' ∧ Below w.heap.size w w'
theorem newB_any (u : Value) (bs : List (BitVec 8)) (w : World) (hu : BytesAt w.heap.size w u bs) (hl : bs.length ≤ 1099511627776) : Calls Try.prog 13 #[u] w (NewB bs w) :=
  (newReader_any u bs w hu hl).mono fun _ _ ⟨R, v, he, hR, hr, hb, _⟩ => ⟨R, he, hR, ⟨fun h => (by cases h), v, hr.blk, hr.bytes⟩, hb⟩
set_option maxRecDepth 100000 in
set_option maxHeartbeats 2000000 in
/-- More acts than there may be. -/
theorem unpack_long (v : Value) (bs : List (BitVec 8)) (w : World) (hu : BytesAt w.heap.size w v bs) (hl : bs.length ≤ 1099511627776) (hc : 65536 < U (rNum (bs, false) 4).1) :
    CallsIn Fence.wide 3 Try.prog 6 #[v] w fun e w' => e = .returned (.tuple #[.slice none 0 0, .int .i64 9]) ∧ Below w.heap.size w w' := by
  have HN := Lib.hid (callsIn_wide (n := 2).2 (newB_any v bs w hu hl))
  have HL := Lib.hid hl
  have t1 : Fence.wide.fn 13 := trivial
  have t2 : Fence.wide.fn 14 := trivial
  obtain ⟨a, c, rfl, _⟩ := hu
  clear hl
  have HQ := Lib.hid (fun n₀ R W (h : ReadB n₀ R (bs, false) W) (hn : n₀ ≤ W.heap.size) => callsIn_wide (n := 2).2 (show Calls Try.prog 14 #[.pointer (some ⟨R, 0, none⟩), .int .i64 4] W (RdNum n₀ R (rNum (bs, false) 4).1 (rNum (bs, false) 4).2 W) from h.num4 hn HL.out))
  generalize (rNum (bs, false) 4).1 = q at HQ hc
  generalize (rNum (bs, false) 4).2 = s2 at HQ
  refine callsIn_of_wp_marks Try.func6 rfl trivial ?_ rfl
  simp only [Try.ntmps6, List.size_toArray, List.length_cons, List.length_nil, Nat.reduceAdd, Nat.reduceSub, Array.replicate_succ, Array.replicate_zero, List.push_toArray, List.append_toArray, List.nil_append, List.cons_append]
  gi_wp2
  refine wpIn_scope_straight ?_
  gi_wp2_with (first
    | (gi_at_call 13; (with_reducible refine HN.out.mono ?_); rintro e w1 ⟨R, rfl, hR, hr, hb⟩; have HRD := Lib.hid hr; have HB1 := Lib.hid hb; have HRR := Lib.hid hR; clear hR hr hb)
    | (gi_at_call 14; (with_reducible refine (HQ.out _ _ _ HRD.out (Nat.le_refl _)).mono ?_); rintro e w2 ⟨rfl, _, hm⟩; have HM := Lib.hid hm; clear hm))
  exact ⟨_, results_tmp2 rfl _ _ _, rfl, HB1.out.trans (HM.out.below (fun i hi => by rw [show i = R from hi]; exact HRR.out) HB1.out.size)⟩
end Go.Proofs.Ytgaabclgoolalaa
namespace Go.Proofs.Ytgaabclgoolalaa
open Go.RowKit Go.Shelf
variable {F : Fence} {n : Nat} {P : Program}

/-- A round: the variable is laid in a block of its own, the body goes on. -/
theorem rangeFunc_seenBC {α γ : Type} {g : Operand} {ps : Array Tmp} {assign body : Code} {Q : Exit → Act → World → Prop} {a : Act} {w : World}
    (hro : F.round = none) (h1 : 1 ≤ n) {gf : Nat} {lb : Array Value} (hg : a.eval g = .func (.func gf) #[] lb) (hFg : F.fn gf) (eg : ∀ args w, (callFunc gf args).run P w = .ok (.enter gf args) w)
    {encs : α → Array Value} (hps : ∀ x, (encs x).size = ps.size) (T : TypeId) (cellsX : α → Array Value) (a₁ : α → Nat → Act)
    (Pre : γ → World → Prop) (Body Stop : γ → α → World → World → Prop) (S Sp : World → Prop) (bid : Nat)
    (hPre : ∀ s W l o o', l = w.heap.size + 1 → W.heap[l]? = some o → o.isCells = false → Pre s W → Pre s (W.putObj l o'))
    (hBody : ∀ s x W W' l o o1 o2 o', l = w.heap.size + 1 → W.heap[l]? = some o → o.isCells = false → W'.heap[l]? = some o1 → o1.isCells = false → Body s x (W.putObj l o2) W' → Body s x W (W'.putObj l o'))
    (hStop : ∀ s x W W' l o o1 o2 o', l = w.heap.size + 1 → W.heap[l]? = some o → o.isCells = false → W'.heap[l]? = some o1 → o1.isCells = false → Stop s x (W.putObj l o2) W' → Stop s x W (W'.putObj l o'))
    (hSp : ∀ W l o o', l = w.heap.size + 1 → W.heap[l]? = some o → o.isCells = false → Sp W → Sp (W.putObj l o'))
    (hS : ∀ W l o o', l = w.heap.size + 1 → W.heap[l]? = some o → o.isCells = false → S W → S (W.putObj l o'))
    (hPreA : ∀ s W o, Pre s W → Pre s (W.alloc o))
    (hBodyA : ∀ s x W W' o, w.heap.size ≤ W.heap.size → Body s x (W.alloc o) W' → Body s x W W')
    (hStopA : ∀ s x W W' o, w.heap.size ≤ W.heap.size → Stop s x (W.alloc o) W' → Stop s x W W')
    (hassign : ∀ (l : Nat) (x : α) (W : World) (b : Nat) (K : Act → World → Prop), b = W.heap.size → K (a₁ x b) (W.alloc (.cells (cellsX x) T)) →
      assign.wpIn (F.inRound l) (n - 1 - 1) P (Exit.then K (fun _ _ _ => False)) { tmps := (ps.zip (encs x)).foldl (fun t (p, v) => t.setIfInBounds p v) a.tmps, defers := [] } W)
    (hbody : ∀ (l : Nat) (s : γ) (x : α) (b : Nat) (W : World), Pre s W → w.heap.size ≤ b → W.heap[b]? = some (.cells (cellsX x) T (0, 0)) → w.heap.size ≤ W.heap.size →
      body.wpIn (F.inRound l) (n - 1 - 1) P (fun e _ W' => KeepsFrom w.heap.size W W' ∧ ((e = .normal ∧ Body s x W W') ∨ (e = .exit bid ∧ Stop s x W W'))) (a₁ x b) W)
    (hcall : ∀ (l : Nat) (Rdy Over : World → Prop) (W0 : World), Below w.heap.size w W0 → (∀ W W', Rdy W → KeepsFrom w.heap.size W W' → Rdy W') → (∀ W W', Over W → KeepsFrom w.heap.size W W' → Over W') → (∀ W, Rdy W → ∃ o : Obj, W.heap[w.heap.size + 1]? = some o ∧ o.isCells = false) → Rdy W0 →
      (∀ s x W, Rdy W → w.heap.size ≤ W.heap.size → Pre s W → YieldAt F (n - 1 - 1) P l (encs x) W fun e W' => (e = .returned (.bool true) ∧ Rdy W' ∧ Body s x W W') ∨ (e = .returned (.bool false) ∧ Over W' ∧ Stop s x W W')) →
      CallsIn F (n - 1) P gf (#[.func (.yield l) #[] #[]] ++ lb) W0 fun e W' => (∃ v, e = .returned v) ∧ ((Rdy W' ∧ S W') ∨ (Over W' ∧ Sp W')))
    (hdone : ∀ (D : Nat) (W : World), w.heap.size ≤ D → S W → W.heap[D]? = some (.deferred (some [])) → Q .normal { a with defers := { target := .collected D, args := #[] } :: a.defers } W)
    (hleft : ∀ (D : Nat) (W : World), w.heap.size ≤ D → Sp W → W.heap[D]? = some (.deferred (some [])) → (Code.exit bid).wpIn F n P Q { a with defers := { target := .collected D, args := #[] } :: a.defers } W) :
    (Code.rangeFunc g ps assign body).wpIn F n P Q a w := by
  refine wpIn_rangeFunc fun fn hfn => ?_
  rw [hro]
  let R : LoopState → Option Code → Obj := fun st pe => .loop { state := st, pending := pe, fn := fn, tmps := a.tmps, params := ps, assign := assign, body := body, defers := w.heap.size }
  have hsz1 : (w.alloc (.deferred (some []))).heap.size = w.heap.size + 1 := World.size_alloc ..
  have hB : Below w.heap.size w ((w.alloc (.deferred (some []))).alloc (R .ready none)) := ((Below.refl _ w).alloc (Nat.le_refl _) _).alloc (by rw [hsz1]; omega) _
  have hl : ((w.alloc (.deferred (some []))).alloc (R .ready none)).heap[w.heap.size + 1]? = some (R .ready none) := by
    have := World.alloc_heap_new (w.alloc (.deferred (some []))) (R .ready none)
    rw [hsz1] at this; exact this
  have hD : ((w.alloc (.deferred (some []))).alloc (R .ready none)).heap[w.heap.size]? = some (.deferred (some [])) :=
    (Below.heap_alloc _ _ _ (by rw [hsz1]; omega)).trans (World.alloc_heap_new w _)
  refine ⟨w.heap.size + 1, [{ target := .collected w.heap.size, args := #[] }], (w.alloc (.deferred (some []))).alloc (R .ready none), { target := .fn (.func gf) lb, args := #[.func (.yield (w.heap.size + 1)) #[] #[]] }, (w.alloc (.deferred (some []))).alloc (R .ready none), gf, #[.func (.yield (w.heap.size + 1)) #[] #[]] ++ lb, (w.alloc (.deferred (some []))).alloc (R .ready none),
    run_enterLoop_outer fn a.tmps ps assign body, ?_, ?_, ?_, fun _ => h1, ?_⟩
  · simp only [resolve, hg]; simp [go_sem]
  · intro f' hf'
    have e : gf = f' := by simpa [Target.leads] using hf'
    exact e ▸ hFg
  · simp [invoke, go_sem, eg]
  refine (hcall (w.heap.size + 1) (fun W => W.heap[w.heap.size + 1]? = some (R .ready none) ∧ W.heap[w.heap.size]? = some (.deferred (some []))) (fun W => W.heap[w.heap.size + 1]? = some (R .done (some (.exit bid))) ∧ W.heap[w.heap.size]? = some (.deferred (some []))) _ hB ?_ ?_ (fun W h => ⟨_, h.1, rfl⟩) ⟨hl, hD⟩ ?_).mono ?_
  · rintro W W' ⟨q1, q2⟩ hb
    exact ⟨hb.same _ _ (Nat.le_succ _) q1 rfl, hb.same _ _ (Nat.le_refl _) q2 rfl⟩
  · rintro W W' ⟨q1, q2⟩ hb
    exact ⟨hb.same _ _ (Nat.le_succ _) q1 rfl, hb.same _ _ (Nat.le_refl _) q2 rfl⟩
  · rintro s x W ⟨q1, q2⟩ hle hpre
    refine ⟨fn, _, assign, body, run_yield q1 (hps x), roundIn_of_wpIn hfn (hassign _ x W W.heap.size _ rfl ?_)⟩
    have q1' : (W.alloc (.cells (cellsX x) T)).heap[w.heap.size + 1]? = some (R .ready none) := (Below.heap_alloc _ _ _ (Array.getElem?_eq_some_iff.1 q1).1).trans q1
    have q2' : (W.alloc (.cells (cellsX x) T)).heap[w.heap.size]? = some (.deferred (some [])) := (Below.heap_alloc _ _ _ (Array.getElem?_eq_some_iff.1 q2).1).trans q2
    refine ⟨_, run_beginRound q1' rfl, ?_⟩
    have hWA : (W.alloc (.cells (cellsX x) T)).heap.size = W.heap.size + 1 := World.size_alloc ..
    have hW2 : w.heap.size ≤ ((W.alloc (.cells (cellsX x) T)).putObj (w.heap.size + 1) (R .busy none)).heap.size := by
      rw [World.putObj_size, hWA]; omega
    have hl1 := (Array.getElem?_eq_some_iff.1 q1).1
    refine wpIn_mono (hbody _ s x W.heap.size _ (hPre s _ _ _ _ rfl q1' rfl (hPreA s W _ hpre)) hle ((World.putObj_heap_other (by omega)).trans (World.alloc_heap_new W _)) hW2) ?_
    rintro e a3 W3 ⟨hk, hb⟩
    have q4 : W3.heap[w.heap.size + 1]? = some (R .busy none) := hk.same _ _ (Nat.le_succ _) (put_same_l q1') rfl
    have q5 : W3.heap[w.heap.size]? = some (.deferred (some [])) := hk.same _ _ (Nat.le_refl _) ((World.putObj_heap_other (by omega)).trans q2') rfl
    rcases hb with ⟨rfl, hb⟩ | ⟨rfl, hb⟩
    · exact ⟨_, _, run_endRound none q4, .inl ⟨rfl, ⟨put_same_l q4, (World.putObj_heap_other (by omega)).trans q5⟩, hBodyA s x W _ _ hle (hBody s x _ W3 _ _ _ _ _ rfl q1' rfl q4 rfl hb)⟩⟩
    · exact ⟨_, _, run_endRound (some (.exit bid)) q4, .inr ⟨rfl, ⟨put_same_l q4, (World.putObj_heap_other (by omega)).trans q5⟩, hStopA s x W _ _ hle (hStop s x _ W3 _ _ _ _ _ rfl q1' rfl q4 rfl hb)⟩⟩
  · rintro e W2 ⟨⟨v, rfl⟩, ⟨⟨q1, q2⟩, hs⟩ | ⟨⟨q1, q2⟩, hs⟩⟩
    · exact ⟨none, _, run_endLoop q1 (by simp), hdone _ _ (Nat.le_refl _) (hS _ _ _ _ rfl q1 rfl hs) ((World.putObj_heap_other (by omega)).trans q2)⟩
    · exact ⟨some (.exit bid), _, run_endLoop q1 (by simp), hleft _ _ (Nat.le_refl _) (hSp _ _ _ _ rfl q1 rfl hs) ((World.putObj_heap_other (by omega)).trans q2)⟩
end Go.Proofs.Ytgaabclgoolalaa
namespace Go.Proofs.Ytgaabclgoolalaa
open Go.RowKit

/-- So many things are read, one behind the other. -/
def foldR {α β : Type} (ok : β → Bool) (f : β → α × β) : Nat → β → Option (List α × β)
  | 0, s => some ([], s)
  | n + 1, s => if ok s then (foldR ok f n (f s).2).map fun p => ((f s).1 :: p.1, p.2) else none
section
variable {α β : Type} {ok : β → Bool} {f : β → α × β}
theorem foldR_snoc (j : Nat) : ∀ (s0 : β) (xs : List α) (s : β), foldR ok f j s0 = some (xs, s) → ok s = true → foldR ok f (j + 1) s0 = some (xs ++ [(f s).1], (f s).2) := by
  induction j with
  | zero =>
    intro s0 xs s h hk
    cases h
    simp [foldR, hk]
  | succ j ih =>
    intro s0 xs s h hk
    by_cases h0 : ok s0 = true
    · simp only [foldR, h0, if_true] at h
      cases hq : foldR ok f j (f s0).2 with
      | none => rw [hq] at h; cases h
      | some p =>
        rw [hq] at h
        cases h
        have := ih _ _ _ hq hk
        rw [foldR, if_pos h0, this]
        rfl
    · simp [foldR, h0] at h
theorem foldR_stop (j : Nat) : ∀ (s0 : β) (xs : List α) (s : β), foldR ok f j s0 = some (xs, s) → ok s = false → ∀ C, j < C → foldR ok f C s0 = none := by
  induction j with
  | zero =>
    intro s0 xs s h hk C hC
    cases h
    obtain ⟨D, rfl⟩ : ∃ D, C = D + 1 := ⟨C - 1, by omega⟩
    simp [foldR, hk]
  | succ j ih =>
    intro s0 xs s h hk C hC
    by_cases h0 : ok s0 = true
    · simp only [foldR, h0, if_true] at h
      cases hq : foldR ok f j (f s0).2 with
      | none => rw [hq] at h; cases h
      | some p =>
        rw [hq] at h
        cases h
        obtain ⟨D, rfl⟩ : ∃ D, C = D + 1 := ⟨C - 1, by omega⟩
        rw [foldR, if_pos h0, ih _ _ _ hq hk D (by omega)]
        rfl
    · simp [foldR, h0] at h
theorem foldR_len (j : Nat) : ∀ (s0 : β) (xs : List α) (s : β), foldR ok f j s0 = some (xs, s) → xs.length = j := by
  induction j with
  | zero =>
    intro s0 xs s h
    cases h
    rfl
  | succ j ih =>
    intro s0 xs s h
    by_cases h0 : ok s0 = true
    · simp only [foldR, h0, if_true] at h
      cases hq : foldR ok f j (f s0).2 with
      | none => rw [hq] at h; cases h
      | some p =>
        rw [hq] at h
        cases h
        simp [ih _ _ _ hq]
    · simp [foldR, h0] at h
end
theorem actsR_fold : ∀ (n : Nat) (s : RSt), actsR n s = foldR actOk actR n s
  | 0, _ => rfl
  | n + 1, s => by
    have h := actsR_fold n (actR s).2
    unfold actsR foldR
    rw [h]
theorem actsR_zero (s : RSt) : actsR 0 s = some ([], s) := by rw [actsR_fold]; rfl
theorem actsR_snoc (j : Nat) (s0 : RSt) (xs : List SAct) (s : RSt) (h : actsR j s0 = some (xs, s)) (hk : actOk s = true) : actsR (j + 1) s0 = some (xs ++ [(actR s).1], (actR s).2) := by
  rw [actsR_fold] at h ⊢
  exact foldR_snoc j s0 xs s h hk
theorem actsR_stop (j : Nat) (s0 : RSt) (xs : List SAct) (s : RSt) (h : actsR j s0 = some (xs, s)) (hk : actOk s = false) (C : Nat) (hC : j < C) : actsR C s0 = none := by
  rw [actsR_fold] at h ⊢
  exact foldR_stop j s0 xs s h hk C hC
theorem actsR_len (j : Nat) (s0 : RSt) (xs : List SAct) (s : RSt) (h : actsR j s0 = some (xs, s)) : xs.length = j := by
  rw [actsR_fold] at h
  exact foldR_len j s0 xs s h
end Go.Proofs.Ytgaabclgoolalaa
namespace Go.Proofs.Ytgaabclgoolalaa
open Go

section
variable {F : Fence} {n : Nat} {P : Program} {ops : Array Oper} {Q : Exit → Act → World → Prop}
theorem wpAnyIn_ord {D : Nat → Nat} {R : Nat → Value → World → Prop} {B : Array Bool → World → Prop} {Rel : Nat → World → World → Prop} {a0 : Act}
    (hdst : ∀ (i j : Nat) (oi oj : Oper) d, ops[i]? = some oi → ops[j]? = some oj → i ≠ j → oi.dst = some d → oj.dst ≠ some d)
    (hback : ∀ (i : Nat) (o : Oper), ops[i]? = some o → ∀ e ∈ o.after.toList, Region.binds .any e = true → e.on < i)
    (hsz : ∀ (i : Nat) (o : Oper) d, ops[i]? = some o → o.dst = some d → d < a0.tmps.size)
    (hR : ∀ i j v w w', i ≠ j → D i ≠ j → anc ops ops.size i j = false → (anc ops ops.size j (D i) = false ∨ D i = i) → R i v w → Rel j w w' → R i v w') (hB : ∀ j listed w w', listed.getD j true = false → (∀ k, anc ops ops.size j k = true → listed.getD k false = true) → B listed w → Rel j w w' → B (listed.setIfInBounds j true) w')
    (hstep : ∀ (i : Nat) (o : Oper), ops[i]? = some o → ∀ listed a w, OrdAt ops D R B a0 listed a w → listed.getD i true = false → (∀ e ∈ o.after.toList, Region.binds .any e = true → listed.getD e.on false = true) → wpOpIn F n P ops Q i (fun a' w' => ∃ v, a' = a.put o.dst v ∧ R i v w' ∧ Rel i w w') a w)
    (hend : ∀ a w, OrdAt ops D R B a0 (Array.replicate ops.size true) a w → Q .normal a w) :
    ∀ (fuel : Nat) (listed : Array Bool) (a : Act) (w : World), OrdAt ops D R B a0 listed a w → (left9 ops listed).length ≤ fuel → wpAnyIn F n P .any ops Q fuel listed a w := by
  have fin : ∀ listed a w, OrdAt ops D R B a0 listed a w → Region.ready .any ops listed = [] → Q .normal a w := fun listed a w h h0 => by
    have := left9_all h.lsize (ready_all hback h.lsize h0)
    rw [this] at h
    exact hend a w h
  intro fuel
  induction fuel with
  | zero =>
    intro listed a w h hf
    have h0 : left9 ops listed = [] := List.eq_nil_of_length_eq_zero (by omega)
    have hr : Region.ready .any ops listed = [] := by
      unfold Region.ready
      rw [List.filter_eq_nil_iff]
      intro i hi
      have : i ∉ left9 ops listed := by rw [h0]; simp
      unfold left9 at this
      rw [List.mem_filter] at this
      have h1 : ¬ (!listed.getD i true) = true := fun e => this ⟨hi, e⟩
      have h2 : (!listed.getD i true) = false := by simpa using h1
      rw [h2]
      simp
    exact ⟨hr, fin listed a w h hr⟩
  | succ fuel ih =>
    intro listed a w h hf
    refine ⟨fin listed a w h, fun i hi => ?_⟩
    unfold Region.ready at hi
    rw [List.mem_filter] at hi
    obtain ⟨hir, hi⟩ := hi
    have hlt : i < ops.size := List.mem_range.1 hir
    have hli : i < listed.size := by rw [h.lsize]; exact hlt
    have ho := Array.getElem?_eq_getElem hlt
    rw [ho] at hi
    simp only [Option.map_some, Option.getD_some, Bool.and_eq_true, Bool.not_eq_true'] at hi
    obtain ⟨hnl, hall⟩ := hi
    rw [Array.all_eq_true_iff_forall_mem] at hall
    have hdeps : ∀ e ∈ ops[i].after.toList, Region.binds .any e = true → listed.getD e.on false = true := fun e he hb => by
      have := hall e (by simpa using he)
      rw [hb] at this
      simpa using this
    refine wpOpIn_mono (fun a' w' hk => ?_) (hstep i _ ho listed a w h hnl hdeps)
    obtain ⟨v, rfl, hv, hrel⟩ := hk
    have hnot : ∀ d, ops[i].dst = some d → d < a.tmps.size := fun d hd => by rw [h.size]; exact hsz i _ d ho hd
    have hanc : ∀ k, anc ops ops.size i k = true → listed.getD k false = true := fun k e => by
      obtain ⟨f, hf⟩ : ∃ f, ops.size = f + 1 := ⟨ops.size - 1, by omega⟩
      rw [hf] at e
      unfold anc at e
      rw [ho] at e
      obtain ⟨e1, he1, e⟩ := List.any_eq_true.1 e
      rw [Bool.and_eq_true, Bool.or_eq_true] at e
      have h8 := hdeps e1 he1 e.1
      rcases e.2 with h7 | h7
      · rw [← beq_iff_eq.1 h7]; exact h8
      · exact anc_listed h.closed _ _ _ h7 h8
    refine ih _ _ _ ⟨hB _ _ _ _ hnl hanc h.base hrel, ?_, ?_, ?_, ?_, ?_, by simpa using h.lsize⟩ ?_
    · cases hd : ops[i].dst <;> exact h.defers
    · cases hd : ops[i].dst with
      | none => exact h.size
      | some d =>
        show (a.tmps.setIfInBounds d v).size = _
        rw [Array.size_setIfInBounds]; exact h.size
    · intro j o d hj hlj hal hd
      rw [getD_set hli] at hlj
      by_cases hij : i = j
      · subst hij
        rw [ho] at hj
        cases hj
        rw [hd, tmps_put (hnot d hd), if_pos rfl]
        exact hv
      · rw [if_neg hij] at hlj
        rw [getD_set hli] at hal
        have hne9 : D j ≠ i := fun e => by
          rcases hal with h9 | h9
          · rw [if_pos e.symm] at h9; cases h9
          · exact hij (by omega)
        rw [if_neg (fun e => hne9 e.symm)] at hal
        have ha1 : anc ops ops.size j i = false := by
          rw [Bool.eq_false_iff]
          intro e
          have h9 := anc_listed h.closed _ _ _ e hlj
          rw [getD_two hli false true, hnl] at h9
          cases h9
        have ha2 : anc ops ops.size i (D j) = false ∨ D j = j := by
          rcases hal with h9 | h9
          · left
            rw [Bool.eq_false_iff]
            intro e
            obtain ⟨f, hf⟩ : ∃ f, ops.size = f + 1 := ⟨ops.size - 1, by omega⟩
            rw [hf] at e
            unfold anc at e
            rw [ho] at e
            obtain ⟨e1, he1, e⟩ := List.any_eq_true.1 e
            rw [Bool.and_eq_true, Bool.or_eq_true] at e
            have h8 := hdeps e1 he1 e.1
            rcases e.2 with h7 | h7
            · rw [beq_iff_eq.1 h7, h9] at h8; cases h8
            · have h6 := anc_listed h.closed _ _ _ h7 h8
              rw [h9] at h6; cases h6
          · exact .inr h9
        have hg := hR j i _ _ _ (fun e => hij e.symm) hne9 ha1 ha2 (h.got j o d hj hlj hal hd) hrel
        cases hdi : ops[i].dst with
        | none => exact hg
        | some d' =>
          have hne : d' ≠ d := fun e => hdst i j _ _ d' ho hj hij hdi (by rw [hd, e])
          rw [tmps_put (hnot d' hdi), if_neg hne]
          exact hg
    · intro s hs
      have hsi := hs i _ ho (by rw [getD_set hli, if_pos rfl])
      have h1 := h.old s (fun j o hj hlj => hs j o hj (by
        rw [getD_set hli]
        by_cases hij : i = j
        · rw [if_pos hij]
        · rw [if_neg hij]; exact hlj))
      cases hdi : ops[i].dst with
      | none => exact h1
      | some d' =>
        have hne : d' ≠ s := fun e => hsi (by rw [hdi, e])
        rw [tmps_put (hnot d' hdi), if_neg hne]
        exact h1
    · intro j o hj hlj e he hb
      rw [getD_set hli] at hlj ⊢
      by_cases hie : i = e.on
      · rw [if_pos hie]
      · rw [if_neg hie]
        by_cases hij : i = j
        · subst hij
          rw [ho] at hj
          cases hj
          exact hdeps e he hb
        · rw [if_neg hij] at hlj
          exact h.closed j o hj hlj e he hb
    · have key : (left9 ops (listed.setIfInBounds i true)).length < (left9 ops listed).length := by
        unfold left9
        refine filter_lt _ _ (fun x hx => ?_) i (by rw [hnl]; rfl) (by rw [getD_set hli, if_pos rfl]; rfl) (List.range ops.size) hir
        rw [getD_set hli] at hx
        by_cases hix : i = x
        · rw [if_pos hix] at hx; cases hx
        · rw [if_neg hix] at hx; exact hx
      omega
end
def ordOkG (ops : Array Oper) (n : Nat) : Bool :=
  (List.range ops.size).all fun i => match ops[i]? with
    | none => true
    | some o => (o.after.toList.all fun e => !Region.binds .any e || decide (e.on < i)) && (match o.dst with | none => true | some d => decide (d < n) && (List.range ops.size).all fun j => decide (i = j) || (match ops[j]? with | none => true | some o' => o'.dst != some d))
theorem ordOkG_spec {ops : Array Oper} {n : Nat} (h : ordOkG ops n = true) : (∀ (i j : Nat) (oi oj : Oper) d, ops[i]? = some oi → ops[j]? = some oj → i ≠ j → oi.dst = some d → oj.dst ≠ some d) ∧ (∀ (i : Nat) (o : Oper), ops[i]? = some o → ∀ e ∈ o.after.toList, Region.binds .any e = true → e.on < i) ∧ (∀ (i : Nat) (o : Oper) d, ops[i]? = some o → o.dst = some d → d < n) := by
  unfold ordOkG at h
  rw [List.all_eq_true] at h
  have key : ∀ (i : Nat) (o : Oper), ops[i]? = some o → (∀ e ∈ o.after.toList, Region.binds .any e = true → e.on < i) ∧ ∀ d, o.dst = some d → d < n ∧ ∀ (j : Nat) (o' : Oper), ops[j]? = some o' → i ≠ j → o'.dst ≠ some d := fun i o ho => by
    have hi : i < ops.size := (Array.getElem?_eq_some_iff.1 ho).1
    have h1 := h i (List.mem_range.2 hi)
    rw [ho] at h1
    simp only [Bool.and_eq_true] at h1
    obtain ⟨h2, h3⟩ := h1
    refine ⟨fun e he hb => ?_, fun d hd => ?_⟩
    · rw [List.all_eq_true] at h2
      have := h2 e he
      rw [hb] at this
      simpa using this
    · rw [hd] at h3
      simp only [Bool.and_eq_true, decide_eq_true_eq, List.all_eq_true] at h3
      refine ⟨h3.1, fun j o' hj hne => ?_⟩
      have hjl : j < ops.size := (Array.getElem?_eq_some_iff.1 hj).1
      have := h3.2 j (List.mem_range.2 hjl)
      rw [hj] at this
      simp only [hne, decide_false, Bool.false_or] at this
      simpa using this
  exact ⟨fun i j oi oj d hi hj hne hd => ((key i oi hi).2 d hd).2 j oj hj hne, fun i o ho => (key i o ho).1, fun i o d ho hd => ((key i o ho).2 d hd).1⟩
theorem wpAnyIn_ord2 {F : Fence} {n' : Nat} {P : Program} {ops : Array Oper} {Q : Exit → Act → World → Prop} (n : Nat) (D : Nat → Nat) (R : Nat → Value → World → Prop) (B : Array Bool → World → Prop) (Rel : Nat → World → World → Prop) {a0 : Act} {w : World}
    (hok : ordOkG ops n = true) (hn : a0.tmps.size = n) (hb : B (Array.replicate ops.size false) w)
    (hR : ∀ i j v w w', i ≠ j → D i ≠ j → anc ops ops.size i j = false → (anc ops ops.size j (D i) = false ∨ D i = i) → R i v w → Rel j w w' → R i v w') (hB : ∀ j listed w w', listed.getD j true = false → (∀ k, anc ops ops.size j k = true → listed.getD k false = true) → B listed w → Rel j w w' → B (listed.setIfInBounds j true) w')
    (hstep : ∀ (i : Nat) (o : Oper), ops[i]? = some o → ∀ listed a w, OrdAt ops D R B a0 listed a w → listed.getD i true = false → (∀ e ∈ o.after.toList, Region.binds .any e = true → listed.getD e.on false = true) → wpOpIn F n' P ops Q i (fun a' w' => ∃ v, a' = a.put o.dst v ∧ R i v w' ∧ Rel i w w') a w)
    (hend : ∀ a w, OrdAt ops D R B a0 (Array.replicate ops.size true) a w → Q .normal a w) : wpAnyIn F n' P .any ops Q ops.size (Array.replicate ops.size false) a0 w := by
  obtain ⟨h1, h2, h4⟩ := ordOkG_spec hok
  refine wpAnyIn_ord h1 h2 (fun i o d ho hd => by rw [hn]; exact h4 i o d ho hd) hR hB hstep hend _ _ _ _ (ordAt_start ops D R B a0 w hb) ?_
  unfold left9
  exact Nat.le_trans (List.length_filter_le _ _) (by simp)
end Go.Proofs.Ytgaabclgoolalaa
namespace Go.Proofs.Ytgaabclgoolalaa
open Go.RowKit Go.Shelf
attribute [local go_sem] Oper.semAt_some

/-- What is yielded: an act, where its slices lie, whether it may be one. -/
structure YX where
  x : SAct
  a1 : Option Addr
  a2 : Option Addr
  a3 : Option Addr
  c1 : Nat
  c2 : Nat
  c3 : Nat
  is : Bool
def YX.cells (y : YX) : Array Value := actC y.x y.a1 y.a2 y.a3 y.c1 y.c2 y.c3
theorem YX.one (y : YX) : ∀ u ∈ y.cells.toList, u.oneCell' = true := by
  intro u hu
  simp [YX.cells, actC] at hu
  rcases hu with rfl | rfl | rfl | rfl | rfl <;> rfl
/-- A row of acts: its cells, how many acts, the slice. -/
abbrev YS := List Value × Nat × Value
def UPre (b0 : Bool) (n₁ Bw Bl : Nat) (s : YS) (W : World) : Prop := Boxed W Bw 4 (.bool b0) ∧ Boxed W Bl 23 s.2.2 ∧ W.ownsRow n₁ 49 5 s.2.2 s.2.1 s.1 ∧ s.2.1 ≤ 65536
def UBody (b0 : Bool) (n₁ Bw Bl l0 : Nat) (s : YS) (y : YX) (W W' : World) : Prop := y.is = true ∧ ∃ v', Boxed W' Bw 4 (.bool b0) ∧ Boxed W' Bl 23 v' ∧ W'.ownsRow n₁ 49 5 v' (s.2.1 + 1) (s.1 ++ y.cells.toList) ∧ Moves (fun k => k = Bl ∨ k = l0 ∨ s.2.2.ownBlock = some k) W W'
def UStop (Bw l0 : Nat) (y : YX) (W W' : World) : Prop := y.is = false ∧ Boxed W' Bw 4 (.bool false) ∧ Moves (fun k => k = Bw ∨ k = l0) W W'
/-- What is there at the end: all acts, or one that is none. -/
def UEnd (b0 : Bool) (n₁ n₀ Bw Bl R C : Nat) (s0 : RSt) (w W : World) : Prop := ∃ xs s v, actsR C s0 = some (xs, s) ∧ Boxed W Bw 4 (.bool b0) ∧ Boxed W Bl 23 v ∧ OfAt n₀ W v xs ∧ ReadB n₀ R s W ∧ s.1.length ≤ 1099511627776 ∧ Below n₁ w W
def UNot (n₁ Bw C : Nat) (s0 : RSt) (w W : World) : Prop := actsR C s0 = none ∧ Boxed W Bw 4 (.bool false) ∧ Below n₁ w W
section
variable {b0 : Bool} {n₀ n₁ Bw Bl l0 R C : Nat} {s : YS} {y : YX} {W W' w : World} {s0 : RSt} {o o1 o2 o' : Obj}
theorem moves_putl {S : Nat → Prop} (hS : S l0) (o' : Obj) : Moves S W (W.putObj l0 o') :=
  ⟨rfl, rfl, rfl, by rw [World.putObj_size]; exact Nat.le_refl _, fun k _ hs => World.putObj_heap_other (fun e : k = l0 => hs (by rw [e]; exact hS))⟩
theorem boxed_putu {B l : Nat} {t : TypeId} {v : Value} (h : Boxed W B t v) (o' : Obj) (hl : W.heap[l]? = some o) (ho : o.isCells = false) : Boxed (W.putObj l o') B t v := KeepsAt.put (S := fun _ => True) W l o o' hl ho B trivial _ _ _ h
theorem UPre.turn (h : UPre b0 n₁ Bw Bl s W) (hl : W.heap[l0]? = some o) (ho : o.isCells = false) : UPre b0 n₁ Bw Bl s (W.putObj l0 o') :=
  ⟨boxed_putu h.1 o' hl ho, boxed_putu h.2.1 o' hl ho, ownsRow_putObj h.2.2.1 o' hl ho, h.2.2.2⟩
theorem UBody.turn (h : UBody b0 n₁ Bw Bl l0 s y (W.putObj l0 o2) W') (hl : W'.heap[l0]? = some o1) (ho : o1.isCells = false) : UBody b0 n₁ Bw Bl l0 s y W (W'.putObj l0 o') := by
  obtain ⟨h0, v', h1, h2, h3, h4⟩ := h
  exact ⟨h0, v', boxed_putu h1 o' hl ho, boxed_putu h2 o' hl ho, ownsRow_putObj h3 o' hl ho, ((moves_putl (.inr (.inl rfl)) o2).trans h4 (fun _ _ h => h)).trans (moves_putl (.inr (.inl rfl)) o') (fun _ _ h => h)⟩
theorem UStop.turn (h : UStop Bw l0 y (W.putObj l0 o2) W') (hl : W'.heap[l0]? = some o1) (ho : o1.isCells = false) : UStop Bw l0 y W (W'.putObj l0 o') := by
  obtain ⟨h0, h1, h2⟩ := h
  exact ⟨h0, boxed_putu h1 o' hl ho, ((moves_putl (.inr rfl) o2).trans h2 (fun _ _ h => h)).trans (moves_putl (.inr rfl) o') (fun _ _ h => h)⟩
theorem UBody.al (h : UBody b0 n₁ Bw Bl l0 s y (W.alloc o) W') : UBody b0 n₁ Bw Bl l0 s y W W' := by
  obtain ⟨h0, v', h1, h2, h3, h4⟩ := h
  exact ⟨h0, v', h1, h2, h3, ((Moves.refl _ W).alloc o).trans h4 (fun _ _ h => h)⟩
theorem UStop.al (h : UStop Bw l0 y (W.alloc o) W') : UStop Bw l0 y W W' := by
  obtain ⟨h0, h1, h2⟩ := h
  exact ⟨h0, h1, ((Moves.refl _ W).alloc o).trans h2 (fun _ _ h => h)⟩
theorem below_putl (hb : Below n₁ w W) (hn : n₁ ≤ l0) (o' : Obj) : Below n₁ w (W.putObj l0 o') := hb.trans ⟨rfl, rfl, rfl, by rw [World.putObj_size]; exact Nat.le_refl _, fun k hk => World.putObj_heap_other (by omega)⟩
theorem bytesT_put {v : Value} {bs : List (BitVec 8)} (h : BytesT W v bs) (o' : Obj) (hl : W.heap[l0]? = some o) (ho : o.isCells = false) : BytesT (W.putObj l0 o') v bs := by
  refine ⟨(Moves.bytes (moves_putl (l0 := l0) (S := fun k => k = l0) rfl o') h.1 (Nat.le_refl _) (fun _ k hk e => ?_)).mono (by rw [World.putObj_size]; exact Nat.le_refl _), fun g hg => ?_⟩
  · obtain ⟨cs, sp, h1⟩ := h.2 k hk
    have e : k = l0 := e
    subst e
    rw [hl] at h1
    cases h1
    cases ho
  · obtain ⟨cs, sp, h1⟩ := h.2 g hg
    refine ⟨cs, sp, (World.putObj_heap_other (fun e : g = l0 => ?_)).trans h1⟩
    subst e
    rw [hl] at h1
    cases h1
    cases ho
theorem intsT_put {v : Value} {l : List Int} (h : IntsT W v l) (o' : Obj) (hl : W.heap[l0]? = some o) (ho : o.isCells = false) : IntsT (W.putObj l0 o') v l := by
  refine ⟨h.1.keep (by rw [World.putObj_size]; exact Nat.le_refl _) (fun p hp hlt => World.cell?_of_block (w := W) (World.putObj_heap_other (fun e : p.block = l0 => ?_))), fun g hg => ?_⟩
  · obtain ⟨cs, sp, h1⟩ := h.2 p.block hp
    rw [e, hl] at h1
    cases h1
    cases ho
  · obtain ⟨cs, sp, h1⟩ := h.2 g hg
    refine ⟨cs, sp, (World.putObj_heap_other (fun e : g = l0 => ?_)).trans h1⟩
    subst e
    rw [hl] at h1
    cases h1
    cases ho
theorem ofAt_put {v : Value} {l : List SAct} (h : OfAt n₁ W v l) (o' : Obj) (hl : W.heap[l0]? = some o) (ho : o.isCells = false) : OfAt n₁ (W.putObj l0 o') v l := by
  obtain ⟨cs, h1, h2⟩ := h
  refine ⟨cs, ownsRow_putObj h1 o' hl ho, fun i hi => ?_⟩
  obtain ⟨a1, c1, a2, c2, a3, c3, he, k1, k2, k3⟩ := h2 i hi
  exact ⟨a1, c1, a2, c2, a3, c3, he, bytesT_put k1 o' hl ho, bytesT_put k2 o' hl ho, intsT_put k3 o' hl ho⟩
theorem readB_put {s : RSt} (h : ReadB n₀ R s W) (o' : Obj) (hl : W.heap[l0]? = some o) (ho : o.isCells = false) (hn : n₀ ≤ l0) : ReadB n₀ R s (W.putObj l0 o') := by
  obtain ⟨h0, v, h1, h2⟩ := h
  exact ⟨h0, v, KeepsAt.put (S := fun _ => True) W l0 o o' hl ho R trivial _ _ _ h1, h2.keep (fun _ p _ hp => World.cell?_of_block (w := W) (World.putObj_heap_other (by omega)))⟩
theorem UNot.turn (h : UNot n₁ Bw C s0 w W) (hn : n₁ ≤ l0) (hl : W.heap[l0]? = some o) (ho : o.isCells = false) : UNot n₁ Bw C s0 w (W.putObj l0 o') :=
  ⟨h.1, boxed_putu h.2.1 o' hl ho, below_putl h.2.2 hn o'⟩
theorem UPre.al (h : UPre b0 n₁ Bw Bl s W) (o : Obj) : UPre b0 n₁ Bw Bl s (W.alloc o) := ⟨h.1.alloc o, h.2.1.alloc o, h.2.2.1.alloc o, h.2.2.2⟩
theorem UEnd.turn (h : UEnd b0 n₁ n₀ Bw Bl R C s0 w W) (hn : n₁ ≤ l0) (hn0 : n₀ ≤ l0) (hl : W.heap[l0]? = some o) (ho : o.isCells = false) : UEnd b0 n₁ n₀ Bw Bl R C s0 w (W.putObj l0 o') := by
  obtain ⟨xs, s, v, h0, h1, h2, h3, h4, h7, h5⟩ := h
  exact ⟨xs, s, v, h0, boxed_putu h1 o' hl ho, boxed_putu h2 o' hl ho, ofAt_put h3 o' hl ho, readB_put h4 o' hl ho hn0, h7, below_putl h5 hn o'⟩
end
end Go.Proofs.Ytgaabclgoolalaa
namespace Go.Proofs.Ytgaabclgoolalaa
open Go.RowKit Go.Shelf
attribute [local go_sem] Oper.semAt_some

section
variable {S : Nat → Prop} {W W' : World} {v : Value}
theorem BytesT.moves {bs : List (BitVec 8)} (h : BytesT W v bs) (hm : Moves S W W') (hS : ∀ k cs t sp, S k → W.heap[k]? = some (.cells cs t sp) → t ≠ 5 ∧ t ≠ 3) : BytesT W' v bs :=
  ⟨(hm.bytes h.1 (Nat.le_refl _) (fun _ k hk e => by obtain ⟨cs, sp, h1⟩ := h.2 k hk; exact (hS _ _ _ _ e h1).1 rfl)).mono hm.size,
    fun g hg => by obtain ⟨cs, sp, h1⟩ := h.2 g hg; exact ⟨cs, sp, (hm.block g (blk_lt h1) (fun e => (hS _ _ _ _ e h1).1 rfl)).trans h1⟩⟩
theorem IntsT.moves {l : List Int} (h : IntsT W v l) (hm : Moves S W W') (hS : ∀ k cs t sp, S k → W.heap[k]? = some (.cells cs t sp) → t ≠ 5 ∧ t ≠ 3) : IntsT W' v l :=
  ⟨h.1.keep hm.size (fun p hp hlt => World.cell?_of_block (w := W) (hm.block p.block hlt (fun e => by obtain ⟨cs, sp, h1⟩ := h.2 p.block hp; exact (hS _ _ _ _ e h1).2 rfl))),
    fun g hg => by obtain ⟨cs, sp, h1⟩ := h.2 g hg; exact ⟨cs, sp, (hm.block g (blk_lt h1) (fun e => (hS _ _ _ _ e h1).2 rfl)).trans h1⟩⟩
theorem ElAt.moves {cs : List Value} {i : Nat} {x : SAct} (h : ElAt W cs i x) (hm : Moves S W W') (hS : ∀ k cs t sp, S k → W.heap[k]? = some (.cells cs t sp) → t ≠ 5 ∧ t ≠ 3) : ElAt W' cs i x := by
  obtain ⟨a1, c1, a2, c2, a3, c3, h0, k1, k2, k3⟩ := h
  exact ⟨a1, c1, a2, c2, a3, c3, h0, k1.moves hm hS, k2.moves hm hS, k3.moves hm hS⟩
theorem OfAt.moves {n : Nat} {l : List SAct} (h : OfAt n W v l) (hm : Moves S W W') (hS : ∀ k cs t sp, S k → W.heap[k]? = some (.cells cs t sp) → t ≠ 5 ∧ t ≠ 3) (hr : ∀ k, v.ownBlock = some k → ¬ S k) : OfAt n W' v l := by
  obtain ⟨cs, ho, he⟩ := h
  exact ⟨cs, hm.row ho hr, fun i hi => (he i hi).moves hm hS⟩
end
theorem elAt_snoc {W : World} {l : List SAct} {cs : List Value} {y : YX} (hlen : cs.length = l.length * 5) (he : ∀ i, i < l.length → ElAt W cs i (l[i]?.getD default))
    (h1 : BytesT W (.slice y.a1 y.x.key.length y.c1) y.x.key) (h2 : BytesT W (.slice y.a2 y.x.val.length y.c2) y.x.val) (h3 : IntsT W (.slice y.a3 y.x.nums.length y.c3) y.x.nums) :
    ∀ i, i < (l ++ [y.x]).length → ElAt W (cs ++ y.cells.toList) i ((l ++ [y.x])[i]?.getD default) := by
  intro i hi
  rw [List.length_append, List.length_singleton] at hi
  by_cases hil : i < l.length
  · obtain ⟨b1, d1, b2, d2, b3, d3, ⟨q0, q1, q2, q3, q4⟩, k1, k2, k3⟩ := he i hil
    rw [List.getElem?_append_left hil]
    refine ⟨b1, d1, b2, d2, b3, d3, ⟨?_, ?_, ?_, ?_, ?_⟩, k1, k2, k3⟩
    · rw [List.getElem?_append_left (by omega)]; exact q0
    · rw [List.getElem?_append_left (by omega)]; exact q1
    · rw [List.getElem?_append_left (by omega)]; exact q2
    · rw [List.getElem?_append_left (by omega)]; exact q3
    · rw [List.getElem?_append_left (by omega)]; exact q4
  · obtain rfl : i = l.length := by omega
    rw [List.getElem?_append_right (Nat.le_refl _), Nat.sub_self]
    refine ⟨y.a1, y.c1, y.a2, y.c2, y.a3, y.c3, ⟨?_, ?_, ?_, ?_, ?_⟩, h1, h2, h3⟩
    · rw [List.getElem?_append_right (by omega), show l.length * 5 - cs.length = 0 by omega]; rfl
    · rw [List.getElem?_append_right (by omega), show l.length * 5 + 1 - cs.length = 1 by omega]; rfl
    · rw [List.getElem?_append_right (by omega), show l.length * 5 + 2 - cs.length = 2 by omega]; rfl
    · rw [List.getElem?_append_right (by omega), show l.length * 5 + 3 - cs.length = 3 by omega]; rfl
    · rw [List.getElem?_append_right (by omega), show l.length * 5 + 4 - cs.length = 4 by omega]; rfl
/-- What is fixed: places, and that the loop's record stays. -/
structure UK (n₁ n₀ Bw Bl R l0 L0 m : Nat) (Rdy Over : World → Prop) : Prop where
  n10 : n₁ ≤ n₀
  n1R : n₁ ≤ R
  gl : n₀ ≤ Bl
  gw : n₀ ≤ Bw
  g0 : n₀ ≤ l0
  lm : l0 < m
  rdy : ∀ W W', Rdy W → KeepsFrom L0 W W' → Rdy W'
  over : ∀ W W', Over W → KeepsFrom L0 W W' → Over W'
  lo : ∀ W, Rdy W → ∃ o : Obj, W.heap[l0]? = some o ∧ o.isCells = false
structure UJ (b0 : Bool) (n₁ n₀ Bw Bl Bc Br R C L0 m : Nat) (w : World) (Rdy : World → Prop) (xs : List SAct) (s : RSt) (v : Value) (W : World) : Prop where
  bw : Boxed W Bw 4 (.bool b0)
  bl : Boxed W Bl 23 v
  row : OfAt n₀ W v xs
  rd : ReadB n₀ R s W
  map : W.heap[m]? = some (.map (kindEs 10) 10)
  bc : W.heap[Bc]? = some (.cells #[.int .i64 C] 3 (0, 0))
  br : W.heap[Br]? = some (.cells #[.pointer (some ⟨R, 0, none⟩)] 40 (0, 0))
  bel : Below n₁ w W
  rdy : Rdy W
  n0 : n₀ ≤ W.heap.size
  top : L0 ≤ W.heap.size
section
variable {b0 : Bool} {n₁ n₀ Bw Bl Bc Br R C l0 L0 m : Nat} {w W W' : World} {Rdy Over : World → Prop} {xs : List SAct} {s s' : RSt} {v : Value}
theorem ReadB.blk {n₀ R : Nat} {s : RSt} {W : World} (h : ReadB n₀ R s W) : ∃ u, W.heap[R]? = some (.cells #[u, .bool s.2] 74 (0, 0)) := by
  obtain ⟨_, u, h, _⟩ := h
  exact ⟨u, h⟩
theorem keepsFrom_rd (h : ReadB n₀ R s W) (hm : Moves (rS R) W W') (L : Nat) : KeepsFrom L W W' := by
  obtain ⟨u, hu⟩ := h.blk
  exact ⟨hm.size, fun k o _ hk ho => (hm.block k (blk_lt hk) (fun e => by
    have e : k = R := e
    subst e
    rw [hu] at hk
    cases hk
    cases ho)).trans hk⟩
theorem rd_types (h : ReadB n₀ R s W) : ∀ k cs t sp, rS R k → W.heap[k]? = some (.cells cs t sp) → t ≠ 5 ∧ t ≠ 3 := by
  obtain ⟨u, hu⟩ := h.blk
  intro k cs t sp e hk
  have e : k = R := e
  subst e
  rw [hu] at hk
  cases hk
  exact ⟨by decide, by decide⟩
theorem UJ.moved (K : UK n₁ n₀ Bw Bl R l0 L0 m Rdy Over) (h : UJ b0 n₁ n₀ Bw Bl Bc Br R C L0 m w Rdy xs s v W) (hr : ReadB n₀ R s' W') (hm : Moves (rS R) W W') : UJ b0 n₁ n₀ Bw Bl Bc Br R C L0 m w Rdy xs s' v W' := by
  obtain ⟨u, hu⟩ := h.rd.blk
  have ne : ∀ {k : Nat} {cs : Array Value} {t : TypeId}, W.heap[k]? = some (.cells cs t (0, 0)) → t ≠ 74 → ¬ rS R k := fun hk ht e => by
    exact blk_ne hk hu ht e
  obtain ⟨cs, ho, _⟩ := id h.row
  refine ⟨(hm.block _ (blk_lt h.bw) (ne h.bw (by decide))).trans h.bw, (hm.block _ (blk_lt h.bl) (ne h.bl (by decide))).trans h.bl, h.row.moves hm (rd_types h.rd) (fun k hk e => own_ne ho hu (by decide) (by rw [hk, show k = R from e])), hr, (hm.block _ (blk_lt h.map) (fun e => ?_)).trans h.map, (hm.block _ (blk_lt h.bc) (ne h.bc (by decide))).trans h.bc, (hm.block _ (blk_lt h.br) (ne h.br (by decide))).trans h.br,
    h.bel.trans (hm.below (fun i hi => by rw [show i = R from hi]; exact K.n1R) (Nat.le_trans K.n10 h.n0)), K.rdy _ _ h.rdy (keepsFrom_rd h.rd hm _), Nat.le_trans h.n0 hm.size, Nat.le_trans h.top hm.size⟩
  have e : m = R := e
  have := h.map
  rw [e, hu] at this
  cases this
theorem UJ.below (K : UK n₁ n₀ Bw Bl R l0 L0 m Rdy Over) (h : UJ b0 n₁ n₀ Bw Bl Bc Br R C L0 m w Rdy xs s v W) (hb : Below W.heap.size W W') : UJ b0 n₁ n₀ Bw Bl Bc Br R C L0 m w Rdy xs s v W' := h.moved K (h.rd.below hb h.n0) (Moves.of_below hb)
/-- A round that went on. -/
theorem UJ.body (K : UK n₁ n₀ Bw Bl R l0 L0 m Rdy Over) (h : UJ b0 n₁ n₀ Bw Bl Bc Br R C L0 m w Rdy xs s v W) {cs : List Value} {y : YX} (ho : W.ownsRow n₀ 49 5 v xs.length cs) (he : ∀ i, i < xs.length → ElAt W cs i (xs[i]?.getD default))
    (h1 : BytesT W (.slice y.a1 y.x.key.length y.c1) y.x.key) (h2 : BytesT W (.slice y.a2 y.x.val.length y.c2) y.x.val) (h3 : IntsT W (.slice y.a3 y.x.nums.length y.c3) y.x.nums)
    (hr : Rdy W') (hb : UBody b0 n₀ Bw Bl l0 (cs, xs.length, v) y W W') : ∃ v', UJ b0 n₁ n₀ Bw Bl Bc Br R C L0 m w Rdy (xs ++ [y.x]) s v' W' := by
  obtain ⟨_, v', b1, b2, b3, hm⟩ := hb
  obtain ⟨u, hu⟩ := h.rd.blk
  obtain ⟨o, hlo, hoc⟩ := K.lo _ h.rdy
  have b3 : W'.ownsRow n₀ 49 5 v' (xs.length + 1) (cs ++ y.cells.toList) := b3
  have hm : Moves (fun k => k = Bl ∨ k = l0 ∨ v.ownBlock = some k) W W' := hm
  have hlen := ho.1
  have ne : ∀ {k : Nat} {c : Array Value} {t : TypeId}, W.heap[k]? = some (.cells c t (0, 0)) → t ≠ 23 → t ≠ 49 → ¬ (k = Bl ∨ k = l0 ∨ v.ownBlock = some k) := fun hk t1 t2 e => by
    rcases e with e | e | e
    · exact blk_ne hk h.bl t1 e
    · rw [e, hlo] at hk
      cases hk
      cases hoc
    · exact own_ne ho hk (fun e => t2 e.symm) e
  have hS : ∀ k c t sp, (k = Bl ∨ k = l0 ∨ v.ownBlock = some k) → W.heap[k]? = some (.cells c t sp) → t ≠ 5 ∧ t ≠ 3 := fun k c t sp e hk => by
    rcases e with e | e | e
    · have := h.bl
      rw [← e] at this
      rw [show W.heap[k]? = _ from this] at hk
      cases hk
      exact ⟨by decide, by decide⟩
    · rw [e, hlo] at hk
      cases hk
      cases hoc
    · obtain ⟨c', sp', hk'⟩ := own_type ho k e
      rw [hk'] at hk
      cases hk
      exact ⟨by decide, by decide⟩
  have hge : ∀ k, (k = Bl ∨ k = l0 ∨ v.ownBlock = some k) → n₀ ≤ k := fun k e => by
    rcases e with e | e | e
    · rw [e]; exact K.gl
    · rw [e]; exact K.g0
    · exact (ho.lt k e).1
  refine ⟨v', b1, b2, ⟨_, by rw [List.length_append, List.length_singleton]; exact b3, elAt_snoc (by omega) (fun i hi => (he i hi).moves hm hS) (h1.moves hm hS) (h2.moves hm hS) (h3.moves hm hS)⟩, ?_, (hm.block _ (blk_lt h.map) (fun e => ?_)).trans h.map, (hm.block _ (blk_lt h.bc) (ne h.bc (by decide) (by decide))).trans h.bc, (hm.block _ (blk_lt h.br) (ne h.br (by decide) (by decide))).trans h.br, h.bel.trans (hm.below (fun i hi => Nat.le_trans K.n10 (hge i hi)) (Nat.le_trans K.n10 h.n0)), hr, Nat.le_trans h.n0 hm.size, Nat.le_trans h.top hm.size⟩
  · obtain ⟨hs0, u', hu', hub⟩ := h.rd
    exact ⟨hs0, u', (hm.block _ (blk_lt hu') (ne hu' (by decide) (by decide))).trans hu', hm.bytes hub h.n0 (fun hnil k hk e => by
      have := hub.lt hnil hk
      have := hge k e
      omega)⟩
  · rcases e with e | e | e
    · have := h.bl
      rw [← e] at this
      have h9 := h.map
      rw [show W.heap[m]? = _ from this] at h9
      cases h9
    · have := K.lm
      omega
    · obtain ⟨c', sp', hk'⟩ := own_type ho m e
      have h9 := h.map
      rw [hk'] at h9
      cases h9
end
end Go.Proofs.Ytgaabclgoolalaa
namespace Go.Proofs.Ytgaabclgoolalaa
open Go.RowKit Go.Shelf
attribute [local go_sem] Oper.semAt_some

theorem yield_any {l m m' : Nat} {args : Array Value} {W : World} {R : Ending → World → Prop} (h : YieldAt Fence.wide m Try.prog l args W R) : YieldAt Fence.wide m' Try.prog l args W R := by
  obtain ⟨fn, tmps, assign, body, h1, h2⟩ := h
  exact ⟨fn, tmps, assign, body, h1, h2.1, fun c cs _ => h2.2 c cs (room_wide _)⟩
/-- What the operations yield where an act is handed out. -/
def AcR (y : YX) (R m l : Nat) (bad : Bool) (i : Nat) (v : Value) (_ : World) : Prop :=
  match i with
  | 0 => v = .func (.yield l) #[] #[]
  | 1 => v = .agg #[.int .i64 y.x.kind, .slice y.a1 y.x.key.length y.c1, .slice y.a2 y.x.val.length y.c2, .int .i64 y.x.num, .slice y.a3 y.x.nums.length y.c3]
  | 2 => v = .pointer (some ⟨R, 0, none⟩)
  | 3 => v = .bool bad
  | 4 => v = .bool (!bad)
  | 5 => v = .bool (!bad)
  | 6 => bad = false → v = .map (some m)
  | 7 => bad = false → v = .agg #[.int .i64 y.x.kind, .slice y.a1 y.x.key.length y.c1, .slice y.a2 y.x.val.length y.c2, .int .i64 y.x.num, .slice y.a3 y.x.nums.length y.c3]
  | 8 => bad = false → v = .bool (rightA y.x)
  | 9 => v = .bool y.is
  | 10 => v = .bool y.is
  | 11 => v = .bool (!y.is)
  | _ => True
def AcB (Pre Post : World → Prop) (listed : Array Bool) (W : World) : Prop := if listed.getD 10 false = true then Post W else Pre W
def AcRel (Post : World → Prop) (j : Nat) (W W' : World) : Prop := if j = 10 then Post W' else Below W.heap.size W W'
theorem acB_set {Pre Post : World → Prop} (hB : ∀ W W', Pre W → Below W.heap.size W W' → Pre W') (hP : ∀ W W', Post W → Below W.heap.size W W' → Post W') {listed : Array Bool} {j : Nat} {W W' : World} (hnl : listed.getD j true = false) (h : AcB Pre Post listed W) (hr : AcRel Post j W W') : AcB Pre Post (listed.setIfInBounds j true) W' := by
  unfold AcB at h ⊢
  unfold AcRel at hr
  rw [getD_set (not_size hnl)]
  by_cases h10 : j = 10
  · rw [if_pos h10] at hr ⊢
    rw [if_pos rfl]
    exact hr
  · rw [if_neg h10] at hr ⊢
    by_cases hc : listed.getD 10 false = true
    · rw [if_pos hc] at h ⊢
      exact hP _ _ h hr
    · rw [if_neg hc] at h ⊢
      exact hB _ _ h hr
/-- What was met in a round: the act is handed out there. -/
structure UPs (b0 : Bool) (n₁ n₀ Bw Bl Bc Br R C L0 m : Nat) (w : World) (Rdy : World → Prop) (xs : List SAct) (s : RSt) (v : Value) (y : YX) (X : Nat) (W : World) : Prop where
  j : UJ b0 n₁ n₀ Bw Bl Bc Br R C L0 m w Rdy xs s v W
  act : W.heap[X]? = some (.cells #[.int .i64 y.x.kind, .slice y.a1 y.x.key.length y.c1, .slice y.a2 y.x.val.length y.c2, .int .i64 y.x.num, .slice y.a3 y.x.nums.length y.c3] 49 (0, 0))
  k1 : BytesT W (.slice y.a1 y.x.key.length y.c1) y.x.key
  k2 : BytesT W (.slice y.a2 y.x.val.length y.c2) y.x.val
  k3 : IntsT W (.slice y.a3 y.x.nums.length y.c3) y.x.nums
/-- What a round leaves. -/
def UPt (b0 : Bool) (n₁ n₀ Bw Bl Bc Br R C L0 m : Nat) (w : World) (Rdy Over : World → Prop) (xs : List SAct) (s : RSt) (y : YX) (W : World) : Prop :=
  (y.is = true ∧ ∃ v', UJ b0 n₁ n₀ Bw Bl Bc Br R C L0 m w Rdy (xs ++ [y.x]) s v' W) ∨ (y.is = false ∧ Over W ∧ Boxed W Bw 4 (.bool false) ∧ ReadB n₀ R s W ∧ n₀ ≤ W.heap.size ∧ Below n₁ w W)
section
variable {b0 : Bool} {n₁ n₀ Bw Bl Bc Br R C l0 L0 m X : Nat} {w W W' : World} {Rdy Over : World → Prop} {xs : List SAct} {s s' : RSt} {v : Value} {y : YX}
theorem UPs.below (K : UK n₁ n₀ Bw Bl R l0 L0 m Rdy Over) (h : UPs b0 n₁ n₀ Bw Bl Bc Br R C L0 m w Rdy xs s v y X W) (hb : Below W.heap.size W W') : UPs b0 n₁ n₀ Bw Bl Bc Br R C L0 m w Rdy xs s v y X W' :=
  ⟨h.j.below K hb, (hb.block _ (blk_lt h.act)).trans h.act, h.k1.on hb, h.k2.on hb, h.k3.on hb⟩
theorem UPt.below (K : UK n₁ n₀ Bw Bl R l0 L0 m Rdy Over) (h : UPt b0 n₁ n₀ Bw Bl Bc Br R C L0 m w Rdy Over xs s y W) (hb : Below W.heap.size W W') : UPt b0 n₁ n₀ Bw Bl Bc Br R C L0 m w Rdy Over xs s y W' := by
  rcases h with ⟨h0, v', h⟩ | ⟨h0, h1, h2, h3, h4, h5⟩
  · exact .inl ⟨h0, v', h.below K hb⟩
  · exact .inr ⟨h0, K.over _ _ h1 (keepsFrom_rd h3 (Moves.of_below hb) _), (hb.block _ (blk_lt h2)).trans h2, h3.below hb h4, Nat.le_trans h4 hb.size, h5.trans (hb.mono (Nat.le_trans K.n10 h4))⟩
/-- The yield: what the body promises, as what a round leaves. -/
theorem UPs.yielded (K : UK n₁ n₀ Bw Bl R l0 L0 m Rdy Over) (h : UPs b0 n₁ n₀ Bw Bl Bc Br R C L0 m w Rdy xs s v y X W) (hlen : xs.length ≤ 65536) {l k : Nat}
    (hY : ∀ (t : YS) (x : YX) W, Rdy W → L0 ≤ W.heap.size → UPre b0 n₀ Bw Bl t W → YieldAt Fence.wide k Try.prog l #[.agg x.cells, .bool x.is] W fun e W' => (e = .returned (.bool true) ∧ Rdy W' ∧ UBody b0 n₀ Bw Bl l0 t x W W') ∨ (e = .returned (.bool false) ∧ Over W' ∧ UStop Bw l0 x W W')) :
    YieldAt Fence.wide k Try.prog l #[.agg y.cells, .bool y.is] W fun e W' => e = .returned (.bool y.is) ∧ UPt b0 n₁ n₀ Bw Bl Bc Br R C L0 m w Rdy Over xs s y W' := by
  obtain ⟨cs, ho, he⟩ := h.j.row
  obtain ⟨fn, tmps, assign, body, h1, h2⟩ := hY (cs, xs.length, v) y W h.j.rdy h.j.top ⟨h.j.bw, h.j.bl, ho, hlen⟩
  refine ⟨fn, tmps, assign, body, h1, h2.mono ?_⟩
  rintro e W' (⟨rfl, hr, hb⟩ | ⟨rfl, hr, hb⟩)
  · have := hb.1
    rw [this]
    refine ⟨rfl, .inl ⟨this, ?_⟩⟩
    exact h.j.body K ho he h.k1 h.k2 h.k3 hr hb
  · obtain ⟨b1, b2, hm⟩ := hb
    rw [b1]
    obtain ⟨o, hlo, hoc⟩ := K.lo _ h.j.rdy
    refine ⟨rfl, .inr ⟨b1, hr, b2, ?_, Nat.le_trans h.j.n0 hm.size, h.j.bel.trans (hm.below (fun i hi => ?_) (Nat.le_trans K.n10 h.j.n0))⟩⟩
    · obtain ⟨hs0, u', hu', hub⟩ := h.j.rd
      refine ⟨hs0, u', (hm.block _ (blk_lt hu') (fun e => ?_)).trans hu', hm.bytes hub h.j.n0 (fun hnil k hk e => ?_)⟩
      · rcases e with e | e
        · exact blk_ne hu' h.j.bw (by decide) e
        · rw [← e] at hlo
          rw [hu'] at hlo
          cases hlo
          cases hoc
      · have := hub.lt hnil hk
        have := K.gw
        have := K.g0
        rcases e with e | e <;> omega
    · have := K.n10
      have := K.gw
      have := K.g0
      rcases hi with e | e <;> omega
end
theorem tmp_some {t : Array Value} {n s : Nat} {v : Value} (hn : t.size = n) (hs : s < n) (h : t.getD s undef = v) : t[s]? = some v := by
  rw [Array.getD_eq_getD_getElem?] at h
  have : s < t.size := by omega
  rw [Array.getElem?_eq_getElem this] at h ⊢
  rw [← h]
  rfl
theorem readS_len (k v u c : Bool) (l : Nat) (kind : Int) (s : RSt) : (readS k v u c l kind s).2.1.length ≤ s.1.length := by
  unfold readS
  dsimp only
  refine Nat.le_trans (rNums_len _ _) ?_
  have h1 : (if k then rTxt s else (([] : List (BitVec 8)), s)).2.1.length ≤ s.1.length := by
    cases k
    · exact Nat.le_refl _
    · exact rTxt_len s
  have h2 : ∀ t : RSt, (if v then rTxt t else (([] : List (BitVec 8)), t)).2.1.length ≤ t.1.length := fun t => by
    cases v
    · exact Nat.le_refl _
    · exact rTxt_len t
  have h3 : ∀ t : RSt, (if u then (toI (rNum t 8).1, (rNum t 8).2) else ((0 : Int), t)).2.1.length ≤ t.1.length := fun t => by
    cases u
    · exact Nat.le_refl _
    · exact rNum_len t 8
  have h4 : ∀ t : RSt, (if c then ((U (rNum t 1).1).toNat, (rNum t 1).2) else (l, t)).2.1.length ≤ t.1.length := fun t => by
    cases c
    · exact Nat.le_refl _
    · exact rNum_len t 1
  exact Nat.le_trans (h4 _) (Nat.le_trans (h3 _) (Nat.le_trans (h2 _) h1))
theorem readK_len (kind : Int) (s : RSt) : (readK kind s).2.1.length ≤ s.1.length := readS_len _ _ _ _ _ _ _
set_option maxRecDepth 100000 in
set_option maxHeartbeats 8000000 in
theorem acts1_seen {b0 : Bool} {n₁ n₀ Bw Bl Bc Br R C l0 L0 l : Nat} {s0 : RSt} {w W0 : World} {Rdy Over : World → Prop}
    (hK : UK n₁ n₀ Bw Bl R l0 L0 W0.heap.size Rdy Over) (hBw : Boxed W0 Bw 4 (.bool b0)) (hBl : Boxed W0 Bl 23 (.slice none 0 0)) (hR : ReadB n₀ R s0 W0)
    (hbc : W0.heap[Bc]? = some (.cells #[.int .i64 C] 3 (0, 0))) (hbr : W0.heap[Br]? = some (.cells #[.pointer (some ⟨R, 0, none⟩)] 40 (0, 0))) (hbel : Below n₁ w W0) (h0 : Rdy W0) (hn : n₀ ≤ W0.heap.size) (htop : L0 ≤ W0.heap.size)
    (hC : C ≤ 65536) (hl : s0.1.length ≤ 1099511627776)
    (hY : ∀ (t : YS) (x : YX) W, Rdy W → L0 ≤ W.heap.size → UPre b0 n₀ Bw Bl t W → YieldAt Fence.wide 1 Try.prog l #[.agg x.cells, .bool x.is] W fun e W' => (e = .returned (.bool true) ∧ Rdy W' ∧ UBody b0 n₀ Bw Bl l0 t x W W') ∨ (e = .returned (.bool false) ∧ Over W' ∧ UStop Bw l0 x W W')) :
    CallsIn Fence.wide 2 Try.prog 33 #[.func (.yield l) #[] #[], .pointer (some ⟨Bc, 0, none⟩), .pointer (some ⟨Br, 0, none⟩)] W0 fun e W' => (∃ v, e = .returned v) ∧ ((Rdy W' ∧ UEnd b0 n₁ n₀ Bw Bl R C s0 w W') ∨ (Over W' ∧ UNot n₁ Bw C s0 w W')) := by
  refine callsIn_wide.2 ?_
  have HK := Lib.hid hK
  have HY := Lib.hid hY
  have HL := Lib.hid hl
  have HC := Lib.hid hC
  have HKI := Lib.hid ((kinds_any W0).mono fun e w1 ⟨he, hk⟩ => show e = Ending.returned (.map (some W0.heap.size)) ∧ UJ b0 n₁ n₀ Bw Bl Bc Br R C L0 W0.heap.size w Rdy [] s0 (.slice none 0 0) w1 from by
    have hb : Below W0.heap.size W0 w1 := hk.bel
    refine ⟨he, (hb.block _ (blk_lt hBw)).trans hBw, (hb.block _ (blk_lt hBl)).trans hBl, OfAt.nil _ _, hR.below hb hn, hk.at_, (hb.block _ (blk_lt hbc)).trans hbc, (hb.block _ (blk_lt hbr)).trans hbr, hbel.trans (hb.mono (Nat.le_trans hK.n10 hn)), hK.rdy _ _ h0 (keepsFrom_rd hR (Moves.of_below hb) _), Nat.le_trans hn hb.size, Nat.le_trans htop hb.size⟩)
  have HLO := Lib.hid hK.lo
  clear hK hBw hBl hR hbc hbr hbel h0 hn htop hY hl hC
  go_enter Try.func33, Try.ntmps33
  go_wp2_with (go_at_call 24; (with_reducible refine HKI.out.mono ?_); rintro e w1 ⟨rfl, hj⟩; have HJ1 := Lib.hid hj; have cbc := blk_cell hj.bc 0; clear hj)
  go_loopw [9] (fun i wr => ∃ (j : Nat) (xs : List SAct) (s : RSt) (v : Value), i = .int .i64 j ∧ j ≤ C ∧ actsR j s0 = some (xs, s) ∧ s.1.length ≤ 1099511627776 ∧ UJ b0 n₁ n₀ Bw Bl Bc Br R C L0 W0.heap.size w Rdy xs s v wr) (fun i _ => C - (intOf i).toNat)
  case atStart => exact ⟨0, [], s0, _, rfl, Nat.zero_le _, actsR_zero s0, HL.out, HJ1.out⟩
  case round =>
    obtain ⟨j, xs, s, v, rfl, hj, hrun, hls, hJ⟩ := hrel
    clear cbc
    by_cases hlt : j < C
    · have j1 : (j : Int) < C := by omega
      have HLT := Lib.hid hlt
      have HJ := Lib.hid hJ
      have HRUN := Lib.hid hrun
      have HLS := Lib.hid hls
      have HAR : Hid (actR s = readK (wrap64 (U (rNum s 1).1)) (rNum s 1).2) := rfl
      have HNU := Lib.hid (hJ.rd.num1 hJ.n0 hls)
      have cbr := blk_cell hJ.br 0
      have hlq : (rNum s 1).2.1.length ≤ 1099511627776 := Nat.le_trans (rNum_len _ _) hls
      have HLQ := Lib.hid hlq
      generalize (rNum s 1).1 = q at HAR HNU
      generalize (rNum s 1).2 = sq at HAR HNU HLQ
      have HRK := Lib.hid (fun W (h : ReadB n₀ R sq W) hn => read_any (wrap64 (U q)) h hn HLQ.out)
      obtain ⟨kd, hkd⟩ : ∃ kd, wrap64 (U q) = kd := ⟨_, rfl⟩
      rw [hkd] at HRK HAR
      clear hlt hj hJ hrun hls hlq HJ1 HKI
      obtain ⟨whV, hwhV⟩ : ∃ x, whatV (kn kd) = x := ⟨_, rfl⟩
      have hlk : ∀ W, W.heap[W0.heap.size]? = some (.map (kindEs 10) 10) → (Instr.lookup 63 (.map (some W0.heap.size)) (.int .i64 kd) false).run Try.prog W = .ok whV W := fun W hm => by
        have := look_any (w := W) ⟨hm, Below.refl _ _⟩ kd false
        rw [← hwhV]
        exact this
      rw [hwhV] at HRK
      have HLK := Lib.hid hlk
      clear hlk
      have HWHV := Lib.hid hwhV
      clear hwhV
      go_upto_region 5 with (first
        | (go_at_call 14; (with_reducible refine HNU.out.mono ?_); rintro e w1 ⟨rfl, hr, hm⟩; have hj2 := HJ.out.moved HK.out hr hm; have HJ2 := Lib.hid hj2; clear cbr; have cbr := blk_cell hj2.br 0; have lk := HLK.out _ hj2.map; clear hj2 hr hm)
        | (go_at_call 34; (with_reducible refine (HRK.out _ HJ2.out.rd HJ2.out.n0).mono ?_); rintro e w2 ⟨a1, c1, a2, c2, a3, c3, rfl, k1, k2, k3, hr, hm⟩; have hj3 := HJ2.out.moved HK.out hr hm; have HJ3 := Lib.hid hj3; have HK1 := Lib.hid k1; have HK2 := Lib.hid k2; have HK3 := Lib.hid k3; clear cbr lk hj3 hr hm k1 k2 k3))
      obtain ⟨xr, hxr⟩ : ∃ xr, (readK kd sq).1 = xr := ⟨_, rfl⟩
      obtain ⟨sr, hsr⟩ : ∃ sr, (readK kd sq).2 = sr := ⟨_, rfl⟩
      have HAX : Hid (actR s = (xr, sr)) := by unfold Hid; rw [HAR.out, ← hxr, ← hsr]
      rw [hxr] at HK1 HK2 HK3
      rw [hsr] at HJ3
      rw [hxr]
      have HSL : Hid (sr.1.length ≤ 1099511627776) := by
        unfold Hid
        rw [← hsr]
        exact Nat.le_trans (readK_len kd sq) HLQ.out
      clear hxr hsr HAR HRK HLQ HNU HJ2 HLK
      have HIS : Hid (actOk s = (!sr.2 && rightA xr)) := by unfold Hid actOk; rw [HAX.out]
      obtain ⟨bad, hbad⟩ : ∃ bad, sr.2 = bad := ⟨_, rfl⟩
      rw [hbad] at HIS
      have HBAD := Lib.hid hbad
      clear hbad
      obtain ⟨y, hy⟩ : ∃ y : YX, YX.mk xr a1 a2 a3 c1 c2 c3 (!bad && rightA xr) = y := ⟨_, rfl⟩
      obtain rfl : y.x = xr := by rw [← hy]
      obtain rfl : y.a1 = a1 := by rw [← hy]
      obtain rfl : y.a2 = a2 := by rw [← hy]
      obtain rfl : y.a3 = a3 := by rw [← hy]
      obtain rfl : y.c1 = c1 := by rw [← hy]
      obtain rfl : y.c2 = c2 := by rw [← hy]
      obtain rfl : y.c3 = c3 := by rw [← hy]
      have HYI : Hid (y.is = (!bad && rightA y.x)) := by unfold Hid; rw [← hy]
      clear hy
      have HP0 : Hid (UPs b0 n₁ n₀ Bw Bl Bc Br R C L0 W0.heap.size w Rdy xs sr v y w2.heap.size (w2.alloc (.cells #[.int .i64 y.x.kind, .slice y.a1 y.x.key.length y.c1, .slice y.a2 y.x.val.length y.c2, .int .i64 y.x.num, .slice y.a3 y.x.nums.length y.c3] 49))) := by
        have hb : Below w2.heap.size w2 (w2.alloc (.cells #[.int .i64 y.x.kind, .slice y.a1 y.x.key.length y.c1, .slice y.a2 y.x.val.length y.c2, .int .i64 y.x.num, .slice y.a3 y.x.nums.length y.c3] 49)) := (Below.refl _ w2).alloc (Nat.le_refl _) _
        exact ⟨HJ3.out.below HK.out hb, heap_alloc_new _ _, HK1.out.on hb, HK2.out.on hb, HK3.out.on hb⟩
      have HXL : Hid (xs.length ≤ 65536) := by unfold Hid; have := actsR_len _ _ _ _ HRUN.out; have := HLT.out; have := HC.out; omega
      have HPS : Hid (∀ W W', UPs b0 n₁ n₀ Bw Bl Bc Br R C L0 W0.heap.size w Rdy xs sr v y w2.heap.size W → Below W.heap.size W W' → UPs b0 n₁ n₀ Bw Bl Bc Br R C L0 W0.heap.size w Rdy xs sr v y w2.heap.size W') := fun W W' h hb => h.below HK.out hb
      have HPT : Hid (∀ W W', UPt b0 n₁ n₀ Bw Bl Bc Br R C L0 W0.heap.size w Rdy Over xs sr y W → Below W.heap.size W W' → UPt b0 n₁ n₀ Bw Bl Bc Br R C L0 W0.heap.size w Rdy Over xs sr y W') := fun W W' h hb => h.below HK.out hb
      clear HK1 HK2 HK3
      generalize (w2.alloc (.cells #[.int .i64 y.x.kind, .slice y.a1 y.x.key.length y.c1, .slice y.a2 y.x.val.length y.c2, .int .i64 y.x.num, .slice y.a3 y.x.nums.length y.c3] 49)) = w3 at HP0 ⊢
      refine (wpIn_wide (n := 2)).1 ?_
      refine wpIn_region_any (by kernel_rfl) ?_
      change wpAnyIn _ _ _ _ _ _ _ _ _ w3.drew
      refine wpAnyIn_ord2 33 (fun i => i) (AcR y R W0.heap.size l bad) (AcB (UPs b0 n₁ n₀ Bw Bl Bc Br R C L0 W0.heap.size w Rdy xs sr v y w2.heap.size) (UPt b0 n₁ n₀ Bw Bl Bc Br R C L0 W0.heap.size w Rdy Over xs sr y)) (AcRel (UPt b0 n₁ n₀ Bw Bl Bc Br R C L0 W0.heap.size w Rdy Over xs sr y)) (by kernel_rfl) rfl ?_ ?_ ?_ ?_ ?_
      · exact HPS.out _ _ HP0.out (Below.refl _ _).drew
      · intro i j' v' W W' _ _ _ _ hr _
        exact hr
      · intro j' listed W W' hnl _ hb hrel
        exact acB_set HPS.out HPT.out hnl hb hrel
      · intro i o ho listed a W h hnl hdeps
        have hi : i < 12 := by have := (Array.getElem?_eq_some_iff.1 ho).1; simpa using this
        have e0 : a.tmps.getD 0 undef = .func (.yield l) #[] #[] := h.free 0 (by kernel_rfl)
        have f0 := (Array.getD_eq_getD_getElem? (xs := a.tmps) (i := 0) (d := undef)).symm.trans e0
        have e2 : a.tmps.getD 2 undef = .pointer (some ⟨Br, 0, none⟩) := h.free 2 (by kernel_rfl)
        have f2 := (Array.getD_eq_getD_getElem? (xs := a.tmps) (i := 2) (d := undef)).symm.trans e2
        have e4 : a.tmps.getD 4 undef = .map (some W0.heap.size) := h.free 4 (by kernel_rfl)
        have f4 := (Array.getD_eq_getD_getElem? (xs := a.tmps) (i := 4) (d := undef)).symm.trans e4
        have e6 : a.tmps.getD 6 undef = .pointer (some ⟨w2.heap.size, 0, none⟩) := h.free 6 (by kernel_rfl)
        have f6 := (Array.getD_eq_getD_getElem? (xs := a.tmps) (i := 6) (d := undef)).symm.trans e6
        have h9 : i = 0 ∨ i = 1 ∨ i = 2 ∨ i = 3 ∨ i = 4 ∨ i = 5 ∨ i = 6 ∨ i = 7 ∨ i = 8 ∨ i = 9 ∨ i = 10 ∨ i = 11 := by omega
        have hbase := h.base
        unfold AcB at hbase
        rcases h9 with rfl | rfl | rfl | rfl | rfl | rfl | rfl | rfl | rfl | rfl | rfl | rfl
        · cases ho
          refine wpOpIn_step rfl (fun K' hK' => ?_)
          go_simp
          exact hK' _ _ ⟨_, rfl, rfl, (show AcRel _ _ _ _ from by unfold AcRel; rw [if_neg (by decide)]; exact Below.refl _ _)⟩
        · cases ho
          have hn : listed.getD 10 false = false := h.yet hnl 10 (by kernel_rfl)
          rw [hn, if_neg (by decide)] at hbase
          have z0 := blk_cell hbase.act 0
          have z1 := blk_cell hbase.act 1
          have z2 := blk_cell hbase.act 2
          have z3 := blk_cell hbase.act 3
          have z4 := blk_cell hbase.act 4
          refine wpOpIn_step rfl (fun K' hK' => ?_)
          go_simp
          exact hK' _ _ ⟨_, rfl, rfl, (show AcRel _ _ _ _ from by unfold AcRel; rw [if_neg (by decide)]; exact Below.refl _ _)⟩
        · cases ho
          have hn : listed.getD 10 false = false := h.yet hnl 10 (by kernel_rfl)
          rw [hn, if_neg (by decide)] at hbase
          have z0 := blk_cell hbase.j.br 0
          refine wpOpIn_step rfl (fun K' hK' => ?_)
          go_simp
          exact hK' _ _ ⟨_, rfl, rfl, (show AcRel _ _ _ _ from by unfold AcRel; rw [if_neg (by decide)]; exact Below.refl _ _)⟩
        · cases ho
          have hn : listed.getD 10 false = false := h.yet hnl 10 (by kernel_rfl)
          rw [hn, if_neg (by decide)] at hbase
          have e22 : a.tmps.getD 22 undef = .pointer (some ⟨R, 0, none⟩) := h.got 2 _ 22 rfl (hdeps ⟨2, .data⟩ (by simp) rfl) (.inr rfl) rfl
          have f22 := (Array.getD_eq_getD_getElem? (xs := a.tmps) (i := 22) (d := undef)).symm.trans e22
          have hbd := hbase.j.rd.bad hbase.j.n0
          rw [HBAD.out] at hbd
          have hbd := callsIn_wide (n := 1).2 hbd
          refine wpOpIn_step rfl (fun K' hK' => ?_)
          go_simp
          refine ⟨trivial, hbd.mono ?_⟩
          rintro e w' ⟨rfl, rfl⟩
          exact hK' _ _ ⟨_, rfl, rfl, (show AcRel _ _ _ _ from by unfold AcRel; rw [if_neg (by decide)]; exact Below.refl _ _)⟩
        · cases ho
          have e23 : a.tmps.getD 23 undef = .bool bad := h.got 3 _ 23 rfl (hdeps ⟨3, .data⟩ (by simp) rfl) (.inr rfl) rfl
          have f23 := (Array.getD_eq_getD_getElem? (xs := a.tmps) (i := 23) (d := undef)).symm.trans e23
          refine wpOpIn_step rfl (fun K' hK' => ?_)
          go_simp
          exact hK' _ _ ⟨_, rfl, rfl, (show AcRel _ _ _ _ from by unfold AcRel; rw [if_neg (by decide)]; exact Below.refl _ _)⟩
        · cases ho
          have e24 : a.tmps.getD 24 undef = .bool (!bad) := h.got 4 _ 24 rfl (hdeps ⟨4, .data⟩ (by simp) rfl) (.inr rfl) rfl
          have f24 := (Array.getD_eq_getD_getElem? (xs := a.tmps) (i := 24) (d := undef)).symm.trans e24
          refine wpOpIn_step rfl (fun K' hK' => ?_)
          go_simp
          exact hK' _ _ ⟨_, rfl, rfl, (show AcRel _ _ _ _ from by unfold AcRel; rw [if_neg (by decide)]; exact Below.refl _ _)⟩
        · cases ho
          have e25 : a.tmps.getD 25 undef = .bool (!bad) := h.got 5 _ 25 rfl (hdeps ⟨5, .guard⟩ (by simp) rfl) (.inr rfl) rfl
          have f25 := (Array.getD_eq_getD_getElem? (xs := a.tmps) (i := 25) (d := undef)).symm.trans e25
          cases bad with
          | false =>
            have g25 : a.tmps[25]? = some (.bool true) := tmp_some (h.size.trans (show _ = 33 from rfl)) (by decide) e25
            refine wpOpIn_step rfl (fun K' hK' => ?_)
            go_simp
            exact hK' _ _ ⟨_, rfl, (fun _ => rfl), (show AcRel _ _ _ _ from by unfold AcRel; rw [if_neg (by decide)]; exact Below.refl _ _)⟩
          | true =>
            have g25 : a.tmps[25]? = some (.bool false) := tmp_some (h.size.trans (show _ = 33 from rfl)) (by decide) e25
            refine wpOpIn_step rfl (fun K' hK' => ?_)
            go_simp
            exact hK' _ _ ⟨_, rfl, (fun h => by cases h), (show AcRel _ _ _ _ from by unfold AcRel; rw [if_neg (by decide)]; exact Below.refl _ _)⟩
        · cases ho
          have hn : listed.getD 10 false = false := h.yet hnl 10 (by kernel_rfl)
          rw [hn, if_neg (by decide)] at hbase
          have z0 := blk_cell hbase.act 0
          have z1 := blk_cell hbase.act 1
          have z2 := blk_cell hbase.act 2
          have z3 := blk_cell hbase.act 3
          have z4 := blk_cell hbase.act 4
          have e25 : a.tmps.getD 25 undef = .bool (!bad) := h.got 5 _ 25 rfl (hdeps ⟨5, .guard⟩ (by simp) rfl) (.inr rfl) rfl
          have f25 := (Array.getD_eq_getD_getElem? (xs := a.tmps) (i := 25) (d := undef)).symm.trans e25
          cases bad with
          | false =>
            have g25 : a.tmps[25]? = some (.bool true) := tmp_some (h.size.trans (show _ = 33 from rfl)) (by decide) e25
            refine wpOpIn_step rfl (fun K' hK' => ?_)
            go_simp
            exact hK' _ _ ⟨_, rfl, (fun _ => rfl), (show AcRel _ _ _ _ from by unfold AcRel; rw [if_neg (by decide)]; exact Below.refl _ _)⟩
          | true =>
            have g25 : a.tmps[25]? = some (.bool false) := tmp_some (h.size.trans (show _ = 33 from rfl)) (by decide) e25
            refine wpOpIn_step rfl (fun K' hK' => ?_)
            go_simp
            exact hK' _ _ ⟨_, rfl, (fun h => by cases h), (show AcRel _ _ _ _ from by unfold AcRel; rw [if_neg (by decide)]; exact Below.refl _ _)⟩
        · cases ho
          have hn : listed.getD 10 false = false := h.yet hnl 10 (by kernel_rfl)
          rw [hn, if_neg (by decide)] at hbase
          have e25 : a.tmps.getD 25 undef = .bool (!bad) := h.got 5 _ 25 rfl (hdeps ⟨5, .guard⟩ (by simp) rfl) (.inr rfl) rfl
          have f25 := (Array.getD_eq_getD_getElem? (xs := a.tmps) (i := 25) (d := undef)).symm.trans e25
          cases bad with
          | false =>
            have g25 : a.tmps[25]? = some (.bool true) := tmp_some (h.size.trans (show _ = 33 from rfl)) (by decide) e25
            have e26 : a.tmps.getD 26 undef = .map (some W0.heap.size) := h.got 6 _ 26 rfl (hdeps ⟨6, .data⟩ (by simp) rfl) (.inr rfl) rfl rfl
            have f26 := (Array.getD_eq_getD_getElem? (xs := a.tmps) (i := 26) (d := undef)).symm.trans e26
            have e27 : a.tmps.getD 27 undef = .agg #[.int .i64 y.x.kind, .slice y.a1 y.x.key.length y.c1, .slice y.a2 y.x.val.length y.c2, .int .i64 y.x.num, .slice y.a3 y.x.nums.length y.c3] := h.got 7 _ 27 rfl (hdeps ⟨7, .data⟩ (by simp) rfl) (.inr rfl) rfl rfl
            have f27 := (Array.getD_eq_getD_getElem? (xs := a.tmps) (i := 27) (d := undef)).symm.trans e27
            have hrt := callsIn_wide (n := 1).2 (right_any (w0 := W) ⟨hbase.j.map, Below.refl _ _⟩ y.x y.a1 y.a2 y.a3 y.c1 y.c2 y.c3)
            refine wpOpIn_step rfl (fun K' hK' => ?_)
            go_simp
            refine ⟨trivial, hrt.mono ?_⟩
            rintro e w' ⟨rfl, hb⟩
            exact hK' _ _ ⟨_, rfl, (fun _ => rfl), (show AcRel _ _ _ _ from by unfold AcRel; rw [if_neg (by decide)]; exact hb)⟩
          | true =>
            have g25 : a.tmps[25]? = some (.bool false) := tmp_some (h.size.trans (show _ = 33 from rfl)) (by decide) e25
            refine wpOpIn_step rfl (fun K' hK' => ?_)
            go_simp
            exact ⟨trivial, hK' _ _ ⟨_, rfl, (fun h => by cases h), (show AcRel _ _ _ _ from by unfold AcRel; rw [if_neg (by decide)]; exact Below.refl _ _)⟩⟩
        · cases ho
          have e25 : a.tmps.getD 25 undef = .bool (!bad) := h.got 5 _ 25 rfl (hdeps ⟨5, .data⟩ (by simp) rfl) (.inr rfl) rfl
          have f25 := (Array.getD_eq_getD_getElem? (xs := a.tmps) (i := 25) (d := undef)).symm.trans e25
          have e28 := h.got 8 _ 28 rfl (hdeps ⟨8, .data⟩ (by simp) rfl) (.inr rfl) rfl
          cases bad with
          | false =>
            have e28 : a.tmps.getD 28 undef = .bool (rightA y.x) := e28 rfl
            have f28 := (Array.getD_eq_getD_getElem? (xs := a.tmps) (i := 28) (d := undef)).symm.trans e28
            have hyi : rightA y.x = y.is := HYI.out.symm
            rw [hyi] at f28
            clear hyi e28
            refine wpOpIn_step rfl (fun K' hK' => ?_)
            go_simp
            exact hK' _ _ ⟨_, rfl, rfl, (show AcRel _ _ _ _ from by unfold AcRel; rw [if_neg (by decide)]; exact Below.refl _ _)⟩
          | true =>
            have hyi : Hid (y.is = false) := HYI.out
            refine wpOpIn_step rfl (fun K' hK' => ?_)
            go_simp
            exact hK' _ _ ⟨_, rfl, (show Value.bool false = Value.bool y.is from by rw [hyi.out]), (show AcRel _ _ _ _ from by unfold AcRel; rw [if_neg (by decide)]; exact Below.refl _ _)⟩
        · cases ho
          have hn : listed.getD 10 false = false := notl hnl
          rw [hn, if_neg (by decide)] at hbase
          have e20 : a.tmps.getD 20 undef = .func (.yield l) #[] #[] := h.got 0 _ 20 rfl (hdeps ⟨0, .data⟩ (by simp) rfl) (.inr rfl) rfl
          have f20 := (Array.getD_eq_getD_getElem? (xs := a.tmps) (i := 20) (d := undef)).symm.trans e20
          have e21 : a.tmps.getD 21 undef = .agg #[.int .i64 y.x.kind, .slice y.a1 y.x.key.length y.c1, .slice y.a2 y.x.val.length y.c2, .int .i64 y.x.num, .slice y.a3 y.x.nums.length y.c3] := h.got 1 _ 21 rfl (hdeps ⟨1, .data⟩ (by simp) rfl) (.inr rfl) rfl
          have f21 := (Array.getD_eq_getD_getElem? (xs := a.tmps) (i := 21) (d := undef)).symm.trans e21
          have e29 : a.tmps.getD 29 undef = .bool y.is := h.got 9 _ 29 rfl (hdeps ⟨9, .data⟩ (by simp) rfl) (.inr rfl) rfl
          have f29 := (Array.getD_eq_getD_getElem? (xs := a.tmps) (i := 29) (d := undef)).symm.trans e29
          obtain ⟨fn, tmps, assign, bdy, hy, hR⟩ := yield_any (m' := 1) (hbase.yielded HK.out HXL.out HY.out)
          unfold YX.cells actC at hy
          refine wpOpIn_step rfl (fun K' hK' => ?_)
          go_simp
          refine hR.mono ?_
          rintro e w' ⟨rfl, hp⟩
          exact hK' _ _ ⟨_, rfl, rfl, (show AcRel _ _ _ _ from by unfold AcRel; rw [if_pos rfl]; exact hp)⟩
        · cases ho
          have e30 : a.tmps.getD 30 undef = .bool y.is := h.got 10 _ 30 rfl (hdeps ⟨10, .data⟩ (by simp) rfl) (.inr rfl) rfl
          have f30 := (Array.getD_eq_getD_getElem? (xs := a.tmps) (i := 30) (d := undef)).symm.trans e30
          refine wpOpIn_step rfl (fun K' hK' => ?_)
          go_simp
          exact hK' _ _ ⟨_, rfl, rfl, (show AcRel _ _ _ _ from by unfold AcRel; rw [if_neg (by decide)]; exact Below.refl _ _)⟩
      · intro a W h
        have f0 : a.tmps.getD 0 undef = .func (.yield l) #[] #[] := h.free 0 (by kernel_rfl)
        have f1 : a.tmps.getD 1 undef = .pointer (some ⟨Bc, 0, none⟩) := h.free 1 (by kernel_rfl)
        have f2 : a.tmps.getD 2 undef = .pointer (some ⟨Br, 0, none⟩) := h.free 2 (by kernel_rfl)
        have f3 : a.tmps.getD 3 undef = undef := h.free 3 (by kernel_rfl)
        have f4 : a.tmps.getD 4 undef = .map (some W0.heap.size) := h.free 4 (by kernel_rfl)
        have f5 : a.tmps.getD 5 undef = .int .i64 kd := h.free 5 (by kernel_rfl)
        have f6 : a.tmps.getD 6 undef = .pointer (some ⟨w2.heap.size, 0, none⟩) := h.free 6 (by kernel_rfl)
        have f7 : a.tmps.getD 7 undef = .map (some W0.heap.size) := h.free 7 (by kernel_rfl)
        have f8 : a.tmps.getD 8 undef = .int .i64 C := h.free 8 (by kernel_rfl)
        have f9 : a.tmps.getD 9 undef = .int .i64 j := h.free 9 (by kernel_rfl)
        have f10 : a.tmps.getD 10 undef = .bool true := h.free 10 (by kernel_rfl)
        have f11 : a.tmps.getD 11 undef = .pointer (some ⟨R, 0, none⟩) := h.free 11 (by kernel_rfl)
        have f12 : a.tmps.getD 12 undef = .int .u64 (U q) := h.free 12 (by kernel_rfl)
        have f13 : a.tmps.getD 13 undef = .int .i64 kd := h.free 13 (by kernel_rfl)
        have f14 : a.tmps.getD 14 undef = .map (some W0.heap.size) := h.free 14 (by kernel_rfl)
        have f15 : a.tmps.getD 15 undef = .int .i64 kd := h.free 15 (by kernel_rfl)
        have f16 : a.tmps.getD 16 undef = whV := h.free 16 (by kernel_rfl)
        have f17 : a.tmps.getD 17 undef = .pointer (some ⟨R, 0, none⟩) := h.free 17 (by kernel_rfl)
        have f18 : a.tmps.getD 18 undef = .int .i64 kd := h.free 18 (by kernel_rfl)
        have f19 : a.tmps.getD 19 undef = .agg #[.int .i64 y.x.kind, .slice y.a1 y.x.key.length y.c1, .slice y.a2 y.x.val.length y.c2, .int .i64 y.x.num, .slice y.a3 y.x.nums.length y.c3] := h.free 19 (by kernel_rfl)
        have f32 : a.tmps.getD 32 undef = u32 := h.free 32 (by kernel_rfl)
        have f31 : a.tmps.getD 31 undef = .bool (!y.is) := h.got 11 _ 31 rfl (by simp) (.inr rfl) rfl
        have ea := arr_eq a.tmps 33 h.size
        have ed := h.defers
        have hb := h.base
        unfold AcB at hb
        rw [if_pos (by kernel_rfl)] at hb
        have HB := Lib.hid hb
        clear h hb
        obtain ⟨t, ds⟩ := a
        replace ed : ds = [] := ed
        subst ed
        replace f0 : t.getD 0 undef = .func (.yield l) #[] #[] := f0
        replace f1 : t.getD 1 undef = .pointer (some ⟨Bc, 0, none⟩) := f1
        replace f2 : t.getD 2 undef = .pointer (some ⟨Br, 0, none⟩) := f2
        replace f3 : t.getD 3 undef = undef := f3
        replace f4 : t.getD 4 undef = .map (some W0.heap.size) := f4
        replace f5 : t.getD 5 undef = .int .i64 kd := f5
        replace f6 : t.getD 6 undef = .pointer (some ⟨w2.heap.size, 0, none⟩) := f6
        replace f7 : t.getD 7 undef = .map (some W0.heap.size) := f7
        replace f8 : t.getD 8 undef = .int .i64 C := f8
        replace f9 : t.getD 9 undef = .int .i64 j := f9
        replace f10 : t.getD 10 undef = .bool true := f10
        replace f11 : t.getD 11 undef = .pointer (some ⟨R, 0, none⟩) := f11
        replace f12 : t.getD 12 undef = .int .u64 (U q) := f12
        replace f13 : t.getD 13 undef = .int .i64 kd := f13
        replace f14 : t.getD 14 undef = .map (some W0.heap.size) := f14
        replace f15 : t.getD 15 undef = .int .i64 kd := f15
        replace f16 : t.getD 16 undef = whV := f16
        replace f17 : t.getD 17 undef = .pointer (some ⟨R, 0, none⟩) := f17
        replace f18 : t.getD 18 undef = .int .i64 kd := f18
        replace f19 : t.getD 19 undef = .agg #[.int .i64 y.x.kind, .slice y.a1 y.x.key.length y.c1, .slice y.a2 y.x.val.length y.c2, .int .i64 y.x.num, .slice y.a3 y.x.nums.length y.c3] := f19
        replace f32 : t.getD 32 undef = u32 := f32
        replace f31 : t.getD 31 undef = .bool (!y.is) := f31
        replace ea : t = #[t.getD 0 undef, t.getD 1 undef, t.getD 2 undef, t.getD 3 undef, t.getD 4 undef, t.getD 5 undef, t.getD 6 undef, t.getD 7 undef, t.getD 8 undef, t.getD 9 undef, t.getD 10 undef, t.getD 11 undef, t.getD 12 undef, t.getD 13 undef, t.getD 14 undef, t.getD 15 undef, t.getD 16 undef, t.getD 17 undef, t.getD 18 undef, t.getD 19 undef, t.getD 20 undef, t.getD 21 undef, t.getD 22 undef, t.getD 23 undef, t.getD 24 undef, t.getD 25 undef, t.getD 26 undef, t.getD 27 undef, t.getD 28 undef, t.getD 29 undef, t.getD 30 undef, t.getD 31 undef, t.getD 32 undef] := ea
        rw [f0, f1, f2, f3, f4, f5, f6, f7, f8, f9, f10, f11, f12, f13, f14, f15, f16, f17, f18, f19, f32, f31] at ea
        generalize t.getD 20 undef = v20 at ea
        generalize t.getD 21 undef = v21 at ea
        generalize t.getD 22 undef = v22 at ea
        generalize t.getD 23 undef = v23 at ea
        generalize t.getD 24 undef = v24 at ea
        generalize t.getD 25 undef = v25 at ea
        generalize t.getD 26 undef = v26 at ea
        generalize t.getD 27 undef = v27 at ea
        generalize t.getD 28 undef = v28 at ea
        generalize t.getD 29 undef = v29 at ea
        generalize t.getD 30 undef = v30 at ea
        subst ea
        clear f0 f1 f2 f3 f4 f5 f6 f7 f8 f9 f10 f11 f12 f13 f14 f15 f16 f17 f18 f19 f32 f31
        rcases HB.out with ⟨hy, v', hj⟩ | ⟨hy, ho, b1, b2, b3, b4⟩
        · have HJN := Lib.hid hj
          have HAK : Hid (actOk s = true) := by unfold Hid; rw [HIS.out, ← HYI.out]; exact hy
          have HSN : Hid (actsR (j + 1) s0 = some (xs ++ [y.x], sr)) := by
            have := actsR_snoc j s0 xs s HRUN.out HAK.out
            rw [HAX.out] at this
            exact this
          rw [hy]
          clear hj hy
          have hjs : (j : Int) ≤ 65536 := by have := HC.out; have := HLT.out; omega
          have HJS := Lib.hid hjs
          go_wp2
          go_roundw
          case rel => exact ⟨j + 1, xs ++ [y.x], sr, v', by go_num, HLT.out, HSN.out, HSL.out, HJN.out⟩
          case measure => have := HLT.out; have := HJS.out; simp [intOf]; omega
        · have HAK : Hid (actOk s = false) := by unfold Hid; rw [HIS.out, ← HYI.out]; exact hy
          have HF : Hid (Over W ∧ UNot n₁ Bw C s0 w W) := ⟨ho, actsR_stop j s0 xs s HRUN.out HAK.out C HLT.out, b1, b4⟩
          rw [hy]
          clear ho b1 b2 b3 b4 hy
          go_wp2
          exact bodyPost_ret (results_none rfl _ _ _) rfl ⟨⟨_, rfl⟩, .inr HF.out⟩
    · have hjC : j = C := by omega
      have jn : ¬ (j : Int) < C := by omega
      have HF : Hid (Rdy wr ∧ UEnd b0 n₁ n₀ Bw Bl R C s0 w wr) := ⟨hJ.rdy, xs, s, v, by rw [← hjC]; exact hrun, hJ.bw, hJ.bl, hJ.row, hJ.rd, hls, hJ.bel⟩
      clear hJ hrun hls hj hlt hjC
      go_wp2
      go_end0
      exact ⟨⟨_, rfl⟩, .inl HF.out⟩
end Go.Proofs.Ytgaabclgoolalaa
namespace Go.Proofs.Ytgaabclgoolalaa
open Go.RowKit Go.Shelf
attribute [local go_sem] Oper.semAt_some

/-- What Unpack answers, there. -/
def UnpRet (bs : List (BitVec 8)) (w : World) (e : Ending) (w' : World) : Prop := ∃ u, e = .returned (.tuple #[u, .int .i64 (unpS bs).2]) ∧ ActsAt w'.heap.size w' u (unpS bs).1 ∧ Below w.heap.size w w'
set_option maxRecDepth 100000 in
set_option maxHeartbeats 8000000 in
theorem unpack_in (v : Value) (bs : List (BitVec 8)) (w : World) (hu : BytesAt w.heap.size w v bs) (hl : bs.length ≤ 1099511627776) (hc : U (rNum (bs, false) 4).1 ≤ 65536) :
    CallsIn Fence.wide 3 Try.prog 6 #[v] w (UnpRet bs w) := by
  have HN := Lib.hid (callsIn_wide (n := 2).2 (newB_any v bs w hu hl))
  have HL := Lib.hid hl
  have t1 : Fence.wide.fn 13 := trivial
  have t2 : Fence.wide.fn 14 := trivial
  have t3 : Fence.wide.fn 15 := trivial
  have t4 : Fence.wide.fn 16 := trivial
  have t5 : Fence.wide.fn 17 := trivial
  obtain ⟨a, c, rfl, _⟩ := hu
  clear hl
  have HQ := Lib.hid (fun n₀ R W (h : ReadB n₀ R (bs, false) W) (hn : n₀ ≤ W.heap.size) => callsIn_wide (n := 2).2 (show Calls Try.prog 14 #[.pointer (some ⟨R, 0, none⟩), .int .i64 4] W (RdNum n₀ R (rNum (bs, false) 4).1 (rNum (bs, false) 4).2 W) from h.num4 hn HL.out))
  have HUS : Hid (unpS bs = if (rNum (bs, false) 4).2.2 then (([], 5) : List SAct × Int) else match actsR (U (rNum (bs, false) 4).1).toNat (rNum (bs, false) 4).2 with
    | none => (([], 5) : List SAct × Int)
    | some (l, s) => if s.1.length = 0 then (l, 0) else ([], 5)) := by
    unfold Hid unpS
    rw [if_neg (by omega)]
    rfl
  have hln : (rNum (bs, false) 4).2.1.length ≤ 1099511627776 := Nat.le_trans (rNum_len _ _) HL.out
  generalize (rNum (bs, false) 4).1 = q at HQ hc HUS
  generalize (rNum (bs, false) 4).2 = s2 at HQ HUS hln
  have hq0 := U_nonneg q
  obtain ⟨C, hC⟩ : ∃ C : Nat, U q = C := ⟨(U q).toNat, by omega⟩
  have HQ : Hid (∀ n₀ R W, ReadB n₀ R (bs, false) W → n₀ ≤ W.heap.size → CallsIn Fence.wide 2 Try.prog 14 #[.pointer (some ⟨R, 0, none⟩), .int .i64 4] W fun e W' => e = Ending.returned (.int .u64 C) ∧ ReadB n₀ R s2 W' ∧ Moves (rS R) W W') := fun n₀ R W h hn => (HQ.out n₀ R W h hn).mono fun e W' ⟨h1, h2, h3⟩ => ⟨by rw [← hC]; exact h1, h2, h3⟩
  rw [hC] at hc HUS
  rw [Int.toNat_natCast] at HUS
  have hc2 : C ≤ 65536 := by omega
  have HC := Lib.hid hc2
  have HLN := Lib.hid hln
  have hwr : wrap64 (C : Int) = C := IntWalk.wrap64_in _ (by omega)
  clear hC hq0 hc2 hln
  obtain ⟨bad, hbad⟩ : ∃ bad, s2.2 = bad := ⟨_, rfl⟩
  have HBAD := Lib.hid hbad
  clear hbad
  rw [HBAD.out] at HUS
  refine callsIn_of_wp_marks Try.func6 rfl trivial ?_ rfl
  simp only [Try.ntmps6, List.size_toArray, List.length_cons, List.length_nil, Nat.reduceAdd, Nat.reduceSub, Array.replicate_succ, Array.replicate_zero, List.push_toArray, List.append_toArray, List.nil_append, List.cons_append]
  gi_wp2
  refine wpIn_scope_straight ?_
  gi_wp2_with (first
    | (gi_at_call 13; (with_reducible refine HN.out.mono ?_); rintro e w1 ⟨R, rfl, hR, hr, hb⟩; have HRD := Lib.hid hr; have HB1 := Lib.hid hb; have HRR := Lib.hid hR; clear hR hr hb)
    | (gi_at_call 14; (with_reducible refine (HQ.out _ _ _ HRD.out (Nat.le_refl _)).mono ?_); rintro e w2 ⟨rfl, hr2, hm⟩; have HBD := Lib.hid (callsIn_wide (n := 2).2 (hr2.bad hm.size)); rw [HBAD.out] at HBD; have HR2 := Lib.hid hr2; have HM := Lib.hid hm; clear hr2 hm)
    | (gi_at_call 15; (with_reducible refine HBD.out.mono ?_); rintro e w3 ⟨rfl, rfl⟩)
    | (gi_at_call 16; (with_reducible refine (callsIn_wide (n := 2).2 (acts_any _ _ _)).mono ?_); rintro e w4 ⟨rfl, rfl⟩))
  refine wpIn_label ?_
  gi_wp2_with (gi_at_call 16; (with_reducible refine (callsIn_wide (n := 2).2 (acts_any _ _ _)).mono ?_); rintro e w4 ⟨rfl, rfl⟩)
  rename_i K hK
  have HKK := Lib.hid hK
  clear hK
  obtain ⟨w5, hw5⟩ : ∃ w5, (((w2.alloc (.cells #[.bool (!bad)] 4)).alloc (.cells #[.slice none 0 0] 23)).alloc (.cells #[.pointer (some ⟨R, 0, none⟩)] 40)).alloc (.cells #[.int .i64 C] 3) = w5 := ⟨_, rfl⟩
  obtain ⟨wA, hwA⟩ : ∃ wA, w2.alloc (.cells #[.bool (!bad)] 4) = wA := ⟨_, rfl⟩
  obtain ⟨wB, hwB⟩ : ∃ wB, wA.alloc (.cells #[.slice none 0 0] 23) = wB := ⟨_, rfl⟩
  obtain ⟨wC, hwC⟩ : ∃ wC, wB.alloc (.cells #[.pointer (some ⟨R, 0, none⟩)] 40) = wC := ⟨_, rfl⟩
  rw [hwA, hwB, hwC] at hw5
  have zA : wA.heap.size = w2.heap.size + 1 := by rw [← hwA]; simp
  have zB : wB.heap.size = w2.heap.size + 2 := by rw [← hwB]; simp [zA]
  have zC : wC.heap.size = w2.heap.size + 3 := by rw [← hwC]; simp [zB]
  have z5 : w5.heap.size = w2.heap.size + 4 := by rw [← hw5]; simp [zC]
  have bBw : Boxed w5 w2.heap.size 4 (.bool (!bad)) := by
    rw [← hw5, ← hwC, ← hwB, ← hwA]
    exact (((Boxed.new w2 _ _).alloc _).alloc _).alloc _
  have bBl : Boxed w5 (w2.heap.size + 1) 23 (.slice none 0 0) := by
    have := ((Boxed.new wA 23 (.slice none 0 0)).alloc (.cells #[.pointer (some ⟨R, 0, none⟩)] 40)).alloc (.cells #[.int .i64 C] 3)
    rw [hwB, hwC, hw5, zA] at this
    exact this
  have bBr : w5.heap[w2.heap.size + 2]? = some (.cells #[.pointer (some ⟨R, 0, none⟩)] 40 (0, 0)) := by
    have := blk_alloc (heap_alloc_new wB (.cells #[.pointer (some ⟨R, 0, none⟩)] 40)) (.cells #[.int .i64 C] 3)
    rw [hwC, hw5, zB] at this
    exact this
  have bBc : w5.heap[w2.heap.size + 3]? = some (.cells #[.int .i64 C] 3 (0, 0)) := by
    have := heap_alloc_new wC (.cells #[.int .i64 C] 3)
    rw [hw5, zC] at this
    exact this
  have b5 : Below w2.heap.size w2 w5 := by
    rw [← hw5, ← hwC, ← hwB, ← hwA]
    exact ((((Below.refl _ w2).alloc (Nat.le_refl _) _).alloc (by simp) _).alloc (by simp only [World.size_alloc]; omega) _).alloc (by simp only [World.size_alloc]; omega) _
  rw [hwA, hwB, hwC, hw5]
  clear hwA hwB hwC hw5 zA zB zC
  have hn01 : w1.heap.size ≤ w2.heap.size := HM.out.size
  have hn1 : w.heap.size ≤ w1.heap.size := HB1.out.size
  have hbel2 : Below w.heap.size w w2 := HB1.out.trans (HM.out.below (fun i hi => by rw [show i = R from hi]; exact HRR.out) hn1)
  have hbel5 : Below w.heap.size w w5 := hbel2.trans (b5.mono hbel2.size)
  have hR5 : ReadB w1.heap.size R s2 w5 := HR2.out.below b5 hn01
  refine rangeFunc_seenBC (F := Fence.wide) (α := YX) (γ := YS) rfl (by decide) (gf := 33) (lb := #[.pointer (some ⟨w2.heap.size + 1 + 1 + 1, 0, none⟩), .pointer (some ⟨w2.heap.size + 1 + 1, 0, none⟩)]) rfl trivial (enters_of Try.func33 (by kernel_rfl) rfl)
    (encs := fun y : YX => #[.agg y.cells, .bool y.is]) (fun _ => rfl) 49 YX.cells (fun y b => { tmps := #[.slice a bs.length c, undef, .slice none 0 0, .int .i64 0, .pointer (some ⟨R, 0, none⟩), .int .u64 C, .pointer (some ⟨w2.heap.size, 0, none⟩), .pointer (some ⟨w2.heap.size + 1, 0, none⟩), .pointer (some ⟨b, 0, none⟩), .bool y.is, .slice a bs.length c, .pointer (some ⟨R, 0, none⟩), .pointer (some ⟨R, 0, none⟩), .int .u64 C, .int .u64 C, .bool (decide ((65536 : Int) < C)), .pointer (some ⟨R, 0, none⟩), .bool bad, .bool (!bad), .pointer (some ⟨R, 0, none⟩), .int .u64 C, .int .i64 C, .func (.func 33) #[] #[.pointer (some ⟨w2.heap.size + 1 + 1 + 1, 0, none⟩), .pointer (some ⟨w2.heap.size + 1 + 1, 0, none⟩)], .agg y.cells, .bool y.is, undef, undef, undef, undef, undef, undef, undef, undef, undef, undef, undef, undef, undef, undef, undef], defers := [] })
    (UPre (!bad) w1.heap.size w2.heap.size (w2.heap.size + 1)) (UBody (!bad) w1.heap.size w2.heap.size (w2.heap.size + 1) (w5.heap.size + 1)) (fun _ y => UStop w2.heap.size (w5.heap.size + 1) y) (UEnd (!bad) w.heap.size w1.heap.size w2.heap.size (w2.heap.size + 1) R C s2 w) (UNot w.heap.size w2.heap.size C s2 w) 0
    (fun s W l o o' _ hl ho h => h.turn hl ho)
    (fun s x W W' l o o1 o2 o' e hl ho hl' ho1 h => by subst e; exact h.turn hl' ho1)
    (fun s x W W' l o o1 o2 o' e hl ho hl' ho1 h => by subst e; exact h.turn hl' ho1)
    (fun W l o o' e hl ho h => h.turn (by omega) hl ho)
    (fun W l o o' e hl ho h => h.turn (by omega) (by omega) hl ho)
    (fun s W o h => h.al o)
    (fun s x W W' o _ h => h.al)
    (fun s x W W' o _ h => h.al) ?ass ?body ?call ?done ?left
  case ass =>
    intro l y W b K hb hK2
    subst hb
    unfold YX.cells actC at hK2 ⊢
    gi_wp2
    exact hK2
  case body =>
    rintro l ⟨cs, n, lv⟩ y b W ⟨hw, hv, hrow, hlen⟩ hb hbk hle
    have hw : Boxed W w2.heap.size 4 (.bool (!bad)) := hw
    have hv : Boxed W (w2.heap.size + 1) 23 lv := hv
    have hrow : W.ownsRow w1.heap.size 49 5 lv n cs := hrow
    have hlen : n ≤ 65536 := hlen
    cases hy : y.is with
    | false =>
      have fB := hw.frozen
      have cB := hw.cell
      have HY := Lib.hid hy
      have HW := Lib.hid hw
      clear hw hv hrow hlen hbk hle hb hy bBw bBl bBr bBc b5 hn01 hn1 hbel2 hbel5 hR5 z5
      gi_wp2
      refine ⟨(KeepsOthers.setCell W _ _).from _, ⟨HY.out, HW.out.set _, ?_⟩⟩
      exact (Moves.refl _ W).setCell (p := ⟨w2.heap.size, 0, none⟩) (fun _ => .inl rfl) _
    | true =>
      obtain ⟨i0, hi, hz0, hz1, hz2⟩ := info_partsA infoAct
      have d0 : W.cell? ⟨b, 0, none⟩ = some (.int .i64 y.x.kind) := blk_cell hbk 0
      have d1 : W.cell? ⟨b, 1, none⟩ = some (.slice y.a1 y.x.key.length y.c1) := blk_cell hbk 1
      have d2 : W.cell? ⟨b, 2, none⟩ = some (.slice y.a2 y.x.val.length y.c2) := blk_cell hbk 2
      have d3 : W.cell? ⟨b, 3, none⟩ = some (.int .i64 y.x.num) := blk_cell hbk 3
      have d4 : W.cell? ⟨b, 4, none⟩ = some (.slice y.a3 y.x.nums.length y.c3) := blk_cell hbk 4
      have cB := hv.cell
      have hnew : ∀ (j : Nat) (u : Value), y.cells.toList[j]? = some u → (W.alloc (.cells #[.int .i64 y.x.kind, .slice y.a1 y.x.key.length y.c1, .slice y.a2 y.x.val.length y.c2, .int .i64 y.x.num, .slice y.a3 y.x.nums.length y.c3] 49)).cell? ((⟨W.heap.size, 0, none⟩ : Addr).add j) = some u := by
        intro j u hj
        rw [add_plain, Nat.zero_add, blk_cell (heap_alloc_new _ _)]
        rw [Array.getElem?_toList] at hj
        exact hj
      have hbwl : Boxed W w2.heap.size 4 (.bool (!bad)) ∧ lv.ownBlock ≠ some w2.heap.size := ⟨hw, own_ne hrow hw (by decide)⟩
      have HBWL := Lib.hid hbwl
      have HROW := Lib.hid hrow
      have HBX := Lib.hid hv
      have HLE := Lib.hid (show w1.heap.size ≤ W.heap.size from by omega)
      have HL1 := Lib.hid (show w1.heap.size ≤ w2.heap.size + 1 ∧ w2.heap.size + 1 < w5.heap.size from by omega)
      have HLN := Lib.hid hlen
      have HNEW := Lib.hid hnew
      have HY := Lib.hid hy
      clear hw hv hrow hlen hbk hle hb hy hnew hbwl bBw bBl bBr bBc b5 hn01 hn1 hbel2 hbel5 hR5 z5
      gi_wp2_with (gi_at_builtin; (refine wpListIn_append_own_at _ rfl _ _ 23 rfl w1.heap.size 49 i0 _ 5 88 Try.underlying23 hi hz0 hz1 hz2 rfl (by decide) lv n cs rfl (HROW.out.alloc _) ⟨W.heap.size, 0, none⟩ 1 1 y.cells.toList rfl rfl HNEW.out y.one (by have := HLN.out; unfold maxLen; omega) (by have := HLN.out; omega) (by have := HLE.out; simp; omega) ?_); intro v' w9 hown hgrow hnil hat; obtain ⟨g, cc, rfl⟩ := ownsRow_succ hown; obtain ⟨r1, r2, r3, r4, r5⟩ := Boxed.appended HBX.out (by decide) HROW.out HLE.out HL1.out.1 hown hgrow; have cB1 := r1.cell; have fB1 := r1.frozen; have HR2 := Lib.hid r2; have HR3 := Lib.hid r3; have HR4 := Lib.hid r4; have HR5 := Lib.hid r5; have HGR := Lib.hid hgrow; clear hown hgrow hnil hat r1 r2 r3 r4 r5)
      have hmv : Moves (fun k => k = w2.heap.size + 1 ∨ k = w5.heap.size + 1 ∨ lv.ownBlock = some k) W (w9.setCell ⟨w2.heap.size + 1, 0, none⟩ (.slice (some ⟨g, 0, none⟩) (n + 1) cc)) :=
        (((Moves.refl _ W).alloc _).trans (Moves.of_grown HGR.out (S := fun k => k = w2.heap.size + 1 ∨ k = w5.heap.size + 1 ∨ lv.ownBlock = some k) (fun k e => .inr (.inr e))) (fun _ _ h => h)).setCell (p := ⟨w2.heap.size + 1, 0, none⟩) (fun _ => .inl rfl) _
      refine ⟨HR4.out.from _, ⟨HY.out, _, (hmv.block _ HBWL.out.1.lt (fun e => ?_)).trans HBWL.out.1, HR2.out, HR3.out, hmv⟩⟩
      rcases e with e | e | e
      · omega
      · have := HL1.out; omega
      · exact HBWL.out.2 e
  case call =>
    intro l Rdy Over W0 hB hR hO hlo h0 hY
    have hlt : w2.heap.size + 3 < w5.heap.size := by omega
    refine (acts1_seen (b0 := !bad) (n₁ := w.heap.size) (n₀ := w1.heap.size) (Bw := w2.heap.size) (Bl := w2.heap.size + 1) (Bc := w2.heap.size + 1 + 1 + 1) (Br := w2.heap.size + 1 + 1) (R := R) (C := C) (l0 := w5.heap.size + 1) (L0 := w5.heap.size) (l := l) (s0 := s2) (w := w) (W0 := W0) (Rdy := Rdy) (Over := Over)
      ⟨hn1, HRR.out, by omega, hn01, by omega, ?_, hR, hO, hlo⟩ ((hB.block _ (by omega)).trans bBw) ((hB.block _ (by omega)).trans bBl) (hR5.below hB (by omega)) ((hB.block _ (by omega)).trans bBc) ((hB.block _ (by omega)).trans bBr) (hbel5.trans (hB.mono (by omega))) h0 (by have := hB.size; omega) hB.size HC.out HLN.out (fun t x W hr ht hp => hY t x W hr ht hp)).mono ?_
    · obtain ⟨o, ho, _⟩ := hlo _ h0
      exact blk_lt ho
    · rintro e W' ⟨he, ⟨h1, h2⟩ | ⟨h1, h2⟩⟩
      · exact ⟨he, .inl ⟨h1, h2⟩⟩
      · exact ⟨he, .inr ⟨h1, h2⟩⟩
  case done =>
    rintro D W hD ⟨xs, s, lv, h1, h2, h3, h4, h5, h7, h6⟩ hKd
    have cW := h2.cell
    have cL := h3.cell
    have hK9 := HKK.out
    cases bad with
    | true =>
      have HB := Lib.hid (below_putl (l0 := D) (h6) (by omega) (.deferred none))
      have HUQ : Hid (unpS bs = ([], 5)) := HUS
      clear h1 h2 h3 h4 h5 h6 bBw bBl bBr bBc b5 hn01 hn1 hbel2 hbel5 hR5 z5 hD
      gi_wp2
      refine ⟨by simp, .inl ⟨_, _, rfl, run_takeDeferred hKd, ?_⟩⟩
      exact ⟨_, results_tmp2 rfl _ _ _, .slice none 0 0, by rw [HUQ.out]; try rfl, by rw [HUQ.out]; exact ActsAt.nil _ _ _ _, HB.out⟩
    | false =>
      have hDW := blk_lt hKd
      have HRS := Lib.hid (callsIn_wide (n := 2).2 (h5.rest (by omega) h7))
      obtain ⟨al, cl, rfl⟩ := h4.slice
      have HW9 := Lib.hid (And.intro h3 (And.intro h4 (And.intro h6 (And.intro hKd hD))))
      have HN9 := Lib.hid (And.intro hn01 (And.intro hn1 (And.intro z5 hbel5.size)))
      by_cases hs : s.1.length = 0
      · have HUQ : Hid (unpS bs = (xs, 0)) := by
          unfold Hid
          rw [HUS, h1]
          show (if s.1.length = 0 then (xs, 0) else ([], 5)) = _
          rw [if_pos hs]
        rw [hs] at HRS
        clear h1 h2 h3 h4 h5 h6 h7 bBw bBl bBr bBc b5 hn01 hn1 hbel2 hbel5 hR5 z5 hD hs hKd hDW
        gi_wp2_with (gi_at_call 17; (with_reducible refine HRS.out.mono ?_); rintro e w9 ⟨⟨a9, c9, rfl⟩, hb9⟩; have HB9 := Lib.hid hb9; have cL9 := blk_cell ((hb9.block _ (HW9.out.1.lt)).trans HW9.out.1) 0; clear hb9)
        obtain ⟨h3, h4, h6, hKd, hD⟩ := HW9.out
        have hn := HN9.out
        have hKd9 := (HB9.out.block _ (blk_lt hKd)).trans hKd
        refine ⟨by simp, .inl ⟨_, _, rfl, run_takeDeferred hKd9, ?_⟩⟩
        refine ⟨_, results_tmp2 rfl _ _ _, .slice al xs.length cl, by rw [HUQ.out]; try rfl, ?_, below_putl (h6.trans (HB9.out.mono h6.size)) (by omega) _⟩
        rw [HUQ.out]
        exact (ofAt_put (h4.on HB9.out) (.deferred none) hKd9 rfl).acts
      · have HUQ : Hid (unpS bs = ([], 5)) := by
          unfold Hid
          rw [HUS, h1]
          show (if s.1.length = 0 then (xs, 0) else ([], 5)) = _
          rw [if_neg hs]
        have hs2 : (0 : Int) < (s.1.length : Int) := by omega
        obtain ⟨ln, hln⟩ : ∃ ln, s.1.length = ln := ⟨_, rfl⟩
        rw [hln] at HRS hs2
        clear h1 h2 h3 h4 h5 h6 h7 bBw bBl bBr bBc b5 hn01 hn1 hbel2 hbel5 hR5 z5 hD hs hKd hDW hln
        gi_wp2_with (gi_at_call 17; (with_reducible refine HRS.out.mono ?_); rintro e w9 ⟨⟨a9, c9, rfl⟩, hb9⟩; have HB9 := Lib.hid hb9; clear hb9)
        obtain ⟨h3, h4, h6, hKd, hD⟩ := HW9.out
        have hn := HN9.out
        have hKd9 := (HB9.out.block _ (blk_lt hKd)).trans hKd
        refine ⟨by simp, .inl ⟨_, _, rfl, run_takeDeferred hKd9, ?_⟩⟩
        exact ⟨_, results_tmp2 rfl _ _ _, .slice none 0 0, by rw [HUQ.out]; try rfl, by rw [HUQ.out]; exact ActsAt.nil _ _ _ _, below_putl (h6.trans (HB9.out.mono h6.size)) (by omega) _⟩
  case left =>
    rintro D W hD ⟨h1, h2, h6⟩ hKd
    have cW := h2.cell
    have hK9 := HKK.out
    have HB := Lib.hid (below_putl (l0 := D) (h6) (by omega) (.deferred none))
    have HUQ : Hid (unpS bs = ([], 5)) := by
      unfold Hid
      rw [HUS, h1]
      cases bad <;> rfl
    clear h1 h2 h6 bBw bBl bBr bBc b5 hn01 hn1 hbel2 hbel5 hR5 z5 hD HUS
    gi_wp2
    refine ⟨by simp, .inl ⟨_, _, rfl, run_takeDeferred hKd, ?_⟩⟩
    exact ⟨_, results_tmp2 rfl _ _ _, .slice none 0 0, by rw [HUQ.out]; try rfl, by rw [HUQ.out]; exact ActsAt.nil _ _ _ _, HB.out⟩
end Go.Proofs.Ytgaabclgoolalaa
namespace Go.Proofs.Ytgaabclgoolalaa
open Go.RowKit

theorem unpack_any (v : Value) (bs : List (BitVec 8)) (w : World) (hu : BytesAt w.heap.size w v bs) (hl : bs.length ≤ 1099511627776) : Calls Try.prog 6 #[v] w (UnpRet bs w) := by
  by_cases hc : 65536 < U (rNum (bs, false) 4).1
  · refine (callsIn_wide.1 (unpack_long v bs w hu hl hc)).mono ?_
    rintro e w' ⟨rfl, hb⟩
    have : unpS bs = ([], 9) := by unfold unpS; rw [if_pos hc]
    exact ⟨_, by rw [this], by rw [this]; exact ActsAt.nil _ _ _ _, hb⟩
  · exact callsIn_wide.1 (unpack_in v bs w hu hl (by omega))
end Go.Proofs.Ytgaabclgoolalaa

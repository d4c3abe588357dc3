/-
  A region that draws its order, told operation by operation: what each yields bears the others' doing.
  Conditions: none.
-/
import Derived.Test.YtadglpnmhpmebaaBase
import Derived.Orders
import Derived.Laws.IdiomRangeMap
namespace Go.Proofs.Ytadglpnmhpmebaa
open Go

/-- What is known between two operations. -/
structure OrdAt (ops : Array Oper) (D : Nat → Nat) (R : Nat → Value → World → Prop) (B : Array Bool → World → Prop) (a0 : Act) (listed : Array Bool) (a : Act) (w : World) : Prop where
  base : B listed w
  defers : a.defers = a0.defers
  size : a.tmps.size = a0.tmps.size
  got : ∀ (i : Nat) (o : Oper) d, ops[i]? = some o → listed.getD i false = true → (listed.getD (D i) false = false ∨ D i = i) → o.dst = some d → R i (a.tmps.getD d undef) w
  old : ∀ s, (∀ (i : Nat) (o : Oper), ops[i]? = some o → listed.getD i false = true → o.dst ≠ some s) → a.tmps.getD s undef = a0.tmps.getD s undef
  closed : ∀ (i : Nat) (o : Oper), ops[i]? = some o → listed.getD i false = true → ∀ e ∈ o.after.toList, Region.binds .any e = true → listed.getD e.on false = true
  lsize : listed.size = ops.size
theorem getD_set {l : Array Bool} {i j : Nat} {b : Bool} (hi : i < l.size) : (l.setIfInBounds i true).getD j b = if i = j then true else l.getD j b := by
  rw [Array.getD_eq_getD_getElem?, Array.getD_eq_getD_getElem?, Array.getElem?_setIfInBounds]
  by_cases h : i = j
  · subst h; simp [hi]
  · simp [h]
theorem getD_two {l : Array Bool} {i : Nat} (hi : i < l.size) (b c : Bool) : l.getD i b = l.getD i c := by
  rw [Array.getD_eq_getD_getElem?, Array.getD_eq_getD_getElem?, Array.getElem?_eq_getElem hi]; rfl
theorem tmps_put {a : Act} {d s : Nat} {v : Value} (hd : d < a.tmps.size) : (a.put (some d) v).tmps.getD s undef = if d = s then v else a.tmps.getD s undef := by
  show (a.tmps.setIfInBounds d v).getD s undef = _
  rw [Array.getD_eq_getD_getElem?, Array.getD_eq_getD_getElem?, Array.getElem?_setIfInBounds]
  by_cases h : d = s
  · subst h; simp [hd]
  · simp [h]
def left9 (ops : Array Oper) (listed : Array Bool) : List Nat := (List.range ops.size).filter fun i => !listed.getD i true
theorem left9_all {ops : Array Oper} {listed : Array Bool} (hl : listed.size = ops.size) (h : ∀ i, i < ops.size → listed.getD i true = true) : listed = Array.replicate ops.size true := by
  apply Array.ext
  · simp [hl]
  · intro i h1 h2
    have := h i (by omega)
    rw [Array.getD_eq_getD_getElem?, Array.getElem?_eq_getElem h1] at this
    simpa using this
theorem ready_all {ops : Array Oper} {listed : Array Bool} (hback : ∀ (i : Nat) (o : Oper), ops[i]? = some o → ∀ e ∈ o.after.toList, Region.binds .any e = true → e.on < i) (hl : listed.size = ops.size) (h : Region.ready .any ops listed = []) : ∀ i, i < ops.size → listed.getD i true = true := by
  intro i
  induction i using Nat.strongRecOn with
  | _ i ih =>
    intro hi
    cases hc : listed.getD i true with
    | true => rfl
    | false =>
      have ho := Array.getElem?_eq_getElem hi
      have hmem : i ∈ Region.ready .any ops listed := by
        unfold Region.ready
        rw [List.mem_filter]
        refine ⟨List.mem_range.2 hi, ?_⟩
        rw [hc, ho]
        simp only [Bool.not_false, Option.map_some, Option.getD_some, Bool.true_and]
        rw [Array.all_eq_true_iff_forall_mem]
        intro e he
        cases hb : Region.binds .any e with
        | false => rfl
        | true =>
          have hlt := hback i _ ho e (by simpa using he) hb
          have h1 := ih e.on hlt (by omega)
          rw [getD_two (by omega) false true, h1]
          rfl
      rw [h] at hmem
      cases hmem
/-- Must k come up ahead of i? -/
def anc (ops : Array Oper) : Nat → Nat → Nat → Bool
  | 0, _, _ => false
  | f + 1, i, k => match ops[i]? with
    | none => false
    | some o => o.after.toList.any fun e => Region.binds .any e && (e.on == k || anc ops f e.on k)
theorem anc_listed {ops : Array Oper} {listed : Array Bool} (hc : ∀ (i : Nat) (o : Oper), ops[i]? = some o → listed.getD i false = true → ∀ e ∈ o.after.toList, Region.binds .any e = true → listed.getD e.on false = true) :
    ∀ (f i k : Nat), anc ops f i k = true → listed.getD i false = true → listed.getD k false = true
  | 0, _, _, h, _ => by cases h
  | f + 1, i, k, h, hl => by
    unfold anc at h
    cases ho : ops[i]? with
    | none => rw [ho] at h; cases h
    | some o =>
      rw [ho] at h
      obtain ⟨e, he, h⟩ := List.any_eq_true.1 h
      rw [Bool.and_eq_true, Bool.or_eq_true] at h
      have h1 := hc i o ho hl e he h.1
      rcases h.2 with h2 | h2
      · rw [← beq_iff_eq.1 h2]; exact h1
      · exact anc_listed hc f e.on k h2 h1
section
variable {P : Program} {ops : Array Oper} {Q : Exit → Act → World → Prop}
theorem wpAny_ord {D : Nat → Nat} {R : Nat → Value → World → Prop} {B : Array Bool → World → Prop} {Rel : Nat → World → World → Prop} {a0 : Act}
    (hdst : ∀ (i j : Nat) (oi oj : Oper) d, ops[i]? = some oi → ops[j]? = some oj → i ≠ j → oi.dst = some d → oj.dst ≠ some d)
    (hback : ∀ (i : Nat) (o : Oper), ops[i]? = some o → ∀ e ∈ o.after.toList, Region.binds .any e = true → e.on < i)
    (hgd : ∀ (i : Nat) (o : Oper), ops[i]? = some o → o.guard = none)
    (hsz : ∀ (i : Nat) (o : Oper) d, ops[i]? = some o → o.dst = some d → d < a0.tmps.size)
    (hR : ∀ i j v w w', i ≠ j → D i ≠ j → anc ops ops.size i j = false → (anc ops ops.size j (D i) = false ∨ D i = i) → R i v w → Rel j w w' → R i v w') (hB : ∀ j listed w w', listed.getD j true = false → B listed w → Rel j w w' → B (listed.setIfInBounds j true) w')
    (hstep : ∀ (i : Nat) (o : Oper), ops[i]? = some o → ∀ listed a w, OrdAt ops D R B a0 listed a w → listed.getD i true = false → (∀ e ∈ o.after.toList, Region.binds .any e = true → listed.getD e.on false = true) → o.wp P a w (fun a' w' => ∃ v, a' = a.put o.dst v ∧ R i v w' ∧ Rel i w w') Q)
    (hend : ∀ a w, OrdAt ops D R B a0 (Array.replicate ops.size true) a w → Q .normal a w) :
    ∀ (fuel : Nat) (listed : Array Bool) (a : Act) (w : World), OrdAt ops D R B a0 listed a w → (left9 ops listed).length ≤ fuel → wpAny P .any ops Q fuel listed a w := by
  have fin : ∀ listed a w, OrdAt ops D R B a0 listed a w → Region.ready .any ops listed = [] → Q .normal a w := fun listed a w h h0 => by
    have := left9_all h.lsize (ready_all hback h.lsize h0)
    rw [this] at h
    exact hend a w h
  intro fuel
  induction fuel with
  | zero =>
    intro listed a w h hf
    have h0 : left9 ops listed = [] := List.eq_nil_of_length_eq_zero (by omega)
    have hr : Region.ready .any ops listed = [] := by
      unfold Region.ready
      rw [List.filter_eq_nil_iff]
      intro i hi
      have : i ∉ left9 ops listed := by rw [h0]; simp
      unfold left9 at this
      rw [List.mem_filter] at this
      have h1 : ¬ (!listed.getD i true) = true := fun e => this ⟨hi, e⟩
      have h2 : (!listed.getD i true) = false := by simpa using h1
      rw [h2]
      simp
    exact ⟨hr, fin listed a w h hr⟩
  | succ fuel ih =>
    intro listed a w h hf
    refine ⟨fin listed a w h, fun i hi => ?_⟩
    unfold Region.ready at hi
    rw [List.mem_filter] at hi
    obtain ⟨hir, hi⟩ := hi
    have hlt : i < ops.size := List.mem_range.1 hir
    have hli : i < listed.size := by rw [h.lsize]; exact hlt
    have ho := Array.getElem?_eq_getElem hlt
    rw [ho] at hi
    simp only [Option.map_some, Option.getD_some, Bool.and_eq_true, Bool.not_eq_true'] at hi
    obtain ⟨hnl, hall⟩ := hi
    rw [Array.all_eq_true_iff_forall_mem] at hall
    have hdeps : ∀ e ∈ ops[i].after.toList, Region.binds .any e = true → listed.getD e.on false = true := fun e he hb => by
      have := hall e (by simpa using he)
      rw [hb] at this
      simpa using this
    unfold wpOp
    rw [ho]
    have hw : Region.wanted ops[i] (yielded ops a.tmps) = true := by
      unfold Region.wanted
      rw [hgd i _ ho]
    simp only [hw, if_true]
    refine Or.inl (Oper.wp_mono (fun a' w' hk => ?_) (hstep i _ ho listed a w h hnl hdeps))
    obtain ⟨v, rfl, hv, hrel⟩ := hk
    have hnot : ∀ d, ops[i].dst = some d → d < a.tmps.size := fun d hd => by rw [h.size]; exact hsz i _ d ho hd
    refine ih _ _ _ ⟨hB _ _ _ _ hnl h.base hrel, ?_, ?_, ?_, ?_, ?_, by simpa using h.lsize⟩ ?_
    · cases hd : ops[i].dst <;> exact h.defers
    · cases hd : ops[i].dst with
      | none => exact h.size
      | some d =>
        show (a.tmps.setIfInBounds d v).size = _
        rw [Array.size_setIfInBounds]; exact h.size
    · intro j o d hj hlj hal hd
      rw [getD_set hli] at hlj
      by_cases hij : i = j
      · subst hij
        rw [ho] at hj
        cases hj
        rw [hd, tmps_put (hnot d hd), if_pos rfl]
        exact hv
      · rw [if_neg hij] at hlj
        rw [getD_set hli] at hal
        have hne9 : D j ≠ i := fun e => by
          rcases hal with h9 | h9
          · rw [if_pos e.symm] at h9; cases h9
          · exact hij (by omega)
        rw [if_neg (fun e => hne9 e.symm)] at hal
        have ha1 : anc ops ops.size j i = false := by
          rw [Bool.eq_false_iff]
          intro e
          have h9 := anc_listed h.closed _ _ _ e hlj
          rw [getD_two hli false true, hnl] at h9
          cases h9
        have ha2 : anc ops ops.size i (D j) = false ∨ D j = j := by
          rcases hal with h9 | h9
          · left
            rw [Bool.eq_false_iff]
            intro e
            obtain ⟨f, hf⟩ : ∃ f, ops.size = f + 1 := ⟨ops.size - 1, by omega⟩
            rw [hf] at e
            unfold anc at e
            rw [ho] at e
            obtain ⟨e1, he1, e⟩ := List.any_eq_true.1 e
            rw [Bool.and_eq_true, Bool.or_eq_true] at e
            have h8 := hdeps e1 he1 e.1
            rcases e.2 with h7 | h7
            · rw [beq_iff_eq.1 h7, h9] at h8; cases h8
            · have h6 := anc_listed h.closed _ _ _ h7 h8
              rw [h9] at h6; cases h6
          · exact .inr h9
        have hg := hR j i _ _ _ (fun e => hij e.symm) hne9 ha1 ha2 (h.got j o d hj hlj hal hd) hrel
        cases hdi : ops[i].dst with
        | none => exact hg
        | some d' =>
          have hne : d' ≠ d := fun e => hdst i j _ _ d' ho hj hij hdi (by rw [hd, e])
          rw [tmps_put (hnot d' hdi), if_neg hne]
          exact hg
    · intro s hs
      have hsi := hs i _ ho (by rw [getD_set hli, if_pos rfl])
      have h1 := h.old s (fun j o hj hlj => hs j o hj (by
        rw [getD_set hli]
        by_cases hij : i = j
        · rw [if_pos hij]
        · rw [if_neg hij]; exact hlj))
      cases hdi : ops[i].dst with
      | none => exact h1
      | some d' =>
        have hne : d' ≠ s := fun e => hsi (by rw [hdi, e])
        rw [tmps_put (hnot d' hdi), if_neg hne]
        exact h1
    · intro j o hj hlj e he hb
      rw [getD_set hli] at hlj ⊢
      by_cases hie : i = e.on
      · rw [if_pos hie]
      · rw [if_neg hie]
        by_cases hij : i = j
        · subst hij
          rw [ho] at hj
          cases hj
          exact hdeps e he hb
        · rw [if_neg hij] at hlj
          exact h.closed j o hj hlj e he hb
    · have key : (left9 ops (listed.setIfInBounds i true)).length < (left9 ops listed).length := by
        unfold left9
        refine filter_lt _ _ (fun x hx => ?_) i (by rw [hnl]; rfl) (by rw [getD_set hli, if_pos rfl]; rfl) (List.range ops.size) hir
        rw [getD_set hli] at hx
        by_cases hix : i = x
        · rw [if_pos hix] at hx; cases hx
        · rw [if_neg hix] at hx; exact hx
      omega
end
theorem ordAt_start (ops : Array Oper) (D : Nat → Nat) (R : Nat → Value → World → Prop) (B : Array Bool → World → Prop) (a0 : Act) (w : World) (hb : B (Array.replicate ops.size false) w) : OrdAt ops D R B a0 (Array.replicate ops.size false) a0 w := by
  have hf : ∀ i, (Array.replicate ops.size false).getD i false = true → False := fun i h => by
    rw [Array.getD_eq_getD_getElem?, Array.getElem?_replicate] at h
    split at h <;> simp at h
  exact ⟨hb, rfl, rfl, fun i _ _ _ h _ => (hf i h).elim, fun _ _ => rfl, fun i _ _ h => (hf i h).elim, by simp⟩
/-- Facts of a region's operations that a program reckons. -/
def ordOk (ops : Array Oper) (n : Nat) : Bool :=
  (List.range ops.size).all fun i => match ops[i]? with
    | none => true
    | some o => o.guard.isNone && (o.after.toList.all fun e => !Region.binds .any e || decide (e.on < i)) && (match o.dst with | none => true | some d => decide (d < n) && (List.range ops.size).all fun j => decide (i = j) || (match ops[j]? with | none => true | some o' => o'.dst != some d))
theorem ordOk_spec {ops : Array Oper} {n : Nat} (h : ordOk ops n = true) : (∀ (i j : Nat) (oi oj : Oper) d, ops[i]? = some oi → ops[j]? = some oj → i ≠ j → oi.dst = some d → oj.dst ≠ some d) ∧ (∀ (i : Nat) (o : Oper), ops[i]? = some o → ∀ e ∈ o.after.toList, Region.binds .any e = true → e.on < i) ∧ (∀ (i : Nat) (o : Oper), ops[i]? = some o → o.guard = none) ∧ (∀ (i : Nat) (o : Oper) d, ops[i]? = some o → o.dst = some d → d < n) := by
  unfold ordOk at h
  rw [List.all_eq_true] at h
  have key : ∀ (i : Nat) (o : Oper), ops[i]? = some o → o.guard = none ∧ (∀ e ∈ o.after.toList, Region.binds .any e = true → e.on < i) ∧ ∀ d, o.dst = some d → d < n ∧ ∀ (j : Nat) (o' : Oper), ops[j]? = some o' → i ≠ j → o'.dst ≠ some d := fun i o ho => by
    have hi : i < ops.size := (Array.getElem?_eq_some_iff.1 ho).1
    have h1 := h i (List.mem_range.2 hi)
    rw [ho] at h1
    simp only [Bool.and_eq_true] at h1
    obtain ⟨⟨h1, h2⟩, h3⟩ := h1
    refine ⟨by simpa using h1, fun e he hb => ?_, fun d hd => ?_⟩
    · rw [List.all_eq_true] at h2
      have := h2 e he
      rw [hb] at this
      simpa using this
    · rw [hd] at h3
      simp only [Bool.and_eq_true, decide_eq_true_eq, List.all_eq_true] at h3
      refine ⟨h3.1, fun j o' hj hne => ?_⟩
      have hjl : j < ops.size := (Array.getElem?_eq_some_iff.1 hj).1
      have := h3.2 j (List.mem_range.2 hjl)
      rw [hj] at this
      simp only [hne, decide_false, Bool.false_or] at this
      simpa using this
  exact ⟨fun i j oi oj d hi hj hne hd => ((key i oi hi).2.2 d hd).2 j oj hj hne, fun i o ho => (key i o ho).2.1, fun i o ho => (key i o ho).1, fun i o d ho hd => ((key i o ho).2.2 d hd).1⟩
theorem wpAny_ord2 {P : Program} {ops : Array Oper} {Q : Exit → Act → World → Prop} (n : Nat) (D : Nat → Nat) (R : Nat → Value → World → Prop) (B : Array Bool → World → Prop) (Rel : Nat → World → World → Prop) {a0 : Act} {w : World}
    (hok : ordOk ops n = true) (hn : a0.tmps.size = n) (hb : B (Array.replicate ops.size false) w)
    (hR : ∀ i j v w w', i ≠ j → D i ≠ j → anc ops ops.size i j = false → (anc ops ops.size j (D i) = false ∨ D i = i) → R i v w → Rel j w w' → R i v w') (hB : ∀ j listed w w', listed.getD j true = false → B listed w → Rel j w w' → B (listed.setIfInBounds j true) w')
    (hstep : ∀ (i : Nat) (o : Oper), ops[i]? = some o → ∀ listed a w, OrdAt ops D R B a0 listed a w → listed.getD i true = false → (∀ e ∈ o.after.toList, Region.binds .any e = true → listed.getD e.on false = true) → o.wp P a w (fun a' w' => ∃ v, a' = a.put o.dst v ∧ R i v w' ∧ Rel i w w') Q)
    (hend : ∀ a w, OrdAt ops D R B a0 (Array.replicate ops.size true) a w → Q .normal a w) : wpAny P .any ops Q ops.size (Array.replicate ops.size false) a0 w := by
  obtain ⟨h1, h2, h3, h4⟩ := ordOk_spec hok
  refine wpAny_ord h1 h2 h3 (fun i o d ho hd => by rw [hn]; exact h4 i o d ho hd) hR hB hstep hend _ _ _ _ (ordAt_start ops D R B a0 w hb) ?_
  unfold left9
  exact Nat.le_trans (List.length_filter_le _ _) (by simp)
theorem wp_val {P : Program} {Q : Exit → Act → World → Prop} {o : Oper} {a : Act} {w w' : World} {K : Act → World → Prop} {v : Value} (hr : (execOp a.eval o).run P w = .ok (.value v) w') (hk : K (a.put o.dst v) w') : o.wp P a w K Q := by
  unfold Oper.wp
  rw [hr]
  exact hk
theorem OrdAt.free {ops : Array Oper} {D : Nat → Nat} {R : Nat → Value → World → Prop} {B : Array Bool → World → Prop} {a0 : Act} {listed : Array Bool} {a : Act} {w : World} (h : OrdAt ops D R B a0 listed a w) (s : Nat) (hn : (ops.all fun o => o.dst != some s) = true) : a.tmps.getD s undef = a0.tmps.getD s undef :=
  h.old s (fun i o ho _ e => by
    rw [Array.all_eq_true_iff_forall_mem] at hn
    have := hn o (Array.mem_of_getElem? ho)
    rw [e] at this
    simp at this)
theorem notl {listed : Array Bool} {i : Nat} (h : listed.getD i true = false) : listed.getD i false = false := by
  rw [Array.getD_eq_getD_getElem?] at h ⊢
  cases hq : listed[i]? with
  | none => rfl
  | some b => rw [hq] at h; exact h
theorem not_size {listed : Array Bool} {i : Nat} (h : listed.getD i true = false) : i < listed.size := by
  rw [Array.getD_eq_getD_getElem?] at h
  cases hq : listed[i]? with
  | none => rw [hq] at h; cases h
  | some b => exact (Array.getElem?_eq_some_iff.1 hq).1
theorem OrdAt.yet {ops : Array Oper} {D : Nat → Nat} {R : Nat → Value → World → Prop} {B : Array Bool → World → Prop} {a0 : Act} {listed : Array Bool} {a : Act} {w : World} (h : OrdAt ops D R B a0 listed a w) {i : Nat} (hnl : listed.getD i true = false) (k : Nat) (ha : anc ops ops.size k i = true) : listed.getD k false = false := by
  rw [Bool.eq_false_iff]
  intro e
  have := anc_listed h.closed _ _ _ ha e
  rw [notl hnl] at this
  cases this
theorem OrdAt.still {ops : Array Oper} {D : Nat → Nat} {R : Nat → Value → World → Prop} {B : Array Bool → World → Prop} {a0 : Act} {listed : Array Bool} {a : Act} {w : World} (h : OrdAt ops D R B a0 listed a w) (s k0 : Nat) (hn : ((List.range ops.size).all fun k => decide (k = k0) || ((ops[k]?).map fun o => o.dst != some s).getD true) = true) (hk : listed.getD k0 false = false) : a.tmps.getD s undef = a0.tmps.getD s undef :=
  h.old s (fun i o ho hl e => by
    rw [List.all_eq_true] at hn
    have hi : i < ops.size := (Array.getElem?_eq_some_iff.1 ho).1
    have h1 := hn i (List.mem_range.2 hi)
    rw [ho] at h1
    simp only [Option.map_some, Option.getD_some, e, Bool.or_eq_true, decide_eq_true_eq] at h1
    rcases h1 with h1 | h1
    · rw [h1, hk] at hl; cases hl
    · simp at h1)
theorem arr_eq (t : Array Value) (n : Nat) (h : t.size = n) : t = ((List.range n).map fun i => t.getD i undef).toArray := by
  apply Array.ext
  · simp [h]
  · intro i h1 h2
    simp [Array.getD_eq_getD_getElem?, h1]
end Go.Proofs.Ytadglpnmhpmebaa

/-
  The law for drawn regions, its base told that what comes up has all that it wants.
  Conditions: none.
-/
import Derived.Test.YtadglpnmhpmebaaOrd
namespace Go.Proofs.Ytadglpnmhpmebaa
open Go

section
variable {P : Program} {ops : Array Oper} {Q : Exit → Act → World → Prop}
theorem wpAny_ord3 {D : Nat → Nat} {R : Nat → Value → World → Prop} {B : Array Bool → World → Prop} {Rel : Nat → World → World → Prop} {a0 : Act}
    (hdst : ∀ (i j : Nat) (oi oj : Oper) d, ops[i]? = some oi → ops[j]? = some oj → i ≠ j → oi.dst = some d → oj.dst ≠ some d)
    (hback : ∀ (i : Nat) (o : Oper), ops[i]? = some o → ∀ e ∈ o.after.toList, Region.binds .any e = true → e.on < i)
    (hgd : ∀ (i : Nat) (o : Oper), ops[i]? = some o → o.guard = none)
    (hsz : ∀ (i : Nat) (o : Oper) d, ops[i]? = some o → o.dst = some d → d < a0.tmps.size)
    (hR : ∀ i j v w w', i ≠ j → D i ≠ j → anc ops ops.size i j = false → (anc ops ops.size j (D i) = false ∨ D i = i) → R i v w → Rel j w w' → R i v w') (hB : ∀ j listed w w', listed.getD j true = false → (∀ k, anc ops ops.size j k = true → listed.getD k false = true) → B listed w → Rel j w w' → B (listed.setIfInBounds j true) w')
    (hstep : ∀ (i : Nat) (o : Oper), ops[i]? = some o → ∀ listed a w, OrdAt ops D R B a0 listed a w → listed.getD i true = false → (∀ e ∈ o.after.toList, Region.binds .any e = true → listed.getD e.on false = true) → o.wp P a w (fun a' w' => ∃ v, a' = a.put o.dst v ∧ R i v w' ∧ Rel i w w') Q)
    (hend : ∀ a w, OrdAt ops D R B a0 (Array.replicate ops.size true) a w → Q .normal a w) :
    ∀ (fuel : Nat) (listed : Array Bool) (a : Act) (w : World), OrdAt ops D R B a0 listed a w → (left9 ops listed).length ≤ fuel → wpAny P .any ops Q fuel listed a w := by
  have fin : ∀ listed a w, OrdAt ops D R B a0 listed a w → Region.ready .any ops listed = [] → Q .normal a w := fun listed a w h h0 => by
    have := left9_all h.lsize (ready_all hback h.lsize h0)
    rw [this] at h
    exact hend a w h
  intro fuel
  induction fuel with
  | zero =>
    intro listed a w h hf
    have h0 : left9 ops listed = [] := List.eq_nil_of_length_eq_zero (by omega)
    have hr : Region.ready .any ops listed = [] := by
      unfold Region.ready
      rw [List.filter_eq_nil_iff]
      intro i hi
      have : i ∉ left9 ops listed := by rw [h0]; simp
      unfold left9 at this
      rw [List.mem_filter] at this
      have h1 : ¬ (!listed.getD i true) = true := fun e => this ⟨hi, e⟩
      have h2 : (!listed.getD i true) = false := by simpa using h1
      rw [h2]
      simp
    exact ⟨hr, fin listed a w h hr⟩
  | succ fuel ih =>
    intro listed a w h hf
    refine ⟨fin listed a w h, fun i hi => ?_⟩
    unfold Region.ready at hi
    rw [List.mem_filter] at hi
    obtain ⟨hir, hi⟩ := hi
    have hlt : i < ops.size := List.mem_range.1 hir
    have hli : i < listed.size := by rw [h.lsize]; exact hlt
    have ho := Array.getElem?_eq_getElem hlt
    rw [ho] at hi
    simp only [Option.map_some, Option.getD_some, Bool.and_eq_true, Bool.not_eq_true'] at hi
    obtain ⟨hnl, hall⟩ := hi
    rw [Array.all_eq_true_iff_forall_mem] at hall
    have hdeps : ∀ e ∈ ops[i].after.toList, Region.binds .any e = true → listed.getD e.on false = true := fun e he hb => by
      have := hall e (by simpa using he)
      rw [hb] at this
      simpa using this
    unfold wpOp
    rw [ho]
    have hw : Region.wanted ops[i] (yielded ops a.tmps) = true := by
      unfold Region.wanted
      rw [hgd i _ ho]
    simp only [hw, if_true]
    refine Or.inl (Oper.wp_mono (fun a' w' hk => ?_) (hstep i _ ho listed a w h hnl hdeps))
    obtain ⟨v, rfl, hv, hrel⟩ := hk
    have hnot : ∀ d, ops[i].dst = some d → d < a.tmps.size := fun d hd => by rw [h.size]; exact hsz i _ d ho hd
    have hanc : ∀ k, anc ops ops.size i k = true → listed.getD k false = true := fun k e => by
      obtain ⟨f, hf⟩ : ∃ f, ops.size = f + 1 := ⟨ops.size - 1, by omega⟩
      rw [hf] at e
      unfold anc at e
      rw [ho] at e
      obtain ⟨e1, he1, e⟩ := List.any_eq_true.1 e
      rw [Bool.and_eq_true, Bool.or_eq_true] at e
      have h8 := hdeps e1 he1 e.1
      rcases e.2 with h7 | h7
      · rw [← beq_iff_eq.1 h7]; exact h8
      · exact anc_listed h.closed _ _ _ h7 h8
    refine ih _ _ _ ⟨hB _ _ _ _ hnl hanc h.base hrel, ?_, ?_, ?_, ?_, ?_, by simpa using h.lsize⟩ ?_
    · cases hd : ops[i].dst <;> exact h.defers
    · cases hd : ops[i].dst with
      | none => exact h.size
      | some d =>
        show (a.tmps.setIfInBounds d v).size = _
        rw [Array.size_setIfInBounds]; exact h.size
    · intro j o d hj hlj hal hd
      rw [getD_set hli] at hlj
      by_cases hij : i = j
      · subst hij
        rw [ho] at hj
        cases hj
        rw [hd, tmps_put (hnot d hd), if_pos rfl]
        exact hv
      · rw [if_neg hij] at hlj
        rw [getD_set hli] at hal
        have hne9 : D j ≠ i := fun e => by
          rcases hal with h9 | h9
          · rw [if_pos e.symm] at h9; cases h9
          · exact hij (by omega)
        rw [if_neg (fun e => hne9 e.symm)] at hal
        have ha1 : anc ops ops.size j i = false := by
          rw [Bool.eq_false_iff]
          intro e
          have h9 := anc_listed h.closed _ _ _ e hlj
          rw [getD_two hli false true, hnl] at h9
          cases h9
        have ha2 : anc ops ops.size i (D j) = false ∨ D j = j := by
          rcases hal with h9 | h9
          · left
            rw [Bool.eq_false_iff]
            intro e
            obtain ⟨f, hf⟩ : ∃ f, ops.size = f + 1 := ⟨ops.size - 1, by omega⟩
            rw [hf] at e
            unfold anc at e
            rw [ho] at e
            obtain ⟨e1, he1, e⟩ := List.any_eq_true.1 e
            rw [Bool.and_eq_true, Bool.or_eq_true] at e
            have h8 := hdeps e1 he1 e.1
            rcases e.2 with h7 | h7
            · rw [beq_iff_eq.1 h7, h9] at h8; cases h8
            · have h6 := anc_listed h.closed _ _ _ h7 h8
              rw [h9] at h6; cases h6
          · exact .inr h9
        have hg := hR j i _ _ _ (fun e => hij e.symm) hne9 ha1 ha2 (h.got j o d hj hlj hal hd) hrel
        cases hdi : ops[i].dst with
        | none => exact hg
        | some d' =>
          have hne : d' ≠ d := fun e => hdst i j _ _ d' ho hj hij hdi (by rw [hd, e])
          rw [tmps_put (hnot d' hdi), if_neg hne]
          exact hg
    · intro s hs
      have hsi := hs i _ ho (by rw [getD_set hli, if_pos rfl])
      have h1 := h.old s (fun j o hj hlj => hs j o hj (by
        rw [getD_set hli]
        by_cases hij : i = j
        · rw [if_pos hij]
        · rw [if_neg hij]; exact hlj))
      cases hdi : ops[i].dst with
      | none => exact h1
      | some d' =>
        have hne : d' ≠ s := fun e => hsi (by rw [hdi, e])
        rw [tmps_put (hnot d' hdi), if_neg hne]
        exact h1
    · intro j o hj hlj e he hb
      rw [getD_set hli] at hlj ⊢
      by_cases hie : i = e.on
      · rw [if_pos hie]
      · rw [if_neg hie]
        by_cases hij : i = j
        · subst hij
          rw [ho] at hj
          cases hj
          exact hdeps e he hb
        · rw [if_neg hij] at hlj
          exact h.closed j o hj hlj e he hb
    · have key : (left9 ops (listed.setIfInBounds i true)).length < (left9 ops listed).length := by
        unfold left9
        refine filter_lt _ _ (fun x hx => ?_) i (by rw [hnl]; rfl) (by rw [getD_set hli, if_pos rfl]; rfl) (List.range ops.size) hir
        rw [getD_set hli] at hx
        by_cases hix : i = x
        · rw [if_pos hix] at hx; cases hx
        · rw [if_neg hix] at hx; exact hx
      omega
end
theorem wpAny_ord4 {P : Program} {ops : Array Oper} {Q : Exit → Act → World → Prop} (n : Nat) (D : Nat → Nat) (R : Nat → Value → World → Prop) (B : Array Bool → World → Prop) (Rel : Nat → World → World → Prop) {a0 : Act} {w : World}
    (hok : ordOk ops n = true) (hn : a0.tmps.size = n) (hb : B (Array.replicate ops.size false) w)
    (hR : ∀ i j v w w', i ≠ j → D i ≠ j → anc ops ops.size i j = false → (anc ops ops.size j (D i) = false ∨ D i = i) → R i v w → Rel j w w' → R i v w') (hB : ∀ j listed w w', listed.getD j true = false → (∀ k, anc ops ops.size j k = true → listed.getD k false = true) → B listed w → Rel j w w' → B (listed.setIfInBounds j true) w')
    (hstep : ∀ (i : Nat) (o : Oper), ops[i]? = some o → ∀ listed a w, OrdAt ops D R B a0 listed a w → listed.getD i true = false → (∀ e ∈ o.after.toList, Region.binds .any e = true → listed.getD e.on false = true) → o.wp P a w (fun a' w' => ∃ v, a' = a.put o.dst v ∧ R i v w' ∧ Rel i w w') Q)
    (hend : ∀ a w, OrdAt ops D R B a0 (Array.replicate ops.size true) a w → Q .normal a w) : wpAny P .any ops Q ops.size (Array.replicate ops.size false) a0 w := by
  obtain ⟨h1, h2, h3, h4⟩ := ordOk_spec hok
  refine wpAny_ord3 h1 h2 h3 (fun i o d ho hd => by rw [hn]; exact h4 i o d ho hd) hR hB hstep hend _ _ _ _ (ordAt_start ops D R B a0 w hb) ?_
  unfold left9
  exact Nat.le_trans (List.length_filter_le _ _) (by simp)
theorem OrdAt.has {ops : Array Oper} {D : Nat → Nat} {R : Nat → Value → World → Prop} {B : Array Bool → World → Prop} {a0 : Act} {listed : Array Bool} {a : Act} {w : World} (h : OrdAt ops D R B a0 listed a w) {i : Nat} {o : Oper} (ho : ops[i]? = some o) (hdeps : ∀ e ∈ o.after.toList, Region.binds .any e = true → listed.getD e.on false = true) (k : Nat) (ha : anc ops ops.size i k = true) : listed.getD k false = true := by
  have hlt : i < ops.size := (Array.getElem?_eq_some_iff.1 ho).1
  obtain ⟨f, hf⟩ : ∃ f, ops.size = f + 1 := ⟨ops.size - 1, by omega⟩
  rw [hf] at ha
  unfold anc at ha
  rw [ho] at ha
  obtain ⟨e1, he1, e⟩ := List.any_eq_true.1 ha
  rw [Bool.and_eq_true, Bool.or_eq_true] at e
  have h8 := hdeps e1 he1 e.1
  rcases e.2 with h7 | h7
  · rw [← beq_iff_eq.1 h7]; exact h8
  · exact anc_listed h.closed _ _ _ h7 h8
end Go.Proofs.Ytadglpnmhpmebaa

/-
  bucket: part, whatever is asked of an entry.
  Conditions: none.
-/
import Derived.Test.YtpihncafmjbccaaBkt1
import Derived.Maps.OwnIn
namespace Go.Proofs.Ytpihncafmjbccaa
open Go.RowKit Go.Shelf
attribute [local go_sem] Oper.semAt_some

theorem infoEnt : (Try.prog.info? 40).map (fun i => (i.zero, i.size, i.bytes)) = some (some (.agg #[.int .u64 0, .int .i64 0, .int .i64 0, .int .i64 0]), 4, 32) := by kernel_rfl
theorem info_parts4 {i : Option TypeInfo} {z : Value} {s b : Nat} (h : i.map (fun i => (i.zero, i.size, i.bytes)) = some (some z, s, b)) : ∃ i0, i = some i0 ∧ i0.zero = some z ∧ i0.size = s ∧ i0.bytes = b := by
  cases i with
  | none => cases h
  | some i0 => simp at h; exact ⟨i0, rfl, h.1, h.2.1, h.2.2⟩

theorem keepsOthers_below {W W' : World} (h : Below W.heap.size W W') : KeepsOthers W W' := ⟨h.size, fun k _ hk _ => (h.block k (Array.getElem?_eq_some_iff.1 hk).1).trans hk⟩
theorem ownFrom_size {β : Type} (B N : Nat) : OwnFrom B (fun (_ : β) W => N ≤ W.heap.size) := fun _ _ _ _ hs hg _ => Nat.le_trans hs hg.size
/-- Two rows of entries in two boxes, apart from one another. -/
def PartIs (n₀ B1 B2 : Nat) (xs ys : List Ent) (W : World) : Prop := ∃ v1 v2, (Boxed W B1 30 v1 ∧ W.ownsRow n₀ 40 4 v1 xs.length (ents xs)) ∧ (Boxed W B2 30 v2 ∧ W.ownsRow n₀ 40 4 v2 ys.length (ents ys)) ∧ (v1.ownBlock = none ∨ v1.ownBlock ≠ v2.ownBlock)
theorem ownFrom_boxed1 {β : Type} (B0 B : Nat) (t : TypeId) (v : Value) : OwnFrom B0 (fun (_ : β) W => Boxed W B t v) := by
  refine Own.from ?_ B0
  rintro s X Y row hv hg hrow
  refine hv.kept hg fun e' => ?_
  obtain ⟨o, ho, hc⟩ := hrow B e'.symm
  rw [show X.heap[B]? = _ from hv] at ho; cases ho; cases hc
theorem row_kept {X Y : World} {row : Option Nat} {n₀ : Nat} {e : TypeId} {size n : Nat} {v : Value} {xs : List Value} (hr : X.ownsRow n₀ e size v n xs) (hg : X.grownBy Y row) (hrow : ∀ r, row = some r → ∃ o : Obj, X.heap[r]? = some o ∧ o.isCells = false) : Y.ownsRow n₀ e size v n xs := by
  refine hr.kept hg ?_
  rcases hr.2 with ⟨rfl, _⟩ | ⟨g, cap, cur, rfl, _, hgb, _⟩
  · exact .inl rfl
  · refine .inr fun e' => ?_
    obtain ⟨o, ho, hc⟩ := hrow g (by simpa [Value.ownBlock] using e'.symm)
    rw [hgb] at ho; cases ho; cases hc
theorem boxed_kept {X Y : World} {row : Option Nat} {B : Nat} {t : TypeId} {v : Value} (hv : Boxed X B t v) (hg : X.grownBy Y row) (hrow : ∀ r, row = some r → ∃ o : Obj, X.heap[r]? = some o ∧ o.isCells = false) : Boxed Y B t v := by
  refine hv.kept hg fun e' => ?_
  obtain ⟨o, ho, hc⟩ := hrow B e'.symm
  rw [show X.heap[B]? = _ from hv] at ho; cases ho; cases hc
theorem partIs_own {β : Type} (n₀ B1 B2 : Nat) (f g : β → List Ent) : Own (fun s W => PartIs n₀ B1 B2 (f s) (g s) W) := by
  rintro s X Y row ⟨v1, v2, ⟨b1, r1⟩, ⟨b2, r2⟩, hne⟩ hg hrow
  exact ⟨v1, v2, ⟨boxed_kept b1 hg hrow, row_kept r1 hg hrow⟩, ⟨boxed_kept b2 hg hrow, row_kept r2 hg hrow⟩, hne⟩
theorem PartIs.below {n₀ B1 B2 : Nat} {xs ys : List Ent} {W W' : World} (h : PartIs n₀ B1 B2 xs ys W) (hb : Below W.heap.size W W') : PartIs n₀ B1 B2 xs ys W' := by
  obtain ⟨v1, v2, ⟨b1, r1⟩, ⟨b2, r2⟩, hne⟩ := h
  exact ⟨v1, v2, ⟨(hb.block _ b1.lt).trans b1, ownsRow_below r1 hb⟩, ⟨(hb.block _ b2.lt).trans b2, ownsRow_below r2 hb⟩, hne⟩
theorem PartIs.swap {n₀ B1 B2 : Nat} {xs ys : List Ent} {W : World} (h : PartIs n₀ B1 B2 xs ys W) : PartIs n₀ B2 B1 ys xs W := by
  obtain ⟨v1, v2, h1, h2, hne⟩ := h
  refine ⟨v2, v1, h2, h1, ?_⟩
  rcases hne with h | h
  · cases h2o : v2.ownBlock with
    | none => exact .inl rfl
    | some k => rw [h]; exact .inr (by simp)
  · exact .inr h.symm

theorem part_put {W w1 : World} {n₀ B1 B2 : Nat} {xs ys zs : List Ent} {v1 v2 v' : Value} {tmp : Obj} {m : Nat} {cs : List Value} (b1 : Boxed W B1 30 v1) (r1 : W.ownsRow n₀ 40 4 v1 xs.length (ents xs)) (b2 : Boxed W B2 30 v2) (r2 : W.ownsRow n₀ 40 4 v2 ys.length (ents ys)) (hne : v1.ownBlock = none ∨ v1.ownBlock ≠ v2.ownBlock)
    (hn₀ : n₀ ≤ W.heap.size) (hB1 : n₀ ≤ B1) (hB : B1 ≠ B2) (hcs : cs = ents zs) (hm : m = zs.length) (hown : w1.ownsRow n₀ 40 4 v' m cs) (hgrow : (W.alloc tmp).grownBy w1 v1.ownBlock) (hat : v'.ownBlock = v1.ownBlock ∨ v'.ownBlock = some (W.alloc tmp).heap.size) :
    Boxed w1 B1 30 v1 ∧ PartIs n₀ B1 B2 zs ys (w1.setCell ⟨B1, 0, none⟩ v') ∧ KeepsOthers W (w1.setCell ⟨B1, 0, none⟩ v') ∧ Below n₀ W (w1.setCell ⟨B1, 0, none⟩ v') ∧ KeepsAt (fun k => k ≠ B1 ∧ v1.ownBlock ≠ some k) W (w1.setCell ⟨B1, 0, none⟩ v') := by
  subst hcs hm
  obtain ⟨q1, q2, q3, q4, q5⟩ := Boxed.appended b1 (by decide) r1 hn₀ hB1 hown hgrow
  have b2' : Boxed w1 B2 30 v2 := (b2.alloc tmp).kept hgrow (b2.not_row (by decide) r1)
  have hr2 : w1.ownsRow n₀ 40 4 v2 ys.length (ents ys) := by
    refine (r2.alloc tmp).kept hgrow ?_
    rcases hne with h | h
    · cases h2 : v2.ownBlock with
      | none => exact .inl rfl
      | some k => rw [h]; exact .inr (by simp)
    · exact .inr (fun e => h e.symm)
  have hr3 : (w1.setCell ⟨B1, 0, none⟩ v').ownsRow n₀ 40 4 v2 ys.length (ents ys) := hr2.kept (grownBy_setCell' w1 B1 v') (.inr (fun e => q1.not_row (by decide) hr2 e.symm))
  refine ⟨q1, ⟨v', v2, ⟨q2, q3⟩, ⟨b2'.other (fun e => hB e.symm) _, hr3⟩, ?_⟩, q4, q5, ((KeepsAt.alloc W _).trans (KeepsAt.grown hgrow (fun k e h => h.2 e))).trans (KeepsAt.setCell _ _ _ (fun h => h.1 rfl))⟩
  rcases hat with h | h
  · rw [h]; exact hne
  · refine .inr fun e => ?_
    rw [h] at e
    have := (r2.lt _ e.symm).2
    rw [World.size_alloc] at this
    omega
/-- What has come of those at these places. -/
def doneE (P : Ent → Bool) (es : List Ent) (k : List Nat) : List Ent := (k.map fun i => es[i]?.getD default).filter P
theorem doneE_snoc (P : Ent → Bool) (es : List Ent) (pre : List Nat) (x : Nat) : doneE P es (pre ++ [x]) = doneE P es pre ++ (if P (es[x]?.getD default) then [es[x]?.getD default] else []) := by
  unfold doneE
  rw [List.map_append, List.filter_append]
  by_cases h : P (es[x]?.getD default) = true
  · simp [h]
  · simp [h]
theorem range_all (es : List Ent) : (List.range es.length).map (fun i => es[i]?.getD default) = es := by
  refine List.ext_getElem (by simp) fun i h1 h2 => ?_
  simp [h2]
theorem doneE_all (P : Ent → Bool) (es : List Ent) : doneE P es (List.range es.length) = es.filter P := by
  unfold doneE; rw [range_all]
theorem doneE_len (P : Ent → Bool) (es : List Ent) (pre : List Nat) : (doneE P es pre).length ≤ pre.length := by
  unfold doneE
  exact Nat.le_trans (List.length_filter_le _ _) (by simp)
theorem ent_new (W : World) (y : Ent) : ∀ (j : Nat) (u : Value), y.cells.toList[j]? = some u → (W.alloc (.cells #[.int .u64 (U y.hash), .int .i64 y.reg, .int .i64 y.at_, .int .i64 y.size] 40)).cell? ((⟨W.heap.size, 0, none⟩ : Addr).add j) = some u := by
  intro j u hj
  rw [add_plain, Nat.zero_add, blk_cell (heap_alloc_new _ _)]
  rw [Array.getElem?_toList] at hj
  exact hj
theorem part_res (w : World) (b1 b2 : Nat) (v1 v2 : Value) (tmps : Array Value) (h4 : tmps.getD 4 undef = .pointer (some ⟨b1, 0, none⟩)) (h5 : tmps.getD 5 undef = .pointer (some ⟨b2, 0, none⟩)) (ha : w.cell? ⟨b1, 0, none⟩ = some v1) (hb : w.cell? ⟨b2, 0, none⟩ = some v2) :
    (results Try.f23 tmps).run Try.prog w = .ok (.tuple #[v1, v2]) w := by
  have h4' : tmps[4]?.getD undef = .pointer (some ⟨b1, 0, none⟩) := by simpa using h4
  have h5' : tmps[5]?.getD undef = .pointer (some ⟨b2, 0, none⟩) := by simpa using h5
  simp [results, Try.results23, h4', h5', go_sem, ha, hb]
theorem owns_nil {w : World} {base : Nat} {e : TypeId} {size n : Nat} {v : Value} {xs : List Value} (h : w.ownsRow base e size v n xs) : ∀ m c, v = .slice none m c → m = 0 ∧ c = 0 := by
  intro m c hv
  rcases h.2 with ⟨rfl, _⟩ | ⟨g, cap, cur, rfl, _⟩
  · cases hv; exact ⟨rfl, rfl⟩
  · cases hv
/-- A slice in new memory. -/
def FreshS (n : Nat) (v : Value) : Prop := ∀ k, v.ownBlock = some k → n ≤ k
/-- Where a slice is nil it has no room. -/
def NilS (v : Value) : Prop := ∀ m c, v = .slice none m c → m = 0 ∧ c = 0
/-- What part answers. -/
def Parted (P : Ent → Bool) (es : List Ent) (w : World) (e : Ending) (w' : World) : Prop := ∃ a1 n1 c1 a2 n2 c2, e = .returned (.tuple #[.slice a1 n1 c1, .slice a2 n2 c2]) ∧ EntsAt w'.heap.size w' (.slice a1 n1 c1) (es.filter P) ∧ EntsAt w'.heap.size w' (.slice a2 n2 c2) (es.filter fun x => !P x) ∧ ((FreshS w.heap.size (.slice a1 n1 c1) ∧ FreshS w.heap.size (.slice a2 n2 c2)) ∧ NilS (.slice a1 n1 c1) ∧ NilS (.slice a2 n2 c2)) ∧ Below w.heap.size w w'

set_option maxRecDepth 100000 in
set_option maxHeartbeats 4000000 in
theorem part_in (fi : Nat) (lb : Array Value) (P : Ent → Bool) (B : Nat) (es : List Ent) (x1 x2 : Int) (a : Option Addr) (c : Nat) (w : World) (hlen : es.length ≤ 1073741824)
    (hB : w.heap[B]? = some (.cells #[.int .i64 x1, .int .i64 x2, .slice a es.length c] 32 (0, 0))) (hE : EntsAt w.heap.size w (.slice a es.length c) es)
    (eg : ∀ args W, (callFunc fi args).run Try.prog W = .ok (.enter fi args) W)
    (hcall : ∀ (x : Ent) W, Below w.heap.size w W → Calls Try.prog fi (#[.agg x.cells] ++ lb) W fun e W' => e = .returned (.bool (P x)) ∧ Below W.heap.size W W') :
    CallsIn Fence.wide 3 Try.prog 23 #[.func (.func 34) #[] #[.pointer (some ⟨B, 0, none⟩)], .func (.func fi) #[] lb] w (Parted P es w) := by
  obtain ⟨i0, hi, hz0, hz1, hz2⟩ := info_parts4 infoEnt
  have HCALL := Lib.hid hcall
  have HLEN := Lib.hid hlen
  have HB := Lib.hid hB
  have HE := Lib.hid hE
  clear hlen hcall hB hE
  refine callsIn_of_wp_marks Try.func23 rfl trivial ?_ rfl
  simp only [Try.ntmps23, List.size_toArray, List.length_cons, List.length_nil, Nat.reduceAdd, Nat.reduceSub, Array.replicate_succ, Array.replicate_zero, List.push_toArray, List.append_toArray, List.nil_append, List.cons_append]
  gi_wp2
  obtain ⟨w3, hw3⟩ : ∃ w3, ((w.alloc (.cells #[.func (.func fi) #[] lb] 61)).alloc (.cells #[.slice none 0 0] 30)).alloc (.cells #[.slice none 0 0] 30) = w3 := ⟨_, rfl⟩
  have z3 : w3.heap.size = w.heap.size + 3 := by rw [← hw3]; simp
  have b3 : Below w.heap.size w w3 := by rw [← hw3]; exact (((Below.refl _ w).alloc (Nat.le_refl _) _).alloc (by simp) _).alloc (by simp; omega) _
  have hrF : Boxed w3 w.heap.size 61 (.func (.func fi) #[] lb) := by rw [← hw3]; exact ((Boxed.new w _ _).alloc _).alloc _
  have hr1 : Boxed w3 (w.heap.size + 1) 30 (.slice none 0 0) := by
    rw [← hw3]
    have := Boxed.new (w.alloc (.cells #[.func (.func fi) #[] lb] 61)) 30 (.slice none 0 0)
    rw [World.size_alloc] at this
    exact this.alloc _
  have hr2 : Boxed w3 (w.heap.size + 2) 30 (.slice none 0 0) := by
    rw [← hw3]
    have := Boxed.new ((w.alloc (.cells #[.func (.func fi) #[] lb] 61)).alloc (.cells #[.slice none 0 0] 30)) 30 (.slice none 0 0)
    rw [World.size_alloc, World.size_alloc] at this
    exact this
  have HP0 : Hid (PartIs w.heap.size (w.heap.size + 1) (w.heap.size + 2) [] [] w3) := ⟨_, _, ⟨hr1, World.ownsRow_nil _ _ _ _⟩, ⟨hr2, World.ownsRow_nil _ _ _ _⟩, .inl rfl⟩
  rw [hw3]
  have hB3 : w3.heap[B]? = _ := (b3.block B (blk_lt HB.out)).trans HB.out
  clear hw3 hr1 hr2
  refine rangeFunc_boxed rfl (by decide) (gf := 34) (lb := #[.pointer (some ⟨B, 0, none⟩)]) rfl trivial (enters_of Try.func34 (by kernel_rfl) rfl)
    (all_stops Fence.wide 2 trivial rfl (by decide) B (fun k => k < w.heap.size) es x1 x2 a c (by have := HLEN.out; omega) w3 w.heap.size (fun _ h => h) hB3 (HE.out.below b3) (by omega)) keepsAt_t keepsAt_b (Below.refl _ _) (fun _ => rfl)
    (fun xs W => (PartIs w.heap.size (w.heap.size + 1) (w.heap.size + 2) (doneE P es xs) (doneE (fun x => !P x) es xs) W ∧ Boxed W w.heap.size 61 (.func (.func fi) #[] lb)) ∧ Below w.heap.size w W ∧ w3.heap.size ≤ W.heap.size)
    (fun _ _ _ => False)
    (OwnFrom.and (OwnFrom.and (Own.from (partIs_own _ _ _ _ _) _) (ownFrom_boxed1 _ _ _ _)) (OwnFrom.and (ownFrom_below (Nat.le_refl _) (by omega)) (ownFrom_size _ _)))
    (fun _ _ _ _ _ hs _ _ => hs) ⟨⟨HP0.out, hrF⟩, b3, Nat.le_refl _⟩
    40 (fun i => (es[i]?.getD default).cells) (fun _ _ h => h.2.2) (fun W o => KeepsAt.alloc W o) ?round ?done ?stop
  case round =>
    apply Exists.intro
    apply And.intro
    · intro l x W b K hb hK
      unfold Ent.cells
      gi_wp2
      rw [← hb]
      exact hK
    · rintro l pre x b W ⟨⟨hP, hF⟩, hb, hsz⟩ hbl hbk hlt
      have k1 : (1 : Nat) ≤ 3 - 1 - 1 := by decide
      have cF := hF.cell
      have HXL := Lib.hid (show ∀ Q, (es[x]?.getD default) = Q → doneE P es (pre ++ [x]) = doneE P es pre ++ (if P Q then [Q] else []) ∧ doneE (fun x => !P x) es (pre ++ [x]) = doneE (fun x => !P x) es pre ++ (if (!P Q) then [Q] else []) from fun Q hQ => by subst hQ; exact ⟨doneE_snoc P es pre x, doneE_snoc (fun x => !P x) es pre x⟩)
      have HLN := Lib.hid (show (doneE P es pre).length ≤ 1073741824 ∧ (doneE (fun x => !P x) es pre).length ≤ 1073741824 from ⟨Nat.le_trans (doneE_len _ _ _) (by have := HLEN.out; omega), Nat.le_trans (doneE_len _ _ _) (by have := HLEN.out; omega)⟩)
      generalize (es[x]?.getD default) = y at hbk HXL
      have HY := Lib.hid (HXL.out y rfl)
      generalize doneE P es pre = xs at *
      generalize doneE (fun x => !P x) es pre = ys at *
      have HC := Lib.hid (HCALL.out y W hb)
      have t1 : Fence.wide.fn fi := trivial
      have hwsz : w.heap.size + 3 ≤ W.heap.size := by omega
      have d0 : W.cell? ⟨b, 0, none⟩ = some (.int .u64 (U y.hash)) := blk_cell hbk 0
      have d1 : W.cell? ⟨b, 1, none⟩ = some (.int .i64 y.reg) := blk_cell hbk 1
      have d2 : W.cell? ⟨b, 2, none⟩ = some (.int .i64 y.at_) := blk_cell hbk 2
      have d3 : W.cell? ⟨b, 3, none⟩ = some (.int .i64 y.size) := blk_cell hbk 3
      have HF := Lib.hid hF
      have HPP := Lib.hid hP
      have HB0 := Lib.hid hb
      have HBK := Lib.hid hbk
      have HSZ := Lib.hid hwsz
      have HZ3 := Lib.hid z3
      unfold Ent.cells at HC
      clear hF hP hb hbl hbk hlt hsz HXL hrF HP0 z3 b3 hB3 hwsz
      cases hp : P y with
      | true =>
        rw [hp] at HC
        simp only [hp, if_true, Bool.not_true, Bool.false_eq_true, if_false, List.append_nil] at HY
        clear hp
        gi_wp2_with (first
          | ((with_reducible refine (CallsIn.inRound l (callsIn_wide.2 HC.out)).mono ?_); rintro e w1 ⟨rfl, hb1⟩; obtain ⟨v1, v2, ⟨p1, r1⟩, ⟨p2, r2⟩, hne⟩ := (HPP.out).below hb1; have e0 := (hb1.cell (p := ⟨b, 0, none⟩) (blk_lt HBK.out)).trans d0; have e1 := (hb1.cell (p := ⟨b, 1, none⟩) (blk_lt HBK.out)).trans d1; have e2 := (hb1.cell (p := ⟨b, 2, none⟩) (blk_lt HBK.out)).trans d2; have e3 := (hb1.cell (p := ⟨b, 3, none⟩) (blk_lt HBK.out)).trans d3; have cB := p1.cell; have HB1 := Lib.hid hb1; have HV1 := Lib.hid p1; have HR1 := Lib.hid r1; have HV2 := Lib.hid p2; have HR2 := Lib.hid r2; have HNE := Lib.hid hne; have HSW := Lib.hid (Nat.le_trans HSZ.out hb1.size); clear hb1 p1 p2 r1 r2 hne d0 d1 d2 d3)
          | (gi_at_builtin; (refine wpListIn_append_own_at _ rfl _ _ 30 rfl w.heap.size 40 i0 _ 4 32 Try.underlying30 hi hz0 hz1 hz2 rfl (by decide) v1 xs.length (ents xs) rfl (HR1.out.alloc _) ⟨_, 0, none⟩ 1 1 y.cells.toList rfl rfl (ent_new _ y) y.one (by have := HLN.out; unfold maxLen; omega) (by have := HLN.out; omega) (by have := HSW.out; simp; omega) ?_); intro v' w2 hown hgrow hnil hat; obtain ⟨g, cc, rfl⟩ := ownsRow_succ hown; obtain ⟨s1, s2, s3, s4, s5⟩ := part_put (zs := xs ++ [y]) HV1.out HR1.out HV2.out HR2.out HNE.out (by have := HSW.out; omega) (by omega) (by omega) (by rw [ents_snoc]) (by simp) hown hgrow hat; have cB1 := s1.cell; have fB1 := s1.frozen; have HS2 := Lib.hid s2; have HS3 := Lib.hid s3; have HS4 := Lib.hid s4; have HS5 := Lib.hid s5; clear hown hgrow hnil hat s1 s2 s3 s4 s5))
        have hB2 : Below w.heap.size W w1 := HB1.out.mono (by have := HSZ.out; omega)
        refine ⟨((keepsOthers_below HB1.out).trans HS3.out).from _, KeepsAt.of_below (hB2.trans HS4.out) (fun _ h => h), ⟨⟨?_, ?_⟩, HB0.out.trans (hB2.trans HS4.out), ?_⟩⟩
        · show PartIs _ _ _ (doneE P es (pre ++ [x])) (doneE (fun x => !P x) es (pre ++ [x])) _
          rw [HY.out.1, HY.out.2]
          exact HS2.out
        · have hlt := HF.out.lt
          have f1 : Boxed w1 w.heap.size 61 (.func (.func fi) #[] lb) := (HB1.out.block _ HF.out.lt).trans HF.out
          exact HS5.out _ ⟨by omega, fun e => f1.not_row (by decide) HR1.out e.symm⟩ _ _ _ f1
        · refine Nat.le_trans ?_ HS4.out.size
          have := HB1.out.size
          have := HSZ.out
          rw [HZ3.out]; omega
      | false =>
        rw [hp] at HC
        simp only [hp, if_true, Bool.not_false, Bool.false_eq_true, if_false, List.append_nil] at HY
        clear hp
        gi_wp2_with (first
          | ((with_reducible refine (CallsIn.inRound l (callsIn_wide.2 HC.out)).mono ?_); rintro e w1 ⟨rfl, hb1⟩; obtain ⟨v1, v2, ⟨p1, r1⟩, ⟨p2, r2⟩, hne⟩ := (HPP.out.swap).below hb1; have e0 := (hb1.cell (p := ⟨b, 0, none⟩) (blk_lt HBK.out)).trans d0; have e1 := (hb1.cell (p := ⟨b, 1, none⟩) (blk_lt HBK.out)).trans d1; have e2 := (hb1.cell (p := ⟨b, 2, none⟩) (blk_lt HBK.out)).trans d2; have e3 := (hb1.cell (p := ⟨b, 3, none⟩) (blk_lt HBK.out)).trans d3; have cB := p1.cell; have HB1 := Lib.hid hb1; have HV1 := Lib.hid p1; have HR1 := Lib.hid r1; have HV2 := Lib.hid p2; have HR2 := Lib.hid r2; have HNE := Lib.hid hne; have HSW := Lib.hid (Nat.le_trans HSZ.out hb1.size); clear hb1 p1 p2 r1 r2 hne d0 d1 d2 d3)
          | (gi_at_builtin; (refine wpListIn_append_own_at _ rfl _ _ 30 rfl w.heap.size 40 i0 _ 4 32 Try.underlying30 hi hz0 hz1 hz2 rfl (by decide) v1 ys.length (ents ys) rfl (HR1.out.alloc _) ⟨_, 0, none⟩ 1 1 y.cells.toList rfl rfl (ent_new _ y) y.one (by have := HLN.out; unfold maxLen; omega) (by have := HLN.out; omega) (by have := HSW.out; simp; omega) ?_); intro v' w2 hown hgrow hnil hat; obtain ⟨g, cc, rfl⟩ := ownsRow_succ hown; obtain ⟨s1, s2, s3, s4, s5⟩ := part_put (zs := ys ++ [y]) HV1.out HR1.out HV2.out HR2.out HNE.out (by have := HSW.out; omega) (by omega) (by omega) (by rw [ents_snoc]) (by simp) hown hgrow hat; have cB1 := s1.cell; have fB1 := s1.frozen; have HS2 := Lib.hid s2; have HS3 := Lib.hid s3; have HS4 := Lib.hid s4; have HS5 := Lib.hid s5; clear hown hgrow hnil hat s1 s2 s3 s4 s5))
        have hB2 : Below w.heap.size W w1 := HB1.out.mono (by have := HSZ.out; omega)
        refine ⟨((keepsOthers_below HB1.out).trans HS3.out).from _, KeepsAt.of_below (hB2.trans HS4.out) (fun _ h => h), ⟨⟨?_, ?_⟩, HB0.out.trans (hB2.trans HS4.out), ?_⟩⟩
        · show PartIs _ _ _ (doneE P es (pre ++ [x])) (doneE (fun x => !P x) es (pre ++ [x])) _
          rw [HY.out.1, HY.out.2]
          exact HS2.out.swap
        · have hlt := HF.out.lt
          have f1 : Boxed w1 w.heap.size 61 (.func (.func fi) #[] lb) := (HB1.out.block _ HF.out.lt).trans HF.out
          exact HS5.out _ ⟨by omega, fun e => f1.not_row (by decide) HR1.out e.symm⟩ _ _ _ f1
        · refine Nat.le_trans ?_ HS4.out.size
          have := HB1.out.size
          have := HSZ.out
          rw [HZ3.out]; omega
  case done =>
    rintro D ys W hD rfl ⟨⟨hP, _⟩, hb, hsz⟩ hK
    rw [doneE_all, doneE_all] at hP
    obtain ⟨v1, v2, ⟨p1, r1⟩, ⟨p2, r2⟩, hne⟩ := hP
    obtain ⟨a1, q1, rfl⟩ := owns_slice r1
    obtain ⟨a2, q2, rfl⟩ := owns_slice r2
    have c1 := p1.cell
    have c2 := p2.cell
    have f1 := p1.frozen
    have f2 := p2.frozen
    gi_wp2
    have HE1 : Hid (EntsAt W.heap.size W (.slice a1 (es.filter P).length q1) (es.filter P)) := EntsAt.of_owns r1 rfl
    have HE2 : Hid (EntsAt W.heap.size W (.slice a2 (es.filter fun x => !P x).length q2) (es.filter fun x => !P x)) := EntsAt.of_owns r2 rfl
    have HFR : Hid ((FreshS w.heap.size (.slice a1 (es.filter P).length q1) ∧ FreshS w.heap.size (.slice a2 (es.filter fun x => !P x).length q2)) ∧ NilS (.slice a1 (es.filter P).length q1) ∧ NilS (.slice a2 (es.filter fun x => !P x).length q2)) := ⟨⟨fun k e => (r1.lt k e).1, fun k e => (r2.lt k e).1⟩, owns_nil r1, owns_nil r2⟩
    have HN1 := Lib.hid (p1.not_row (by decide) r1)
    have HN2 := Lib.hid (p1.not_row (by decide) r2)
    have HM1 := Lib.hid (p2.not_row (by decide) r1)
    have HM2 := Lib.hid (p2.not_row (by decide) r2)
    have HP1 := Lib.hid p1
    have HP2 := Lib.hid p2
    have HKK := Lib.hid hK
    have HBW := Lib.hid hb
    clear r1 r2 p1 p2 hK hb hne
    generalize (es.filter P).length = n1 at *
    generalize (es.filter fun x => !P x).length = n2 at *
    gi_region
    obtain ⟨W2, hW2⟩ : ∃ W2, ((W.setCell ⟨w.heap.size + 1, 0, none⟩ (.slice a1 n1 q1)).setCell ⟨w.heap.size + 2, 0, none⟩ (.slice a2 n2 q2)).drew = W2 := ⟨_, rfl⟩
    have e1 : Boxed W2 (w.heap.size + 1) 30 (.slice a1 n1 q1) := by rw [← hW2]; exact (HP1.out.set _).other (by omega) _
    have e2 : Boxed W2 (w.heap.size + 2) 30 (.slice a2 n2 q2) := by rw [← hW2]; exact (HP2.out.other (by omega) _).set _
    have HK2 := Lib.hid (show KeepsAt (fun k => k ≠ w.heap.size + 1 ∧ k ≠ w.heap.size + 2) W W2 by
      rw [← hW2]
      exact (KeepsAt.setCell _ _ _ (fun h => h.1 rfl)).trans (KeepsAt.setCell _ _ _ (fun h => h.2 rfl)))
    have e3 : W2.heap[D]? = some (.deferred (some [])) := by
      rw [← hW2]
      exact ((KeepsOthers.setCell _ _ _).trans (KeepsOthers.setCell _ _ _)).same _ _ HKK.out rfl
    have HB2 := Lib.hid (show Below w.heap.size w W2 by
      rw [← hW2]
      exact ((HBW.out.setCell (p := ⟨w.heap.size + 1, 0, none⟩) (Nat.le_add_right _ _) _).setCell (p := ⟨w.heap.size + 2, 0, none⟩) (Nat.le_add_right _ _) _).drew)
    have HSZ2 := Lib.hid (show W.heap.size ≤ W2.heap.size by rw [← hW2]; simp [World.setCell, World.drew])
    rw [show ((W.setCell ⟨w.heap.size + 1, 0, none⟩ (.slice a1 n1 q1)).setCell ⟨w.heap.size + 1 + 1, 0, none⟩ (.slice a2 n2 q2)).drew = W2 from hW2]
    have c1 := e1.cell
    have c2 := e2.cell
    clear hW2 f1 f2
    gi_wp2
    refine ⟨by simp, .inl ⟨_, _, rfl, run_takeDeferred e3, ?_⟩⟩
    have hk := KeepsAt.put (S := fun _ => True) W2 D _ (.deferred none) e3 rfl
    refine ⟨_, part_res _ _ _ _ _ _ rfl rfl (hk.cell trivial c1) (hk.cell trivial c2), a1, n1, q1, a2, n2, q2, rfl, ?_, ?_, HFR.out, ?_⟩
    · refine ((HE1.out.keep HK2.out (fun k e hk => ⟨fun h => HN1.out (by rw [← h]; exact e.symm), fun h => HM1.out (by rw [← h]; exact e.symm)⟩) HSZ2.out).keep hk (fun _ _ _ => trivial) (Nat.le_of_eq ?_))
      simp
    · refine ((HE2.out.keep HK2.out (fun k e hk => ⟨fun h => HN2.out (by rw [← h]; exact e.symm), fun h => HM2.out (by rw [← h]; exact e.symm)⟩) HSZ2.out).keep hk (fun _ _ _ => trivial) (Nat.le_of_eq ?_))
      simp
    · exact HB2.out.trans ((Below.refl _ W2).grown (grownBy_putObj' _ D _) (by have := (Array.getElem?_eq_some_iff.1 e3).1; have := HB2.out.size; omega) (fun k e => by cases e; omega))
  case stop =>
    rintro D c pre W _ _ h _
    exact h.elim
theorem part_any (fi : Nat) (lb : Array Value) (P : Ent → Bool) (B : Nat) (es : List Ent) (x1 x2 : Int) (a : Option Addr) (c : Nat) (w : World) (hlen : es.length ≤ 1073741824)
    (hB : w.heap[B]? = some (.cells #[.int .i64 x1, .int .i64 x2, .slice a es.length c] 32 (0, 0))) (hE : EntsAt w.heap.size w (.slice a es.length c) es)
    (eg : ∀ args W, (callFunc fi args).run Try.prog W = .ok (.enter fi args) W)
    (hcall : ∀ (x : Ent) W, Below w.heap.size w W → Calls Try.prog fi (#[.agg x.cells] ++ lb) W fun e W' => e = .returned (.bool (P x)) ∧ Below W.heap.size W W') :
    Calls Try.prog 23 #[.func (.func 34) #[] #[.pointer (some ⟨B, 0, none⟩)], .func (.func fi) #[] lb] w (Parted P es w) :=
  callsIn_wide.1 (part_in fi lb P B es x1 x2 a c w hlen hB hE eg hcall)
end Go.Proofs.Ytpihncafmjbccaa

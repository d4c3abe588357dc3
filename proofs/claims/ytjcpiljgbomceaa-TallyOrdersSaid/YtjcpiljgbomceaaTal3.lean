/-
  tally: the range over all counts; All, Since.
  Conditions: none.
-/
import Derived.Test.YtjcpiljgbomceaaTal2
import Derived.Maps.OwnIn
import Derived.Test.YtjcpiljgbomceaaQuietT
namespace Go.Proofs.Ytjcpiljgbomceaa
open Go.RowKit Go.Shelf
attribute [local go_sem] Oper.semAt_some

theorem TalIs.keeps {w w' : World} {p : Value} {l : List Int} (h : TalIs w p l) {S : Nat → Prop} (hb : KeepsAt S w w') (hS : ∀ k, k < w.heap.size → S k) : TalIs w' p l := by
  rcases h with h | ⟨T, g, rfl, h⟩
  · exact .inl h
  · exact .inr ⟨T, g, rfl, h.keeps hb (hS _ (blk_lt h.blk)) (hS _ (blk_lt h.row))⟩
theorem TalIs.same {w w' : World} {p : Value} {l : List Int} (h : TalIs w p l) (hb : Below w.heap.size w w') : TalIs w' p l :=
  h.keeps (KeepsAt.of_below (S := fun k => k < w.heap.size) hb fun _ h => h) fun _ h => h
theorem TalIs.len {w : World} {p : Value} {l : List Int} (h : TalIs w p l) : l.length ≤ 64 := by
  rcases h with ⟨_, rfl⟩ | ⟨T, g, _, h⟩
  · simp
  · exact h.ok.1

set_option maxRecDepth 100000 in
set_option maxHeartbeats 1000000 in
theorem all1_in (F : Fence) (n : Nat) (h6 : F.fn 20) (h7 : F.fn 18) (hro : F.round = none) (hn : 1 ≤ n)
    (hhas : ∀ (W : World) (p : Value) (l : List Int) (i : Int) (b : Bool), TalIs W p l → hasK l i = b → CallsIn F (n - 1) Try.prog 18 #[p, .int .i64 i] W fun e w' => e = .returned (.bool b) ∧ W = w')
    (l B : Nat) (S : Nat → Prop) (p : Value) (es : List Int) (J Jx : List Nat → World → Prop)
    (W : World)
    (hY : ∀ pre x W, J pre W → pre.length < es.length → YieldAt F (n - 1) Try.prog l #[.int .i64 (x : Nat), .int .i64 (es[x]?.getD 0)] W fun e W' =>
      (e = .returned (.bool true) ∧ J (pre ++ [x]) W' ∧ KeepsAt S W W') ∨ (e = .returned (.bool false) ∧ Jx (pre ++ [x]) W'))
    (hB : W.heap[B]? = some (.cells #[p] 24 (0, 0))) (hBn : S B) (hT : ∀ W', KeepsAt S W W' → TalIs W' p es) (h0 : J [] W) :
    CallsIn F n Try.prog 20 #[.func (.yield l) #[] #[], .pointer (some ⟨B, 0, none⟩)] W fun e W' => (∃ v, e = .returned v) ∧
      ((∃ ys, ys = List.range es.length ∧ J ys W') ∨ (∃ pre, (∃ k, k ≤ es.length ∧ pre = List.range k) ∧ Jx pre W')) := by
  have hlen := (hT W (KeepsAt.refl _ _)).len
  have hl : (es.length : Int) ≤ 64 := by omega
  have HB := Lib.hid hB
  have HT := Lib.hid hT
  have HY := Lib.hid hY
  have HHAS := Lib.hid hhas
  clear hB hT hY hhas
  refine callsIn_of_wp Try.func20 rfl h6 ?_ hro
  simp only [Try.ntmps20, List.size_toArray, List.length_cons, List.length_nil, Nat.reduceAdd, Nat.reduceSub, Array.replicate_succ, Array.replicate_zero, List.push_toArray, List.append_toArray, List.nil_append, List.cons_append]
  gi_wp2
  gi_loopw [3] (fun i wr => ∃ k : Nat, k ≤ es.length ∧ i = .int .i64 k ∧ J (List.range k) wr ∧ KeepsAt S W wr)
    (fun i _ => es.length - (intOf i).toNat)
  case atStart => exact ⟨0, Nat.zero_le _, rfl, h0, KeepsAt.refl _ _⟩
  case round =>
    obtain ⟨k, hk, rfl, hJs, hnx⟩ := hrel
    have cB : wr.cell? ⟨B, 0, none⟩ = some p := hnx.cell (p := ⟨B, 0, none⟩) hBn (blk_cell HB.out 0)
    have hti := HT.out _ hnx
    by_cases hlt : k < es.length
    · have HK := Lib.hid (HHAS.out wr p es k true hti (hasK_yes hlt))
      obtain ⟨T, g, rfl, hta⟩ : ∃ T g, p = .pointer (some ⟨T, 0, none⟩) ∧ TalAt wr T g es := by
        rcases hti with ⟨_, rfl⟩ | h
        · simp at hlt
        · exact h
      have c0 := hta.cells
      have c1 := hta.count hlt
      have k1 : (k : Int) < es.length := by omega
      have HNX := Lib.hid hnx
      have HYR : Hid (YieldAt F (n - 1) Try.prog l #[.int .i64 (k : Nat), .int .i64 (es[k]?.getD 0)] wr fun e W' => (e = .returned (.bool true) ∧ J (List.range (k + 1)) W' ∧ KeepsAt S wr W') ∨ (e = .returned (.bool false) ∧ Jx (List.range (k + 1)) W')) := by
        have := HY.out (List.range k) k wr hJs (by simpa using hlt)
        rw [← List.range_succ] at this
        exact this
      clear hta hti hnx hJs
      generalize (es[k]?.getD 0) = x at *
      obtain ⟨fn, tmps, assign, body, hy, hR⟩ := HYR.out
      gi_wp2_with (gi_at_call 18; (with_reducible refine HK.out.mono ?_); rintro e w' ⟨rfl, rfl⟩)
      refine hR.mono ?_
      rintro e W3 (⟨rfl, hJ3, hk3⟩ | ⟨rfl, hJx3⟩)
      · gi_wp2
        go_roundw
        case rel => exact ⟨k + 1, by omega, by simp, hJ3, HNX.out.trans hk3⟩
        case measure => simp [intOf]; omega
      · gi_wp2
        refine bodyPost_ret (results_none rfl _ _ _) rfl ?_
        exact ⟨⟨_, rfl⟩, .inr ⟨_, ⟨k + 1, by omega, rfl⟩, hJx3⟩⟩
    · obtain rfl : k = es.length := by omega
      have HK := Lib.hid (HHAS.out wr p es (es.length : Nat) false hti (hasK_no (.inr (Int.le_refl _))))
      have HJS := Lib.hid hJs
      rcases hti with ⟨rfl, hz⟩ | ⟨T, g, rfl, hz⟩
      all_goals
        clear hnx hJs hz
        gi_wp2_with (gi_at_call 18; (with_reducible refine HK.out.mono ?_); rintro e w' ⟨rfl, rfl⟩)
        go_end0
        exact ⟨⟨_, rfl⟩, .inl ⟨_, rfl, HJS.out⟩⟩
theorem all_stops (S : Nat → Prop) (p : Value) (es : List Int) (B : Nat) (w : World) (hB : w.heap[B]? = some (.cells #[p] 24 (0, 0))) (hSB : S B) (hS : ∀ b, S b → b < w.heap.size) (hT : ∀ W', KeepsAt S w W' → TalIs W' p es) :
    SeqStopsK Fence.wide 2 Try.prog 20 #[.pointer (some ⟨B, 0, none⟩)] (fun k : Nat => #[.int .i64 k, .int .i64 (es[k]?.getD 0)]) (KeepsAt S) (fun ys => ys = List.range es.length) (fun pre => ∃ k, k ≤ es.length ∧ pre = List.range k) es.length w :=
  fun l J Jx W hW _ _ hY h0 =>
    all1_in Fence.wide 2 trivial trivial rfl (by decide) (fun W p l i b h hb => callsIn_wide (n := 1).2 (has_eq h i hb)) l B S p es J Jx W hY ((hW.block B (blk_lt hB)).trans hB) hSB
      (fun W' hk => hT W' ((KeepsAt.of_below hW hS).trans hk)) h0

set_option maxHeartbeats 400000 in
theorem all_in (p : Value) (hp : p = .pointer none ∨ ∃ a, p = .pointer (some a)) (w : World) :
    CallsIn Fence.wide 2 Try.prog 17 #[p] w fun e w' => e = .returned (.func (.func 20) #[] #[.pointer (some ⟨w.heap.size, 0, none⟩)]) ∧ w.alloc (.cells #[p] 24) = w' := by
  refine callsIn_of_wp Try.func17 rfl trivial ?_ rfl
  simp only [Try.ntmps17, List.size_toArray, List.length_cons, List.length_nil, Nat.reduceAdd, Nat.reduceSub, Array.replicate_succ, Array.replicate_zero, List.push_toArray, List.append_toArray, List.nil_append, List.cons_append]
  rcases hp with rfl | ⟨a, rfl⟩
  · gi_wp2
    go_ret
    exact ⟨rfl, rfl⟩
  · gi_wp2
    go_ret
    exact ⟨rfl, rfl⟩
theorem TalIs.ptr {w : World} {p : Value} {l : List Int} (h : TalIs w p l) : p = .pointer none ∨ ∃ a, p = .pointer (some a) := by
  rcases h with ⟨rfl, _⟩ | ⟨T, g, rfl, _⟩
  · exact .inl rfl
  · exact .inr ⟨_, rfl⟩
/-- A row of ints in a box, in new memory. -/
def BoxInts (n₀ B : Nat) (xs : List Int) (W : World) : Prop := ∃ v, Boxed W B 23 v ∧ W.ownsRow n₀ 3 1 v xs.length (ints xs)
theorem boxed_kept1 {X Y : World} {row : Option Nat} {B : Nat} {t : TypeId} {v : Value} (hv : Boxed X B t v) (hg : X.grownBy Y row) (hrow : ∀ r, row = some r → ∃ o : Obj, X.heap[r]? = some o ∧ o.isCells = false) : Boxed Y B t v := by
  refine hv.kept hg fun e' => ?_
  obtain ⟨o, ho, hc⟩ := hrow B e'.symm
  rw [show X.heap[B]? = _ from hv] at ho; cases ho; cases hc
theorem row_kept1 {X Y : World} {row : Option Nat} {n₀ : Nat} {e : TypeId} {size n : Nat} {v : Value} {xs : List Value} (hr : X.ownsRow n₀ e size v n xs) (hg : X.grownBy Y row) (hrow : ∀ r, row = some r → ∃ o : Obj, X.heap[r]? = some o ∧ o.isCells = false) : Y.ownsRow n₀ e size v n xs := by
  refine hr.kept hg ?_
  rcases hr.2 with ⟨rfl, _⟩ | ⟨g, cap, cur, rfl, _, hgb, _⟩
  · exact .inl rfl
  · refine .inr fun e' => ?_
    obtain ⟨o, ho, hc⟩ := hrow g (by simpa [Value.ownBlock] using e'.symm)
    rw [hgb] at ho; cases ho; cases hc
theorem boxInts_own {β : Type} (n₀ B : Nat) (f : β → List Int) : Own (fun s W => BoxInts n₀ B (f s) W) := by
  rintro s X Y row ⟨v, b, r⟩ hg hrow
  exact ⟨v, boxed_kept1 b hg hrow, row_kept1 r hg hrow⟩
theorem ownFrom_size {β : Type} (B N : Nat) : OwnFrom B (fun (_ : β) W => N ≤ W.heap.size) := fun _ _ _ _ hs hg _ => Nat.le_trans hs hg.size
/-- 'list = append(list, x)'. -/
theorem box_put {W w1 : World} {n₀ B : Nat} {xs zs : List Int} {v v' : Value} {tmp : Obj} {m : Nat} {cs : List Value} (b : Boxed W B 23 v) (r : W.ownsRow n₀ 3 1 v xs.length (ints xs))
    (hn₀ : n₀ ≤ W.heap.size) (hB : n₀ ≤ B) (hcs : cs = ints zs) (hm : m = zs.length) (hown : w1.ownsRow n₀ 3 1 v' m cs) (hgrow : (W.alloc tmp).grownBy w1 v.ownBlock) :
    Boxed w1 B 23 v ∧ BoxInts n₀ B zs (w1.setCell ⟨B, 0, none⟩ v') ∧ KeepsOthers W (w1.setCell ⟨B, 0, none⟩ v') ∧ Below n₀ W (w1.setCell ⟨B, 0, none⟩ v') := by
  subst hcs hm
  obtain ⟨q1, q2, q3, q4, q5⟩ := Boxed.appended b (by decide) r hn₀ hB hown hgrow
  exact ⟨q1, ⟨v', q2, q3⟩, q4, q5⟩
theorem int_new (W : World) (x : Int) : ∀ (j : Nat) (u : Value), (ints [x])[j]? = some u → (W.alloc (.cells #[.int .i64 x] 3)).cell? ((⟨W.heap.size, 0, none⟩ : Addr).add j) = some u := by
  intro j u hj
  rw [add_plain, Nat.zero_add, blk_cell (heap_alloc_new _ _)]
  simpa [ints] using hj
/-- What has come of those at these places. -/
def doneI (f : Nat → Int) (k : List Nat) : List Int := k.map f
theorem doneI_snoc (f : Nat → Int) (pre : List Nat) (x : Nat) : doneI f (pre ++ [x]) = doneI f pre ++ [f x] := by simp [doneI]
theorem owns_slice1 {w : World} {base : Nat} {e : TypeId} {size n : Nat} {v : Value} {xs : List Value} (h : w.ownsRow base e size v n xs) : ∃ a cap, v = .slice a n cap := owns_slice h
theorem doneI_all (es : List Int) : doneI (fun i => es[i]?.getD 0) (List.range es.length) = es := by
  unfold doneI
  refine List.ext_getElem (by simp) fun i h1 h2 => ?_
  simp [h2]
theorem keepsAt_own {β : Type} (B0 : Nat) (S : Nat → Prop) (w0 : World) : OwnFrom B0 (fun (_ : β) W => KeepsAt S w0 W) := by
  rintro s X Y row hk hg hrow b hb c t z e
  have h1 := hk b hb c t z e
  refine (hg.block b (Array.getElem?_eq_some_iff.1 h1).1 (fun e' => ?_)).trans h1
  obtain ⟨_, o, ho, hc⟩ := hrow b e'.symm
  rw [h1] at ho; cases ho; cases hc
theorem box_keeps {S : Nat → Prop} {W w1 : World} {B : Nat} {v v' : Value} {tmp : Obj} (hSB : ¬ S B) (hSv : ∀ k, v.ownBlock = some k → ¬ S k) (hgrow : (W.alloc tmp).grownBy w1 v.ownBlock) : KeepsAt S W (w1.setCell ⟨B, 0, none⟩ v') :=
  ((KeepsAt.alloc W _).trans (KeepsAt.grown hgrow hSv)).trans (KeepsAt.setCell _ _ _ hSB)
/-- A row in new memory. -/
def FreshI (n : Nat) (v : Value) : Prop := ∀ k, v.ownBlock = some k → n ≤ k
/-- What a row of new memory answers. -/
def RowDid (l : List Int) (w : World) (e : Ending) (w' : World) : Prop := ∃ v, e = .returned v ∧ IntsAt w'.heap.size w' v l ∧ FreshI w.heap.size v ∧ Below w.heap.size w w'
set_option maxRecDepth 100000 in
set_option maxHeartbeats 2000000 in
theorem All_in {w : World} {p : Value} {es : List Int} (h : TalIs w p es) :
    CallsIn Fence.wide 3 Try.prog 8 #[p] w (RowDid es w) := by
  obtain ⟨i0, hi, hz0, hz1, hz2⟩ := info_partsI infoInt
  have hlen := h.len
  have HT := Lib.hid h
  have hp := h.ptr
  clear h
  refine callsIn_of_wp_marks Try.func8 rfl trivial ?_ rfl
  simp only [Try.ntmps8, List.size_toArray, List.length_cons, List.length_nil, Nat.reduceAdd, Nat.reduceSub, Array.replicate_succ, Array.replicate_zero, List.push_toArray, List.append_toArray, List.nil_append, List.cons_append]
  have t1 : Fence.wide.fn 17 := trivial
  have HALL := Lib.hid (fun W => all_in p hp W)
  gi_wp2_with (gi_at_call 17; (with_reducible refine (HALL.out _).mono ?_); rintro e w' ⟨rfl, rfl⟩)
  obtain ⟨w3, hw3⟩ : ∃ w3, (w.alloc (.cells #[.slice none 0 0] 23)).alloc (.cells #[p] 24) = w3 := ⟨_, rfl⟩
  have z3 : w3.heap.size = w.heap.size + 2 := by rw [← hw3]; simp
  have b3 : Below w.heap.size w w3 := by rw [← hw3]; exact ((Below.refl _ w).alloc (Nat.le_refl _) _).alloc (by simp) _
  have hr1 : Boxed w3 w.heap.size 23 (.slice none 0 0) := by rw [← hw3]; exact (Boxed.new w _ _).alloc _
  have hb3 : w3.heap[w.heap.size + 1]? = some (.cells #[p] 24 (0, 0)) := by
    rw [← hw3]
    have := heap_alloc_new (w.alloc (.cells #[.slice none 0 0] 23)) (.cells #[p] 24)
    rwa [World.size_alloc] at this
  rw [hw3]
  clear hw3
  refine rangeFunc_open rfl (by decide) (gf := 20) (lb := #[.pointer (some ⟨w.heap.size + 1, 0, none⟩)]) rfl trivial (enters_of Try.func20 (by kernel_rfl) rfl)
    (all_stops (fun k => k < w.heap.size ∨ k = w.heap.size + 1) p es (w.heap.size + 1) w3 hb3 (.inr rfl) (fun b hb => by rcases hb with h | h <;> omega) (fun W' hk => HT.out.keeps (S := fun k => k < w.heap.size) (fun b hb c t z e => hk b (.inl hb) c t z ((b3.block b hb).trans e)) fun _ h => h)) keepsAt_t ?kb (Below.refl _ _) (fun _ => rfl)
    (fun xs W => BoxInts w.heap.size w.heap.size (doneI (fun i => es[i]?.getD 0) xs) W ∧ Below w.heap.size w W ∧ (w3.heap.size ≤ W.heap.size ∧ xs.length ≤ es.length) ∧ KeepsAt (fun k => k < w.heap.size ∨ k = w.heap.size + 1) w3 W)
    (fun _ _ _ => False)
    (OwnFrom.and (Own.from (boxInts_own _ _ _) _) (OwnFrom.and (ownFrom_below (Nat.le_refl _) (by omega)) (OwnFrom.and (OwnFrom.and (ownFrom_size _ _) (fun _ _ _ _ hs _ _ => hs)) (keepsAt_own _ _ _))))
    (fun _ _ _ _ _ hs _ _ => hs) ⟨⟨_, hr1, World.ownsRow_nil _ _ _ _⟩, b3, ⟨Nat.le_refl _, Nat.zero_le _⟩, KeepsAt.refl _ _⟩ ?round ?done ?stop
  case kb => exact keepsAt_b
  case round =>
    apply Exists.intro
    apply And.intro
    · intro l x W K hK
      gi_wp2
      exact hK
    · rintro l pre x W ⟨⟨v, bx, r⟩, hb, ⟨hsz, hpl⟩, hkp⟩ hlt
      have cB := bx.cell
      have HX := Lib.hid (show ∀ y, es[x]?.getD 0 = y → doneI (fun i => es[i]?.getD 0) (pre ++ [x]) = doneI (fun i => es[i]?.getD 0) pre ++ [y] from fun y hy => by rw [doneI_snoc, hy])
      have HXL := Lib.hid (show (doneI (fun i => es[i]?.getD 0) pre).length = pre.length by simp [doneI])
      generalize doneI (fun i => es[i]?.getD 0) pre = xs at *
      generalize es[x]?.getD 0 = y at HX ⊢
      have HB := Lib.hid hb
      have HBX := Lib.hid bx
      have HR := Lib.hid r
      have HY := Lib.hid (HX.out y rfl)
      have hwl : w.heap.size ≤ W.heap.size := by omega
      have HXL2 : Hid (xs.length ≤ 64) := by unfold Hid; have := HXL.out; omega
      have HPL := Lib.hid (show (pre ++ [x]).length ≤ es.length by simp; omega)
      have HKP := Lib.hid hkp
      have HNS : Hid (∀ k, v.ownBlock = some k → ¬ (k < w.heap.size ∨ k = w.heap.size + 1)) := by
        intro k e h
        have h1 := r.lt k e
        rcases h with h | h
        · omega
        · subst h
          exact own_ne r (hkp _ (.inr rfl) _ _ _ hb3) (by decide) e
      clear hb bx r HX hkp hpl hlt
      gi_wp2_with (gi_at_builtin; (refine wpListIn_append_own_at _ rfl _ _ 23 rfl w.heap.size 3 i0 _ 1 8 Try.underlying23 hi hz0 hz1 hz2 rfl (by decide) v xs.length (ints xs) rfl (HR.out.alloc _) ⟨_, 0, none⟩ 1 1 (ints [y]) rfl rfl (int_new _ y) (ints_one _) (by have := HXL2.out; unfold maxLen; omega) (by have := HXL2.out; omega) (by simp; omega) ?_); intro v' w2 hown hgrow hnil hat; obtain ⟨g, cc, rfl⟩ := ownsRow_succ hown; obtain ⟨s1, s2, s3, s4⟩ := box_put (zs := xs ++ [y]) HBX.out HR.out hwl (Nat.le_refl _) (by rw [ints_append]) (by simp) hown hgrow; have cB1 := s1.cell; have fB1 := s1.frozen; have HS2 := Lib.hid s2; have HS3 := Lib.hid s3; have HS4 := Lib.hid s4; have HS5 := Lib.hid (box_keeps (S := fun k => k < w.heap.size ∨ k = w.heap.size + 1) (B := w.heap.size) (v' := .slice (some ⟨g, 0, none⟩) (xs.length + 1) cc) (by omega) HNS.out hgrow); clear hown hgrow hnil hat s1 s2 s3 s4)
      refine ⟨HS3.out.from _, HS5.out, ⟨?_, HB.out.trans HS4.out, ⟨Nat.le_trans hsz HS4.out.size, HPL.out⟩, HKP.out.trans HS5.out⟩⟩
      rw [HY.out]; exact HS2.out
  case done =>
    rintro D ys W hD rfl ⟨⟨v, bx, r⟩, hb, ⟨hsz, hpl⟩, hkp⟩ hK
    rw [doneI_all] at r
    obtain ⟨a1, q1, rfl⟩ := owns_slice r
    have c1 := bx.cell
    have HE := Lib.hid (show IntsAt W.heap.size W (.slice a1 es.length q1) es ∧ FreshI w.heap.size (.slice a1 es.length q1) from ⟨IntsAt.of_owns r rfl, fun k e => (r.lt k e).1⟩)
    have HB := Lib.hid hb
    have HND : Hid (∀ k, (Value.slice a1 es.length q1).ownBlock = some k → k ≠ D) := by
      intro k e h
      subst h
      rcases r.2 with ⟨h, _⟩ | ⟨g, cap, cur, h, _, hg, _⟩
      · rw [h] at e; cases e
      · rw [h] at e
        obtain rfl : g = k := by simpa [Value.ownBlock] using e
        rw [hK] at hg; cases hg
    clear hb bx r hkp hpl
    gi_wp2
    refine ⟨by simp, .inl ⟨_, _, rfl, run_takeDeferred hK, ?_⟩⟩
    refine ⟨_, results_tmp rfl _ _ _, .slice a1 es.length q1, rfl, HE.out.1.keep (by simp) (fun p e hp => World.cell?_of_block (World.putObj_heap_other (HND.out _ e))), HE.out.2, ?_⟩
    exact HB.out.trans ((Below.refl _ W).grown (grownBy_putObj' _ D _) (by have := (Array.getElem?_eq_some_iff.1 hK).1; have := HB.out.size; omega) (fun k e => by cases e; omega))
  case stop =>
    rintro D c pre W _ _ h _
    exact h.elim
theorem All_any {w : World} {p : Value} {es : List Int} (h : TalIs w p es) : Calls Try.prog 8 #[p] w (RowDid es w) := callsIn_wide.1 (All_in h)
/-- 'list = append(list, y)', as facts of the worlds. -/
theorem append_one {W : World} {n₀ B : Nat} {S : Nat → Prop} {xs : List Int} {v : Value} (b : Boxed W B 23 v) (r : W.ownsRow n₀ 3 1 v xs.length (ints xs)) (hn₀ : n₀ ≤ W.heap.size) (hB : n₀ ≤ B) (hSB : ¬ S B) (hSv : ∀ k, v.ownBlock = some k → ¬ S k) (hl : xs.length ≤ 1024) (y : Int) :
    ∃ g cc w1, (Builtin.append_ #[23, 23] 23 #[v, .slice (some ⟨W.heap.size, 0, none⟩) 1 1]).run Try.prog (W.alloc (.cells #[.int .i64 y] 3)).drew = .ok (.slice (some ⟨g, 0, none⟩) (xs.length + 1) cc) w1 ∧ Boxed w1 B 23 v ∧
      (BoxInts n₀ B (xs ++ [y]) (w1.setCell ⟨B, 0, none⟩ (.slice (some ⟨g, 0, none⟩) (xs.length + 1) cc)) ∧ KeepsOthers W (w1.setCell ⟨B, 0, none⟩ (.slice (some ⟨g, 0, none⟩) (xs.length + 1) cc)) ∧ Below n₀ W (w1.setCell ⟨B, 0, none⟩ (.slice (some ⟨g, 0, none⟩) (xs.length + 1) cc)) ∧ KeepsAt S W (w1.setCell ⟨B, 0, none⟩ (.slice (some ⟨g, 0, none⟩) (xs.length + 1) cc))) := by
  obtain ⟨i0, hi, hz0, hz1, hz2⟩ := info_partsI infoInt
  have b' : Boxed W.drew B 23 v := b
  have r' : W.drew.ownsRow n₀ 3 1 v xs.length (ints xs) := r
  obtain ⟨v', w1, hr, hown, hgrow, _, _⟩ := run_append_own_at (P := Try.prog) (W.drew.alloc (.cells #[.int .i64 y] 3)) n₀ 23 23 3 i0 (.int .i64 0) 1 8 Try.underlying23 hi hz0 hz1 hz2 rfl (by decide) v xs.length (ints xs) (r'.alloc _) ⟨W.heap.size, 0, none⟩ 1 1 (ints [y]) rfl (int_new W.drew y) (ints_one _) (by unfold maxLen; omega) (by omega) (by simp; omega)
  obtain ⟨g, cc, rfl⟩ := ownsRow_succ hown
  obtain ⟨s1, s2, s3, s4⟩ := box_put (zs := xs ++ [y]) b' r' hn₀ hB (by rw [ints_append]) (by simp) hown hgrow
  have s5 := box_keeps (S := S) (B := B) (v' := .slice (some ⟨g, 0, none⟩) (xs.length + 1) cc) hSB hSv hgrow
  exact ⟨g, cc, w1, hr, s1, s2, ⟨s3.size, s3.same⟩, ⟨s4.os, s4.tape, s4.output, s4.size, s4.block⟩, s5⟩
attribute [-go_sem] Builtin.append_
/-- By how much a count is above that of others. -/
def sinceF (es was : List Int) (i : Nat) : Int := max (es[i]?.getD 0 - wasK was i) 0
def sinceL (es was : List Int) : List Int := doneI (sinceF es was) (List.range es.length)
set_option maxRecDepth 100000 in
set_option maxHeartbeats 4000000 in
theorem Since_in {w : World} {p : Value} {es : List Int} (h : TalIs w p es) {vw : Value} {was : List Int} (hu : IntsAt w.heap.size w vw was) (hul : was.length ≤ 1073741824) (hwf : ∀ k, 0 ≤ wasK was k ∧ wasK was k ≤ 9223372036854775807) :
    CallsIn Fence.wide 3 Try.prog 14 #[p, vw] w (RowDid (sinceL es was) w) := by
  obtain ⟨i0, hi, hz0, hz1, hz2⟩ := info_partsI infoInt
  have hlen := h.len
  have HT := Lib.hid h
  have hp := h.ptr
  obtain ⟨ua, uc, rfl⟩ := hu.slice
  have HU := Lib.hid hu
  have HWF := Lib.hid hwf
  have HCO : Hid (∀ k : Nat, 0 ≤ es[k]?.getD 0 ∧ es[k]?.getD 0 ≤ 1152921504606846976) := by
    intro k
    by_cases hk : k < es.length
    · rcases h with ⟨_, rfl⟩ | ⟨T, g, _, h⟩
      · simp at hk
      · exact h.ok.2 k hk
    · rw [List.getElem?_eq_none (by omega)]; decide
  clear h hu hwf
  refine callsIn_of_wp_marks Try.func14 rfl trivial ?_ rfl
  simp only [Try.ntmps14, List.size_toArray, List.length_cons, List.length_nil, Nat.reduceAdd, Nat.reduceSub, Array.replicate_succ, Array.replicate_zero, List.push_toArray, List.append_toArray, List.nil_append, List.cons_append]
  have t1 : Fence.wide.fn 17 := trivial
  have t2 : Fence.wide.fn 19 := trivial
  have HALL := Lib.hid (fun W => all_in p hp W)
  gi_wp2_with (gi_at_call 17; (with_reducible refine (HALL.out _).mono ?_); rintro e w' ⟨rfl, rfl⟩)
  obtain ⟨w3, hw3⟩ : ∃ w3, ((w.alloc (.cells #[.slice ua was.length uc] 23)).alloc (.cells #[.slice none 0 0] 23)).alloc (.cells #[p] 24) = w3 := ⟨_, rfl⟩
  have z3 : w3.heap.size = w.heap.size + 3 := by rw [← hw3]; simp
  have b3 : Below w.heap.size w w3 := by rw [← hw3]; exact (((Below.refl _ w).alloc (Nat.le_refl _) _).alloc (by simp) _).alloc (by simp; omega) _
  have hr0 : Boxed w3 w.heap.size 23 (.slice ua was.length uc) := by rw [← hw3]; exact ((Boxed.new w _ _).alloc _).alloc _
  have hr1 : Boxed w3 (w.heap.size + 1) 23 (.slice none 0 0) := by
    rw [← hw3]
    have := Boxed.new (w.alloc (.cells #[.slice ua was.length uc] 23)) 23 (.slice none 0 0)
    rw [World.size_alloc] at this
    exact this.alloc _
  have hb3 : w3.heap[w.heap.size + 2]? = some (.cells #[p] 24 (0, 0)) := by
    rw [← hw3]
    have := heap_alloc_new ((w.alloc (.cells #[.slice ua was.length uc] 23)).alloc (.cells #[.slice none 0 0] 23)) (.cells #[p] 24)
    rwa [World.size_alloc, World.size_alloc] at this
  rw [hw3]
  clear hw3
  refine rangeFunc_open rfl (by decide) (gf := 20) (lb := #[.pointer (some ⟨w.heap.size + 1 + 1, 0, none⟩)]) rfl trivial (enters_of Try.func20 (by kernel_rfl) rfl)
    (all_stops (fun k => k < w.heap.size ∨ (k = w.heap.size ∨ k = w.heap.size + 2)) p es (w.heap.size + 2) w3 hb3 (.inr (.inr rfl)) (fun b hb => by rcases hb with h | h | h <;> omega) (fun W' hk => HT.out.keeps (S := fun k => k < w.heap.size) (fun b hb c t z e => hk b (.inl hb) c t z ((b3.block b hb).trans e)) fun _ h => h)) keepsAt_t ?kb (Below.refl _ _) (fun _ => rfl)
    (fun xs W => BoxInts w.heap.size (w.heap.size + 1) (doneI (sinceF es was) xs) W ∧ Below w.heap.size w W ∧ (w3.heap.size ≤ W.heap.size ∧ xs.length ≤ es.length) ∧ KeepsAt (fun k => k < w.heap.size ∨ (k = w.heap.size ∨ k = w.heap.size + 2)) w3 W)
    (fun _ _ _ => False)
    (OwnFrom.and (Own.from (boxInts_own _ _ _) _) (OwnFrom.and (ownFrom_below (Nat.le_refl _) (by omega)) (OwnFrom.and (OwnFrom.and (ownFrom_size _ _) (fun _ _ _ _ hs _ _ => hs)) (keepsAt_own _ _ _))))
    (fun _ _ _ _ _ hs _ _ => hs) ⟨⟨_, hr1, World.ownsRow_nil _ _ _ _⟩, b3, ⟨Nat.le_refl _, Nat.zero_le _⟩, KeepsAt.refl _ _⟩ ?round ?done ?stop
  case kb => exact keepsAt_b
  case round =>
    apply Exists.intro
    apply And.intro
    · intro l x W K hK
      gi_wp2
      exact hK
    · rintro l pre x W ⟨⟨v, bx, r⟩, hb, ⟨hsz, hpl⟩, hkp⟩ hlt
      obtain ⟨va, vc, rfl⟩ := owns_slice r
      have cB := bx.cell
      have cU : W.cell? ⟨w.heap.size, 0, none⟩ = some (.slice ua was.length uc) := hkp.cell (p := ⟨w.heap.size, 0, none⟩) (.inr (.inl rfl)) hr0.cell
      have HX := Lib.hid (show ∀ y z, es[x]?.getD 0 = y → wasK was x = z → doneI (sinceF es was) (pre ++ [x]) = doneI (sinceF es was) pre ++ [max (y - z) 0] from fun y z hy hz => by rw [doneI_snoc]; unfold sinceF; rw [hy, hz])
      have HXL := Lib.hid (show (doneI (sinceF es was) pre).length = pre.length by simp [doneI])
      have HCT := Lib.hid (fun W' (hk : Below W.heap.size W W') => countOf_any ((HU.out.below (hb.trans (hk.mono (Nat.le_trans (by omega) hsz)))).mono (show w.heap.size ≤ W'.heap.size from Nat.le_trans (by omega) (Nat.le_trans hsz hk.size))) hul x)
      have hy0 := HCO.out x
      have hz0' := HWF.out x
      generalize doneI (sinceF es was) pre = xs at *
      obtain ⟨v, hv⟩ : ∃ v, Value.slice va xs.length vc = v := ⟨_, rfl⟩
      rw [hv] at bx r cB
      generalize wasK was x = z at *
      generalize es[x]?.getD 0 = y at *
      have HB := Lib.hid hb
      have HBX := Lib.hid bx
      have HR := Lib.hid r
      have HY := Lib.hid (HX.out y z rfl rfl)
      have hwl : w.heap.size ≤ W.heap.size := by omega
      have HXL2 : Hid (xs.length ≤ 64) := by unfold Hid; have := HXL.out; omega
      have HPL := Lib.hid (show (pre ++ [x]).length ≤ es.length by simp; omega)
      have HKP := Lib.hid hkp
      have HNS : Hid (∀ k, v.ownBlock = some k → ¬ (k < w.heap.size ∨ (k = w.heap.size ∨ k = w.heap.size + 2))) := by
        intro k e h
        have h1 := r.lt k e
        rcases h with h | h | h
        · omega
        · subst h
          exact own_ne r (hkp _ (.inr (.inl rfl)) _ _ _ hr0) (by decide) e
        · subst h
          exact own_ne r (hkp _ (.inr (.inr rfl)) _ _ _ hb3) (by decide) e
      have ey : IntKind.i64.wrap (y - z) = y - z := wrapI (by omega) (by omega)
      have HAP := Lib.hid (append_one (S := fun k => k < w.heap.size ∨ (k = w.heap.size ∨ k = w.heap.size + 2)) bx r hwl (by omega) (by omega) HNS.out (by have := HXL2.out; omega))
      have hdr : Below W.heap.size W W.drew := (Below.refl _ _).drew
      have HC := Lib.hid (HCT.out _ hdr)
      have cBd : W.drew.cell? ⟨w.heap.size + 1, 0, none⟩ = some v := cB
      have HCA := Lib.hid (fun t : Int => (bx.alloc (.cells #[.int .i64 t] 3)).cell)
      have cUd : W.drew.cell? ⟨w.heap.size, 0, none⟩ = some (.slice ua was.length uc) := cU
      rw [← hv] at HAP cBd HCA
      clear hb bx r HX hkp hpl hlt hdr HNS cB cU hy0 hz0' HBX HR hv
      have h3 : y - z < 0 ∨ y - z = 0 ∨ 0 < y - z := by omega
      rcases h3 with h3 | h3 | h3
      · have em : max (y - z) 0 = 0 := by omega
        rw [em] at HY
        obtain ⟨g, cc, w1, hap, hb1, hdid⟩ := HAP.out 0
        have cBa := HCA.out 0
        have HD := Lib.hid hdid
        have cB1 := hb1.cell
        have fB1 := hb1.frozen
        clear hdid hb1 em HAP
        gi_wp2
        refine wpIn_region_any (by kernel_rfl) (anyIn_of_any (by kernel_rfl) (fun ⟨_, _, h⟩ => h) _ _ _ _ ?_)
        change wpAny _ _ _ _ _ _ _ W.drew
        refine wpAny_take (i := 1) (v := .int .i64 y) rfl (by kernel_rfl) (by kernel_rfl) (by kernel_rfl) (fun _ _ _ h => h) (Or.inl ⟨by rfl, (by intro W'; go_simp)⟩) ?_
        refine wpAny_take (i := 3) (v := .int .i64 x) rfl (by kernel_rfl) (by kernel_rfl) (by kernel_rfl) (fun _ _ _ h => h) (Or.inl ⟨by rfl, (by intro W'; go_simp)⟩) ?_
        refine wpAny_ready (rs := [0, 2]) (by kernel_rfl) (by simp) ?_
        refine AllReady.cons rfl (fun K hK => ?_) (AllReady.cons rfl (fun K hK => ?_) AllReady.nil)
        · go_simp
          refine hK _ _ ?_
          clear hK K
          refine wpAny_ready (rs := [2]) (by kernel_rfl) (by simp) ?_
          refine AllReady.cons rfl (fun K hK => ?_) AllReady.nil
          go_simp
          refine hK _ _ ?_
          clear hK K
          refine wpAny_ready (rs := [4]) (by kernel_rfl) (by simp) ?_
          refine AllReady.cons rfl (fun K hK => ?_) AllReady.nil
          go_simp
          (with_reducible refine HC.out.mono ?_)
          rintro e w' ⟨rfl, rfl⟩
          refine hK _ _ ?_
          clear hK K
          refine wpAny_ready (rs := [5]) (by kernel_rfl) (by simp) ?_
          refine AllReady.cons rfl (fun K hK => ?_) AllReady.nil
          go_simp
          refine hK _ _ ?_
          clear hK K
          refine wpAny_ready (rs := [6]) (by kernel_rfl) (by simp) ?_
          refine AllReady.cons rfl (fun K hK => ?_) AllReady.nil
          go_simp
          refine hK _ _ ?_
          clear hK K
          refine wpAny_ready (rs := [7]) (by kernel_rfl) (by simp) ?_
          refine AllReady.cons rfl (fun K hK => ?_) AllReady.nil
          go_simp
          refine hK _ _ ?_
          clear hK K
          refine wpAny_ready (rs := [8]) (by kernel_rfl) (by simp) ?_
          refine AllReady.cons rfl (fun K hK => ?_) AllReady.nil
          go_simp
          refine hK _ _ ?_
          clear hK K
          refine wpAny_ready (rs := [9]) (by kernel_rfl) (by simp) ?_
          refine AllReady.cons rfl (fun K hK => ?_) AllReady.nil
          go_simp
          refine hK _ _ ?_
          clear hK K
          refine wpAny_done (by kernel_rfl) ?_ _
          obtain ⟨d1, d2, d3, d4⟩ := HD.out
          refine ⟨d2.from _, d4, ⟨?_, HB.out.trans d3, ⟨by have := d3.size; omega, HPL.out⟩, HKP.out.trans d4⟩⟩
          rw [HY.out]; exact d1
        · go_simp
          refine hK _ _ ?_
          clear hK K
          refine wpAny_ready (rs := [0, 4]) (by kernel_rfl) (by simp) ?_
          refine AllReady.cons rfl (fun K hK => ?_) (AllReady.cons rfl (fun K hK => ?_) AllReady.nil)
          · go_simp
            refine hK _ _ ?_
            clear hK K
            refine wpAny_ready (rs := [4]) (by kernel_rfl) (by simp) ?_
            refine AllReady.cons rfl (fun K hK => ?_) AllReady.nil
            go_simp
            (with_reducible refine HC.out.mono ?_)
            rintro e w' ⟨rfl, rfl⟩
            refine hK _ _ ?_
            clear hK K
            refine wpAny_ready (rs := [5]) (by kernel_rfl) (by simp) ?_
            refine AllReady.cons rfl (fun K hK => ?_) AllReady.nil
            go_simp
            refine hK _ _ ?_
            clear hK K
            refine wpAny_ready (rs := [6]) (by kernel_rfl) (by simp) ?_
            refine AllReady.cons rfl (fun K hK => ?_) AllReady.nil
            go_simp
            refine hK _ _ ?_
            clear hK K
            refine wpAny_ready (rs := [7]) (by kernel_rfl) (by simp) ?_
            refine AllReady.cons rfl (fun K hK => ?_) AllReady.nil
            go_simp
            refine hK _ _ ?_
            clear hK K
            refine wpAny_ready (rs := [8]) (by kernel_rfl) (by simp) ?_
            refine AllReady.cons rfl (fun K hK => ?_) AllReady.nil
            go_simp
            refine hK _ _ ?_
            clear hK K
            refine wpAny_ready (rs := [9]) (by kernel_rfl) (by simp) ?_
            refine AllReady.cons rfl (fun K hK => ?_) AllReady.nil
            go_simp
            refine hK _ _ ?_
            clear hK K
            refine wpAny_done (by kernel_rfl) ?_ _
            obtain ⟨d1, d2, d3, d4⟩ := HD.out
            refine ⟨d2.from _, d4, ⟨?_, HB.out.trans d3, ⟨by have := d3.size; omega, HPL.out⟩, HKP.out.trans d4⟩⟩
            rw [HY.out]; exact d1
          · go_simp
            (with_reducible refine HC.out.mono ?_)
            rintro e w' ⟨rfl, rfl⟩
            refine hK _ _ ?_
            clear hK K
            refine wpAny_take (i := 5) (v := .int .i64 (y - z)) rfl (by kernel_rfl) (by kernel_rfl) (by kernel_rfl) (fun _ _ _ h => h) (Or.inl ⟨by rfl, (by intro W'; go_simp)⟩) ?_
            refine wpAny_take (i := 6) (v := .int .i64 0) rfl (by kernel_rfl) (by kernel_rfl) (by kernel_rfl) (fun _ _ _ h => h) (Or.inl ⟨by rfl, (by intro W'; go_simp)⟩) ?_
            refine wpAny_ready (rs := [0, 7]) (by kernel_rfl) (by simp) ?_
            refine AllReady.cons rfl (fun K hK => ?_) (AllReady.cons rfl (fun K hK => ?_) AllReady.nil)
            · go_simp
              refine hK _ _ ?_
              clear hK K
              refine wpAny_ready (rs := [7]) (by kernel_rfl) (by simp) ?_
              refine AllReady.cons rfl (fun K hK => ?_) AllReady.nil
              go_simp
              refine hK _ _ ?_
              clear hK K
              refine wpAny_ready (rs := [8]) (by kernel_rfl) (by simp) ?_
              refine AllReady.cons rfl (fun K hK => ?_) AllReady.nil
              go_simp
              refine hK _ _ ?_
              clear hK K
              refine wpAny_ready (rs := [9]) (by kernel_rfl) (by simp) ?_
              refine AllReady.cons rfl (fun K hK => ?_) AllReady.nil
              go_simp
              refine hK _ _ ?_
              clear hK K
              refine wpAny_done (by kernel_rfl) ?_ _
              obtain ⟨d1, d2, d3, d4⟩ := HD.out
              refine ⟨d2.from _, d4, ⟨?_, HB.out.trans d3, ⟨by have := d3.size; omega, HPL.out⟩, HKP.out.trans d4⟩⟩
              rw [HY.out]; exact d1
            · go_simp
              refine hK _ _ ?_
              clear hK K
              refine wpAny_ready (rs := [0]) (by kernel_rfl) (by simp) ?_
              refine AllReady.cons rfl (fun K hK => ?_) AllReady.nil
              go_simp
              refine hK _ _ ?_
              clear hK K
              refine wpAny_ready (rs := [8]) (by kernel_rfl) (by simp) ?_
              refine AllReady.cons rfl (fun K hK => ?_) AllReady.nil
              go_simp
              refine hK _ _ ?_
              clear hK K
              refine wpAny_ready (rs := [9]) (by kernel_rfl) (by simp) ?_
              refine AllReady.cons rfl (fun K hK => ?_) AllReady.nil
              go_simp
              refine hK _ _ ?_
              clear hK K
              refine wpAny_done (by kernel_rfl) ?_ _
              obtain ⟨d1, d2, d3, d4⟩ := HD.out
              refine ⟨d2.from _, d4, ⟨?_, HB.out.trans d3, ⟨by have := d3.size; omega, HPL.out⟩, HKP.out.trans d4⟩⟩
              rw [HY.out]; exact d1
      · have em : max (y - z) 0 = 0 := by omega
        rw [em] at HY
        obtain ⟨g, cc, w1, hap, hb1, hdid⟩ := HAP.out 0
        have cBa := HCA.out 0
        have HD := Lib.hid hdid
        have cB1 := hb1.cell
        have fB1 := hb1.frozen
        clear hdid hb1 em HAP ey
        obtain rfl : y = z := by omega
        have e0 : IntKind.i64.wrap 0 = 0 := by decide
        clear h3
        gi_wp2
        refine wpIn_region_any (by kernel_rfl) (anyIn_of_any (by kernel_rfl) (fun ⟨_, _, h⟩ => h) _ _ _ _ ?_)
        change wpAny _ _ _ _ _ _ _ W.drew
        refine wpAny_take (i := 1) (v := .int .i64 y) rfl (by kernel_rfl) (by kernel_rfl) (by kernel_rfl) (fun _ _ _ h => h) (Or.inl ⟨by rfl, (by intro W'; go_simp)⟩) ?_
        refine wpAny_take (i := 3) (v := .int .i64 x) rfl (by kernel_rfl) (by kernel_rfl) (by kernel_rfl) (fun _ _ _ h => h) (Or.inl ⟨by rfl, (by intro W'; go_simp)⟩) ?_
        refine wpAny_ready (rs := [0, 2]) (by kernel_rfl) (by simp) ?_
        refine AllReady.cons rfl (fun K hK => ?_) (AllReady.cons rfl (fun K hK => ?_) AllReady.nil)
        · go_simp
          refine hK _ _ ?_
          clear hK K
          refine wpAny_ready (rs := [2]) (by kernel_rfl) (by simp) ?_
          refine AllReady.cons rfl (fun K hK => ?_) AllReady.nil
          go_simp
          refine hK _ _ ?_
          clear hK K
          refine wpAny_ready (rs := [4]) (by kernel_rfl) (by simp) ?_
          refine AllReady.cons rfl (fun K hK => ?_) AllReady.nil
          go_simp
          (with_reducible refine HC.out.mono ?_)
          rintro e w' ⟨rfl, rfl⟩
          refine hK _ _ ?_
          clear hK K
          refine wpAny_ready (rs := [5]) (by kernel_rfl) (by simp) ?_
          refine AllReady.cons rfl (fun K hK => ?_) AllReady.nil
          go_simp
          refine hK _ _ ?_
          clear hK K
          refine wpAny_ready (rs := [6]) (by kernel_rfl) (by simp) ?_
          refine AllReady.cons rfl (fun K hK => ?_) AllReady.nil
          go_simp
          refine hK _ _ ?_
          clear hK K
          refine wpAny_ready (rs := [7]) (by kernel_rfl) (by simp) ?_
          refine AllReady.cons rfl (fun K hK => ?_) AllReady.nil
          go_simp
          refine hK _ _ ?_
          clear hK K
          refine wpAny_ready (rs := [8]) (by kernel_rfl) (by simp) ?_
          refine AllReady.cons rfl (fun K hK => ?_) AllReady.nil
          go_simp
          refine hK _ _ ?_
          clear hK K
          refine wpAny_ready (rs := [9]) (by kernel_rfl) (by simp) ?_
          refine AllReady.cons rfl (fun K hK => ?_) AllReady.nil
          go_simp
          refine hK _ _ ?_
          clear hK K
          refine wpAny_done (by kernel_rfl) ?_ _
          obtain ⟨d1, d2, d3, d4⟩ := HD.out
          refine ⟨d2.from _, d4, ⟨?_, HB.out.trans d3, ⟨by have := d3.size; omega, HPL.out⟩, HKP.out.trans d4⟩⟩
          rw [HY.out]; exact d1
        · go_simp
          refine hK _ _ ?_
          clear hK K
          refine wpAny_ready (rs := [0, 4]) (by kernel_rfl) (by simp) ?_
          refine AllReady.cons rfl (fun K hK => ?_) (AllReady.cons rfl (fun K hK => ?_) AllReady.nil)
          · go_simp
            refine hK _ _ ?_
            clear hK K
            refine wpAny_ready (rs := [4]) (by kernel_rfl) (by simp) ?_
            refine AllReady.cons rfl (fun K hK => ?_) AllReady.nil
            go_simp
            (with_reducible refine HC.out.mono ?_)
            rintro e w' ⟨rfl, rfl⟩
            refine hK _ _ ?_
            clear hK K
            refine wpAny_ready (rs := [5]) (by kernel_rfl) (by simp) ?_
            refine AllReady.cons rfl (fun K hK => ?_) AllReady.nil
            go_simp
            refine hK _ _ ?_
            clear hK K
            refine wpAny_ready (rs := [6]) (by kernel_rfl) (by simp) ?_
            refine AllReady.cons rfl (fun K hK => ?_) AllReady.nil
            go_simp
            refine hK _ _ ?_
            clear hK K
            refine wpAny_ready (rs := [7]) (by kernel_rfl) (by simp) ?_
            refine AllReady.cons rfl (fun K hK => ?_) AllReady.nil
            go_simp
            refine hK _ _ ?_
            clear hK K
            refine wpAny_ready (rs := [8]) (by kernel_rfl) (by simp) ?_
            refine AllReady.cons rfl (fun K hK => ?_) AllReady.nil
            go_simp
            refine hK _ _ ?_
            clear hK K
            refine wpAny_ready (rs := [9]) (by kernel_rfl) (by simp) ?_
            refine AllReady.cons rfl (fun K hK => ?_) AllReady.nil
            go_simp
            refine hK _ _ ?_
            clear hK K
            refine wpAny_done (by kernel_rfl) ?_ _
            obtain ⟨d1, d2, d3, d4⟩ := HD.out
            refine ⟨d2.from _, d4, ⟨?_, HB.out.trans d3, ⟨by have := d3.size; omega, HPL.out⟩, HKP.out.trans d4⟩⟩
            rw [HY.out]; exact d1
          · go_simp
            (with_reducible refine HC.out.mono ?_)
            rintro e w' ⟨rfl, rfl⟩
            refine hK _ _ ?_
            clear hK K
            refine wpAny_take (i := 5) (v := .int .i64 0) rfl (by kernel_rfl) (by kernel_rfl) (by kernel_rfl) (fun _ _ _ h => h) (Or.inl ⟨by rfl, (by intro W'; go_simp)⟩) ?_
            refine wpAny_take (i := 6) (v := .int .i64 0) rfl (by kernel_rfl) (by kernel_rfl) (by kernel_rfl) (fun _ _ _ h => h) (Or.inl ⟨by rfl, (by intro W'; go_simp)⟩) ?_
            refine wpAny_ready (rs := [0, 7]) (by kernel_rfl) (by simp) ?_
            refine AllReady.cons rfl (fun K hK => ?_) (AllReady.cons rfl (fun K hK => ?_) AllReady.nil)
            · go_simp
              refine hK _ _ ?_
              clear hK K
              refine wpAny_ready (rs := [7]) (by kernel_rfl) (by simp) ?_
              refine AllReady.cons rfl (fun K hK => ?_) AllReady.nil
              go_simp
              refine hK _ _ ?_
              clear hK K
              refine wpAny_ready (rs := [8]) (by kernel_rfl) (by simp) ?_
              refine AllReady.cons rfl (fun K hK => ?_) AllReady.nil
              go_simp
              refine hK _ _ ?_
              clear hK K
              refine wpAny_ready (rs := [9]) (by kernel_rfl) (by simp) ?_
              refine AllReady.cons rfl (fun K hK => ?_) AllReady.nil
              go_simp
              refine hK _ _ ?_
              clear hK K
              refine wpAny_done (by kernel_rfl) ?_ _
              obtain ⟨d1, d2, d3, d4⟩ := HD.out
              refine ⟨d2.from _, d4, ⟨?_, HB.out.trans d3, ⟨by have := d3.size; omega, HPL.out⟩, HKP.out.trans d4⟩⟩
              rw [HY.out]; exact d1
            · go_simp
              refine hK _ _ ?_
              clear hK K
              refine wpAny_ready (rs := [0]) (by kernel_rfl) (by simp) ?_
              refine AllReady.cons rfl (fun K hK => ?_) AllReady.nil
              go_simp
              refine hK _ _ ?_
              clear hK K
              refine wpAny_ready (rs := [8]) (by kernel_rfl) (by simp) ?_
              refine AllReady.cons rfl (fun K hK => ?_) AllReady.nil
              go_simp
              refine hK _ _ ?_
              clear hK K
              refine wpAny_ready (rs := [9]) (by kernel_rfl) (by simp) ?_
              refine AllReady.cons rfl (fun K hK => ?_) AllReady.nil
              go_simp
              refine hK _ _ ?_
              clear hK K
              refine wpAny_done (by kernel_rfl) ?_ _
              obtain ⟨d1, d2, d3, d4⟩ := HD.out
              refine ⟨d2.from _, d4, ⟨?_, HB.out.trans d3, ⟨by have := d3.size; omega, HPL.out⟩, HKP.out.trans d4⟩⟩
              rw [HY.out]; exact d1
      · obtain ⟨t, ht⟩ : ∃ t, y - z = t := ⟨_, rfl⟩
        have ey2 : IntKind.i64.wrap (y - z) = t := by rw [ey, ht]
        clear ey
        have em : max (y - z) 0 = t := by omega
        have hif : (if t < 0 then (0 : Int) else t) = t := if_neg (by omega)
        clear h3
        rw [em] at HY
        obtain ⟨g, cc, w1, hap, hb1, hdid⟩ := HAP.out t
        have cBa := HCA.out t
        have HD := Lib.hid hdid
        have cB1 := hb1.cell
        have fB1 := hb1.frozen
        clear hdid hb1 em HAP ht
        gi_wp2
        refine wpIn_region_any (by kernel_rfl) (anyIn_of_any (by kernel_rfl) (fun ⟨_, _, h⟩ => h) _ _ _ _ ?_)
        change wpAny _ _ _ _ _ _ _ W.drew
        refine wpAny_take (i := 1) (v := .int .i64 y) rfl (by kernel_rfl) (by kernel_rfl) (by kernel_rfl) (fun _ _ _ h => h) (Or.inl ⟨by rfl, (by intro W'; go_simp)⟩) ?_
        refine wpAny_take (i := 3) (v := .int .i64 x) rfl (by kernel_rfl) (by kernel_rfl) (by kernel_rfl) (fun _ _ _ h => h) (Or.inl ⟨by rfl, (by intro W'; go_simp)⟩) ?_
        refine wpAny_ready (rs := [0, 2]) (by kernel_rfl) (by simp) ?_
        refine AllReady.cons rfl (fun K hK => ?_) (AllReady.cons rfl (fun K hK => ?_) AllReady.nil)
        · go_simp
          refine hK _ _ ?_
          clear hK K
          refine wpAny_ready (rs := [2]) (by kernel_rfl) (by simp) ?_
          refine AllReady.cons rfl (fun K hK => ?_) AllReady.nil
          go_simp
          refine hK _ _ ?_
          clear hK K
          refine wpAny_ready (rs := [4]) (by kernel_rfl) (by simp) ?_
          refine AllReady.cons rfl (fun K hK => ?_) AllReady.nil
          go_simp
          (with_reducible refine HC.out.mono ?_)
          rintro e w' ⟨rfl, rfl⟩
          refine hK _ _ ?_
          clear hK K
          refine wpAny_ready (rs := [5]) (by kernel_rfl) (by simp) ?_
          refine AllReady.cons rfl (fun K hK => ?_) AllReady.nil
          go_simp
          refine hK _ _ ?_
          clear hK K
          refine wpAny_ready (rs := [6]) (by kernel_rfl) (by simp) ?_
          refine AllReady.cons rfl (fun K hK => ?_) AllReady.nil
          go_simp
          refine hK _ _ ?_
          clear hK K
          refine wpAny_ready (rs := [7]) (by kernel_rfl) (by simp) ?_
          refine AllReady.cons rfl (fun K hK => ?_) AllReady.nil
          go_simp
          refine hK _ _ ?_
          clear hK K
          refine wpAny_ready (rs := [8]) (by kernel_rfl) (by simp) ?_
          refine AllReady.cons rfl (fun K hK => ?_) AllReady.nil
          go_simp
          refine hK _ _ ?_
          clear hK K
          refine wpAny_ready (rs := [9]) (by kernel_rfl) (by simp) ?_
          refine AllReady.cons rfl (fun K hK => ?_) AllReady.nil
          go_simp
          refine hK _ _ ?_
          clear hK K
          refine wpAny_done (by kernel_rfl) ?_ _
          obtain ⟨d1, d2, d3, d4⟩ := HD.out
          refine ⟨d2.from _, d4, ⟨?_, HB.out.trans d3, ⟨by have := d3.size; omega, HPL.out⟩, HKP.out.trans d4⟩⟩
          rw [HY.out]; exact d1
        · go_simp
          refine hK _ _ ?_
          clear hK K
          refine wpAny_ready (rs := [0, 4]) (by kernel_rfl) (by simp) ?_
          refine AllReady.cons rfl (fun K hK => ?_) (AllReady.cons rfl (fun K hK => ?_) AllReady.nil)
          · go_simp
            refine hK _ _ ?_
            clear hK K
            refine wpAny_ready (rs := [4]) (by kernel_rfl) (by simp) ?_
            refine AllReady.cons rfl (fun K hK => ?_) AllReady.nil
            go_simp
            (with_reducible refine HC.out.mono ?_)
            rintro e w' ⟨rfl, rfl⟩
            refine hK _ _ ?_
            clear hK K
            refine wpAny_ready (rs := [5]) (by kernel_rfl) (by simp) ?_
            refine AllReady.cons rfl (fun K hK => ?_) AllReady.nil
            go_simp
            refine hK _ _ ?_
            clear hK K
            refine wpAny_ready (rs := [6]) (by kernel_rfl) (by simp) ?_
            refine AllReady.cons rfl (fun K hK => ?_) AllReady.nil
            go_simp
            refine hK _ _ ?_
            clear hK K
            refine wpAny_ready (rs := [7]) (by kernel_rfl) (by simp) ?_
            refine AllReady.cons rfl (fun K hK => ?_) AllReady.nil
            go_simp
            refine hK _ _ ?_
            clear hK K
            refine wpAny_ready (rs := [8]) (by kernel_rfl) (by simp) ?_
            refine AllReady.cons rfl (fun K hK => ?_) AllReady.nil
            go_simp
            refine hK _ _ ?_
            clear hK K
            refine wpAny_ready (rs := [9]) (by kernel_rfl) (by simp) ?_
            refine AllReady.cons rfl (fun K hK => ?_) AllReady.nil
            go_simp
            refine hK _ _ ?_
            clear hK K
            refine wpAny_done (by kernel_rfl) ?_ _
            obtain ⟨d1, d2, d3, d4⟩ := HD.out
            refine ⟨d2.from _, d4, ⟨?_, HB.out.trans d3, ⟨by have := d3.size; omega, HPL.out⟩, HKP.out.trans d4⟩⟩
            rw [HY.out]; exact d1
          · go_simp
            (with_reducible refine HC.out.mono ?_)
            rintro e w' ⟨rfl, rfl⟩
            refine hK _ _ ?_
            clear hK K
            refine wpAny_take (i := 5) (v := .int .i64 t) rfl (by kernel_rfl) (by kernel_rfl) (by kernel_rfl) (fun _ _ _ h => h) (Or.inl ⟨by rfl, (by intro W'; go_simp)⟩) ?_
            refine wpAny_take (i := 6) (v := .int .i64 t) rfl (by kernel_rfl) (by kernel_rfl) (by kernel_rfl) (fun _ _ _ h => h) (Or.inl ⟨by rfl, (by intro W'; go_simp)⟩) ?_
            refine wpAny_ready (rs := [0, 7]) (by kernel_rfl) (by simp) ?_
            refine AllReady.cons rfl (fun K hK => ?_) (AllReady.cons rfl (fun K hK => ?_) AllReady.nil)
            · go_simp
              refine hK _ _ ?_
              clear hK K
              refine wpAny_ready (rs := [7]) (by kernel_rfl) (by simp) ?_
              refine AllReady.cons rfl (fun K hK => ?_) AllReady.nil
              go_simp
              refine hK _ _ ?_
              clear hK K
              refine wpAny_ready (rs := [8]) (by kernel_rfl) (by simp) ?_
              refine AllReady.cons rfl (fun K hK => ?_) AllReady.nil
              go_simp
              refine hK _ _ ?_
              clear hK K
              refine wpAny_ready (rs := [9]) (by kernel_rfl) (by simp) ?_
              refine AllReady.cons rfl (fun K hK => ?_) AllReady.nil
              go_simp
              refine hK _ _ ?_
              clear hK K
              refine wpAny_done (by kernel_rfl) ?_ _
              obtain ⟨d1, d2, d3, d4⟩ := HD.out
              refine ⟨d2.from _, d4, ⟨?_, HB.out.trans d3, ⟨by have := d3.size; omega, HPL.out⟩, HKP.out.trans d4⟩⟩
              rw [HY.out]; exact d1
            · go_simp
              refine hK _ _ ?_
              clear hK K
              refine wpAny_ready (rs := [0]) (by kernel_rfl) (by simp) ?_
              refine AllReady.cons rfl (fun K hK => ?_) AllReady.nil
              go_simp
              refine hK _ _ ?_
              clear hK K
              refine wpAny_ready (rs := [8]) (by kernel_rfl) (by simp) ?_
              refine AllReady.cons rfl (fun K hK => ?_) AllReady.nil
              go_simp
              refine hK _ _ ?_
              clear hK K
              refine wpAny_ready (rs := [9]) (by kernel_rfl) (by simp) ?_
              refine AllReady.cons rfl (fun K hK => ?_) AllReady.nil
              go_simp
              refine hK _ _ ?_
              clear hK K
              refine wpAny_done (by kernel_rfl) ?_ _
              obtain ⟨d1, d2, d3, d4⟩ := HD.out
              refine ⟨d2.from _, d4, ⟨?_, HB.out.trans d3, ⟨by have := d3.size; omega, HPL.out⟩, HKP.out.trans d4⟩⟩
              rw [HY.out]; exact d1
  case done =>
    rintro D ys W hD rfl ⟨⟨v, bx, r⟩, hb, ⟨hsz, hpl⟩, hkp⟩ hK
    have hlD : (doneI (sinceF es was) (List.range es.length)).length = es.length := by simp [doneI]
    have er : doneI (sinceF es was) (List.range es.length) = sinceL es was := rfl
    rw [er] at r hlD
    generalize sinceL es was = rs at *
    clear er
    obtain ⟨a1, q1, rfl⟩ := owns_slice r
    have c1 := bx.cell
    have HE := Lib.hid (show IntsAt W.heap.size W (.slice a1 rs.length q1) rs ∧ FreshI w.heap.size (.slice a1 rs.length q1) from ⟨IntsAt.of_owns r rfl, fun k e => (r.lt k e).1⟩)
    have HB := Lib.hid hb
    have HND : Hid (∀ k, (Value.slice a1 rs.length q1).ownBlock = some k → k ≠ D) := by
      intro k e h
      subst h
      rcases r.2 with ⟨h, _⟩ | ⟨g, cap, cur, h, _, hg, _⟩
      · rw [h] at e; cases e
      · rw [h] at e
        obtain rfl : g = k := by simpa [Value.ownBlock] using e
        rw [hK] at hg; cases hg
    clear hb bx r hkp hpl hlD
    gi_wp2
    refine ⟨by simp, .inl ⟨_, _, rfl, run_takeDeferred hK, ?_⟩⟩
    refine ⟨_, results_tmp rfl _ _ _, .slice a1 rs.length q1, rfl, HE.out.1.keep (by simp) (fun p e hp => World.cell?_of_block (World.putObj_heap_other (HND.out _ e))), HE.out.2, ?_⟩
    exact HB.out.trans ((Below.refl _ W).grown (grownBy_putObj' _ D _) (by have := (Array.getElem?_eq_some_iff.1 hK).1; have := HB.out.size; omega) (fun k e => by cases e; omega))
  case stop =>
    rintro D c pre W _ _ h _
    exact h.elim
end Go.Proofs.Ytjcpiljgbomceaa

/-
  clock.Clock[int]: Keys.
  Conditions: none.
-/
import Derived.Test.YtadhkciggiefbaaCkRef6
import Derived.Maps.OwnIn
namespace Go.Proofs.Ytadhkciggiefbaa
open Go.RowKit Go.Shelf
attribute [local go_sem] Oper.semAt_some

/-- A row of ints in a box, in new memory. -/
def BoxInts (n₀ B : Nat) (xs : List Int) (W : World) : Prop := ∃ v, Boxed W B 44 v ∧ W.ownsRow n₀ 3 1 v xs.length (ints xs)
theorem boxed_kept1 {X Y : World} {row : Option Nat} {B : Nat} {t : TypeId} {v : Value} (hv : Boxed X B t v) (hg : X.grownBy Y row) (hrow : ∀ r, row = some r → ∃ o : Obj, X.heap[r]? = some o ∧ o.isCells = false) : Boxed Y B t v := by
  refine hv.kept hg fun e' => ?_
  obtain ⟨o, ho, hc⟩ := hrow B e'.symm
  rw [show X.heap[B]? = _ from hv] at ho; cases ho; cases hc
theorem row_kept1 {X Y : World} {row : Option Nat} {n₀ : Nat} {e : TypeId} {size n : Nat} {v : Value} {xs : List Value} (hr : X.ownsRow n₀ e size v n xs) (hg : X.grownBy Y row) (hrow : ∀ r, row = some r → ∃ o : Obj, X.heap[r]? = some o ∧ o.isCells = false) : Y.ownsRow n₀ e size v n xs := by
  refine hr.kept hg ?_
  rcases hr.2 with ⟨rfl, _⟩ | ⟨g, cap, cur, rfl, _, hgb, _⟩
  · exact .inl rfl
  · refine .inr fun e' => ?_
    obtain ⟨o, ho, hc⟩ := hrow g (by simpa [Value.ownBlock] using e'.symm)
    rw [hgb] at ho; cases ho; cases hc
theorem boxInts_own {β : Type} (n₀ B : Nat) (f : β → List Int) : Own (fun s W => BoxInts n₀ B (f s) W) := by
  rintro s X Y row ⟨v, b, r⟩ hg hrow
  exact ⟨v, boxed_kept1 b hg hrow, row_kept1 r hg hrow⟩
theorem ownFrom_size {β : Type} (B N : Nat) : OwnFrom B (fun (_ : β) W => N ≤ W.heap.size) := fun _ _ _ _ hs hg _ => Nat.le_trans hs hg.size
/-- 'list = append(list, x)'. -/
theorem box_put {W w1 : World} {n₀ B : Nat} {xs zs : List Int} {v v' : Value} {tmp : Obj} {m : Nat} {cs : List Value} (b : Boxed W B 44 v) (r : W.ownsRow n₀ 3 1 v xs.length (ints xs))
    (hn₀ : n₀ ≤ W.heap.size) (hB : n₀ ≤ B) (hcs : cs = ints zs) (hm : m = zs.length) (hown : w1.ownsRow n₀ 3 1 v' m cs) (hgrow : (W.alloc tmp).grownBy w1 v.ownBlock) :
    Boxed w1 B 44 v ∧ BoxInts n₀ B zs (w1.setCell ⟨B, 0, none⟩ v') ∧ KeepsOthers W (w1.setCell ⟨B, 0, none⟩ v') ∧ Below n₀ W (w1.setCell ⟨B, 0, none⟩ v') := by
  subst hcs hm
  obtain ⟨q1, q2, q3, q4, q5⟩ := Boxed.appended b (by decide) r hn₀ hB hown hgrow
  exact ⟨q1, ⟨v', q2, q3⟩, q4, q5⟩
theorem int_new (W : World) (x : Int) : ∀ (j : Nat) (u : Value), (ints [x])[j]? = some u → (W.alloc (.cells #[.int .i64 x] 3)).cell? ((⟨W.heap.size, 0, none⟩ : Addr).add j) = some u := by
  intro j u hj
  rw [add_plain, Nat.zero_add, blk_cell (heap_alloc_new _ _)]
  simpa [ints] using hj
theorem owns_slice1 {w : World} {base : Nat} {e : TypeId} {size n : Nat} {v : Value} {xs : List Value} (h : w.ownsRow base e size v n xs) : ∃ a cap, v = .slice a n cap := owns_slice h
theorem box_keeps {S : Nat → Prop} {W w1 : World} {B : Nat} {v v' : Value} {tmp : Obj} (hSB : ¬ S B) (hSv : ∀ k, v.ownBlock = some k → ¬ S k) (hgrow : (W.alloc tmp).grownBy w1 v.ownBlock) : KeepsAt S W (w1.setCell ⟨B, 0, none⟩ v') :=
  ((KeepsAt.alloc W _).trans (KeepsAt.grown hgrow hSv)).trans (KeepsAt.setCell _ _ _ hSB)
/-- The keys of the full ones of these places. -/
def keysP (ps : List Pl) (xs : List Nat) : List Int := (xs.filter (pF ps)).map (pK ps)
theorem keysP_hit {ps : List Pl} {pre : List Nat} {x : Nat} (h : pF ps x = true) : keysP ps (pre ++ [x]) = keysP ps pre ++ [pK ps x] := by simp [keysP, List.filter_append, h]
theorem keysP_miss {ps : List Pl} {pre : List Nat} {x : Nat} (h : pF ps x = false) : keysP ps (pre ++ [x]) = keysP ps pre := by simp [keysP, List.filter_append, h]
theorem keysP_len (ps : List Pl) (xs : List Nat) : (keysP ps xs).length ≤ xs.length := by simp only [keysP, List.length_map]; exact List.length_filter_le _ _
theorem keysP_take (ps : List Pl) : ∀ n, n ≤ ps.length → keysP ps (List.range n) = keysF (ps.take n)
  | 0, _ => by simp [keysP, keysF]
  | n + 1, h => by
    obtain ⟨p, hp⟩ : ∃ p, ps[n]? = some p := ⟨ps[n], List.getElem?_eq_getElem (by omega)⟩
    have hpf : pF ps n = p.full := by unfold pF; rw [hp]; rfl
    have hpk : pK ps n = p.key := by unfold pK; rw [hp]; rfl
    rw [List.range_succ]
    cases hf : p.full with
    | true => rw [keysP_hit (by rw [hpf, hf]), keysF_hit hp hf, keysP_take ps n (by omega), hpk]
    | false => rw [keysP_miss (by rw [hpf, hf]), keysF_miss hp hf, keysP_take ps n (by omega)]
theorem keysP_all (ps : List Pl) : keysP ps (List.range ps.length) = keysF ps := by rw [keysP_take ps _ (Nat.le_refl _), List.take_length]
theorem make0 (m : Nat) (hm : m ≤ 4096) (W : World) : ∃ cur : Array Value, (Instr.makeSlice 44 (.int .i64 0) (.int .i64 m)).run Try.prog W = .ok (.slice (some ⟨W.heap.size, 0, none⟩) 0 m) (W.alloc (.cells cur 3)) ∧ cur.size = m * 1 := by
  obtain ⟨i0, hi, hz0, hz1, hz2⟩ := info_partsI infoInt
  have h := run_make (P := Try.prog) W 44 3 i0 (.int .i64 0) Try.underlying44 hi hz0 .i64 .i64 0 m (by omega) (by omega) (by rw [hz2]; omega) (by omega)
  rw [hz1] at h
  exact ⟨_, h, by simp [madeCells]⟩
set_option maxRecDepth 100000 in
set_option maxHeartbeats 2000000 in
theorem keys_in {n₀ : Nat} {w : World} {C g M : Nat} {s : Ck} (h : ClockAt n₀ w C g M s) : CallsIn Fence.wide 3 Try.prog 18 #[.pointer (some ⟨C, 0, none⟩)] w (KeysDid (keysF s.ps) w) := by
  obtain ⟨i0, hi, hz0, hz1, hz2⟩ := info_partsI infoInt
  have HLEN := Lib.hid (callsIn_wide (n := 2).2 (len_any h))
  have t1 : Fence.wide.fn 15 := trivial
  have t3 : Fence.wide.fn 23 := trivial
  refine callsIn_of_wp_marks Try.func18 rfl trivial ?_ rfl
  simp only [Try.ntmps18, List.size_toArray, List.length_cons, List.length_nil, Nat.reduceAdd, Nat.reduceSub, Array.replicate_succ, Array.replicate_zero, List.push_toArray, List.append_toArray, List.nil_append, List.cons_append]
  have hth := h.things
  have hn2 := h.ok.n2
  have hlt := h.lt
  have hml : s.m.length ≤ s.ps.length := by rw [h.ok.len]; exact List.countP_le_length
  obtain ⟨cur, hmk, hcs⟩ := make0 s.m.length (by omega) w
  have m1 : (s.m.length : Int) ≤ 4096 := by omega
  have HBLK := Lib.hid h.blk
  have HROW := Lib.hid h.row
  have HST := Lib.hid (fun B S W => all_stops Fence.wide 2 trivial rfl (by decide) B C g S s.ps (.map (some M)) (.int .i64 s.hand) hn2 hth W)
  have HLT := Lib.hid hlt
  have HCS := Lib.hid hcs
  have HN2 := Lib.hid hn2
  clear h hth hlt hcs hml
  gi_wp2_with (first
    | (gi_at_call 15; refine HLEN.out.mono ?_; rintro e w' ⟨rfl, rfl⟩)
    | (gi_at_call 23; refine (all_in Fence.wide 2 trivial rfl _ _).mono ?_; rintro e w' ⟨rfl, rfl⟩))
  obtain ⟨w3, hw3⟩ : ∃ w3, ((w.alloc (.cells cur 3)).alloc (.cells #[.slice (some ⟨w.heap.size, 0, none⟩) 0 s.m.length] 44)).alloc (.cells #[.pointer (some ⟨C, 0, none⟩)] 23) = w3 := ⟨_, rfl⟩
  have z3 : w3.heap.size = w.heap.size + 3 := by rw [← hw3]; simp
  have b3 : Below w.heap.size w w3 := by rw [← hw3]; exact (((Below.refl _ w).alloc (Nat.le_refl _) _).alloc (by simp) _).alloc (by simp; omega) _
  have hrow : w3.ownsRow w.heap.size 3 1 (.slice (some ⟨w.heap.size, 0, none⟩) 0 s.m.length) 0 [] := by
    rw [← hw3]
    exact ((World.ownsRow_made w cur s.m.length (Nat.le_refl _) (by have := HN2.out; unfold maxLen; omega) HCS.out).alloc _).alloc _
  have hr1 : Boxed w3 (w.heap.size + 1) 44 (.slice (some ⟨w.heap.size, 0, none⟩) 0 s.m.length) := by
    rw [← hw3]
    have := Boxed.new (w.alloc (.cells cur 3)) 44 (.slice (some ⟨w.heap.size, 0, none⟩) 0 s.m.length)
    rw [World.size_alloc] at this
    exact this.alloc _
  have hbox : w3.heap[w.heap.size + 2]? = some (.cells #[.pointer (some ⟨C, 0, none⟩)] 23 (0, 0)) := by
    rw [← hw3]
    have := heap_alloc_new ((w.alloc (.cells cur 3)).alloc (.cells #[.slice (some ⟨w.heap.size, 0, none⟩) 0 s.m.length] 44)) (.cells #[.pointer (some ⟨C, 0, none⟩)] 23)
    rwa [World.size_alloc, World.size_alloc] at this
  rw [hw3]
  have hgC : w3.heap[C]? = _ := (b3.block C HLT.out.1).trans HBLK.out
  have hgg : w3.heap[g]? = _ := (b3.block g HLT.out.2.1).trans HROW.out
  clear hw3 hmk
  refine rangeFunc_boxed rfl (by decide) (gf := 25) (lb := #[.pointer (some ⟨w.heap.size + 1 + 1, 0, none⟩)]) rfl trivial (enters_of Try.func25 (by kernel_rfl) rfl)
    (HST.out (w.heap.size + 1 + 1) (fun b => b = g) w3 rfl hbox hgC hgg) keepsAt_t keepsAt_b (Below.refl _ _) (fun _ => rfl)
    (fun xs W => BoxInts w.heap.size (w.heap.size + 1) (keysP s.ps xs) W ∧ Below w.heap.size w W ∧ (w3.heap.size ≤ W.heap.size ∧ xs.length ≤ s.ps.length))
    (fun _ _ _ => False)
    ?hI ?hIx ⟨⟨_, hr1, hrow⟩, b3, ⟨Nat.le_refl _, Nat.zero_le _⟩⟩
    56 (fun i => #[.bool (pF s.ps i), .bool (pM s.ps i), .int .i64 (pK s.ps i), .int .i64 (pTI s.ps i)]) (fun _ _ h => h.2.2.1) (fun W o => KeepsAt.alloc W o) ?round ?done ?stop
  case hI => exact OwnFrom.and (Own.from (boxInts_own _ _ _) _) (OwnFrom.and (ownFrom_below (Nat.le_refl _) (by omega)) (OwnFrom.and (ownFrom_size _ _) (fun _ _ _ _ hs _ _ => hs)))
  case hIx => exact fun _ _ _ _ _ hs _ _ => hs
  case round =>
    apply Exists.intro
    apply And.intro
    · intro l x W b K hb hK
      unfold plEnc
      gi_wp2
      rw [← hb]
      exact hK
    · rintro l pre x b W ⟨⟨v, bx, r⟩, hB, hsz, hpl⟩ hbl hbk hlt2
      have d0 : W.cell? ⟨b, 0, none⟩ = some (.bool (pF s.ps x)) := blk_cell hbk 0
      have d2 : W.cell? ⟨b, 2, none⟩ = some (.int .i64 (pK s.ps x)) := blk_cell hbk 2
      have cB := bx.cell
      have hpl2 : (pre ++ [x]).length ≤ s.ps.length := by simp; omega
      have hkl := keysP_len s.ps pre
      cases hx : pF s.ps x with
      | false =>
        rw [hx] at d0
        have HX := Lib.hid hx
        have HI := Lib.hid (And.intro (show BoxInts w.heap.size (w.heap.size + 1) (keysP s.ps pre) W from ⟨v, bx, r⟩) (And.intro hB (And.intro hsz hpl2)))
        clear hx bx r hB hsz hpl hpl2 hkl d2
        gi_wp2
        exact ⟨KeepsFrom.refl _ _, KeepsAt.refl _ _, by rw [keysP_miss HX.out]; exact HI.out.1, HI.out.2.1, HI.out.2.2.1, HI.out.2.2.2⟩
      | true =>
        rw [hx] at d0
        have HX := Lib.hid (keysP_hit (pre := pre) hx)
        have HXL2 : Hid ((keysP s.ps pre).length ≤ 4096) := by unfold Hid; have := HN2.out; omega
        generalize keysP s.ps pre = xs at *
        generalize pK s.ps x = y at *
        have HB := Lib.hid hB
        have HBX := Lib.hid bx
        have HR := Lib.hid r
        have hwl : w.heap.size ≤ W.heap.size := by omega
        have HSZ := Lib.hid hsz
        have HPL := Lib.hid hpl2
        have HNS : Hid (∀ k, v.ownBlock = some k → ¬ k = g) := by
          intro k e h
          have h1 := r.lt k e
          have h2 := HLT.out.2.1
          omega
        clear hx hB bx r hsz hpl hpl2 hkl
        gi_wp2_with (gi_at_builtin; (refine wpListIn_append_own_at _ rfl _ _ 44 rfl w.heap.size 3 i0 _ 1 8 Try.underlying44 hi hz0 hz1 hz2 rfl (by decide) v xs.length (ints xs) rfl (HR.out.alloc _) ⟨_, 0, none⟩ 1 1 (ints [y]) rfl rfl (int_new _ y) (ints_one _) (by have := HXL2.out; unfold maxLen; omega) (by have := HXL2.out; omega) (by simp; omega) ?_); intro v' w2 hown hgrow hnil hat; obtain ⟨g2, cc, rfl⟩ := ownsRow_succ hown; obtain ⟨s1, s2, s3, s4⟩ := box_put (zs := xs ++ [y]) HBX.out HR.out hwl (by omega) (by rw [ints_append]) (by simp) hown hgrow; have cB1 := s1.cell; have fB1 := s1.frozen; have HS2 := Lib.hid s2; have HS3 := Lib.hid s3; have HS4 := Lib.hid s4; have HS5 := Lib.hid (box_keeps (S := fun k => k = g) (B := w.heap.size + 1) (v' := .slice (some ⟨g2, 0, none⟩) (xs.length + 1) cc) (by have := HLT.out.2.1; omega) HNS.out hgrow); clear hown hgrow hnil hat s1 s2 s3 s4)
        refine ⟨HS3.out.from _, HS5.out, ?_, HB.out.trans (HS4.out), Nat.le_trans HSZ.out HS4.out.size, HPL.out⟩
        rw [HX.out]; exact HS2.out
  case done =>
    rintro D ys W hD rfl ⟨⟨v, bx, r⟩, hb, hsz, hpl⟩ hK
    rw [keysP_all] at r
    obtain ⟨a1, q1, rfl⟩ := owns_slice r
    have c1 := bx.cell
    have HE := Lib.hid (IntsAt.of_owns r rfl)
    have HB := Lib.hid hb
    have HND : Hid (∀ k, (Value.slice a1 (keysF s.ps).length q1).ownBlock = some k → k ≠ D) := by
      intro k e h
      subst h
      rcases r.2 with ⟨h, _⟩ | ⟨g, cap, cur, h, _, hg, _⟩
      · rw [h] at e; cases e
      · rw [h] at e
        obtain rfl : g = k := by simpa [Value.ownBlock] using e
        rw [hK] at hg; cases hg
    clear bx r hpl hb
    gi_wp2
    refine ⟨by simp, .inl ⟨_, _, rfl, run_takeDeferred hK, ?_⟩⟩
    refine ⟨_, results_tmp rfl _ _ _, .slice a1 (keysF s.ps).length q1, rfl, HE.out.keep (by simp) (fun p e hp => World.cell?_of_block (World.putObj_heap_other (HND.out _ e))), ?_⟩
    exact HB.out.trans ((Below.refl _ W).grown (grownBy_putObj' _ D _) (by have := (Array.getElem?_eq_some_iff.1 hK).1; have := HB.out.size; omega) (fun k e => by cases e; omega))
  case stop =>
    rintro D c pre W _ _ h _
    exact h.elim
theorem keys_any {n₀ : Nat} {w : World} {C g M : Nat} {s : Ck} (h : ClockAt n₀ w C g M s) : Calls Try.prog 18 #[.pointer (some ⟨C, 0, none⟩)] w (KeysDid (keysF s.ps) w) := callsIn_wide.1 (keys_in h)
end Go.Proofs.Ytadhkciggiefbaa

/-
  bits: All.
  Conditions: none.
-/
import Derived.Test.YtpljbjceokoeiaaDoorTaken
import Derived.Test.YtpljbjceokoeiaaDoorBoxInts
namespace Go.Proofs.YtpljbjceokoeiaaDoor
open Go.RowKit Go.Shelf
attribute [local go_sem] Oper.semAt_some

theorem taken_stops (B D g cap : Nat) (S : Nat → Prop) (s : BSet) (w : World) (n₀ : Nat) (hD : BitsAt n₀ w D g cap s) (hT : Tab w) (hSg : S g) (hS0 : S 0)
    (hB : w.heap[B]? = some (.cells #[.pointer (some ⟨D, 0, none⟩)] 23 (0, 0))) :
    SeqStopsK Fence.wide 2 Tryd.prog 29 #[.pointer (some ⟨B, 0, none⟩)] numEnc (KeepsAt S) (fun ys => ys = s.all) (fun pre => ∃ k, k ≤ s.n ∧ pre = s.allTo k) s.n w :=
  fun l J Jx W hW _ _ hY h0 =>
    taken1_in Fence.wide 2 trivial trivial rfl (by decide) (fun W y hy hT => callsIn_wide (n := 1).2 (tz_any y hy W hT)) l B D g cap S s J Jx W n₀ (hD.same hW) (hT.next hW) hY ((hW.block B (blk_lt hB)).trans hB) hSg hS0 h0
set_option maxHeartbeats 400000 in
theorem taken_in (D : Nat) (w : World) :
    CallsIn Fence.wide 2 Tryd.prog 28 #[.pointer (some ⟨D, 0, none⟩)] w fun e w' => e = .returned (.func (.func 29) #[] #[.pointer (some ⟨w.heap.size, 0, none⟩)]) ∧ w.alloc (.cells #[.pointer (some ⟨D, 0, none⟩)] 23) = w' := by
  refine callsIn_of_wp Tryd.func28 rfl trivial ?_ rfl
  simp only [Tryd.ntmps28, List.size_toArray, List.length_cons, List.length_nil, Nat.reduceAdd, Nat.reduceSub, Array.replicate_succ, Array.replicate_zero, List.push_toArray, List.append_toArray, List.nil_append, List.cons_append]
  gi_wp2
  go_ret
  exact ⟨rfl, rfl⟩
/-- Numbers as ints. -/
def natInts (l : List Nat) : List Int := l.map fun (n : Nat) => (n : Int)
theorem natInts_len (l : List Nat) : (natInts l).length = l.length := by simp [natInts]
theorem natInts_snoc (l : List Nat) (x : Nat) : natInts (l ++ [x]) = natInts l ++ [(x : Int)] := by simp [natInts]
/-- A call that tells new ints. -/
def IntsDid (xs : List Int) (w : World) (e : Ending) (w' : World) : Prop := ∃ v, e = .returned v ∧ IntsAt w'.heap.size w' v xs ∧ Below w.heap.size w w'
set_option maxRecDepth 100000 in
set_option maxHeartbeats 2000000 in
theorem allB_in {n₀ : Nat} {w : World} {D g cap : Nat} {s : BSet} (h : BitsAt n₀ w D g cap s) (hT : Tab w) : CallsIn Fence.wide 3 Tryd.prog 21 #[.pointer (some ⟨D, 0, none⟩)] w (IntsDid (natInts s.all) w) := by
  obtain ⟨i0, hi, hz0, hz1, hz2⟩ := info_partsI infoInt
  have HCNT := Lib.hid (callsIn_wide (n := 2).2 (count_any h))
  have t1 : Fence.wide.fn 18 := trivial
  have t3 : Fence.wide.fn 28 := trivial
  refine callsIn_of_wp_marks Tryd.func21 rfl trivial ?_ rfl
  simp only [Tryd.ntmps21, List.size_toArray, List.length_cons, List.length_nil, Nat.reduceAdd, Nat.reduceSub, Array.replicate_succ, Array.replicate_zero, List.push_toArray, List.append_toArray, List.nil_append, List.cons_append]
  have hn2 := h.ok.n2
  have hcl := cnt_le s
  obtain ⟨cur, hmk, hcs⟩ := makeI0 s.cnt (by omega) w
  have m1 : (s.cnt : Int) ≤ 65536 := by omega
  have HD := Lib.hid h
  have HT := Lib.hid hT
  have HLT := Lib.hid (And.intro h.dlt h.glo.2)
  have HT0 := Lib.hid hT.size
  have HCS := Lib.hid hcs
  have HN2 := Lib.hid hn2
  have HCL := Lib.hid hcl
  clear h hT hcs hcl hn2
  gi_wp2_with (first
    | (gi_at_call 18; (with_reducible refine HCNT.out.mono ?_); rintro e w' ⟨rfl, rfl⟩)
    | (gi_at_call 28; (with_reducible refine (taken_in _ _).mono ?_); rintro e w' ⟨rfl, rfl⟩))
  obtain ⟨w3, hw3⟩ : ∃ w3, ((w.alloc (.cells cur 3)).alloc (.cells #[.slice (some ⟨w.heap.size, 0, none⟩) 0 s.cnt] 42)).alloc (.cells #[.pointer (some ⟨D, 0, none⟩)] 23) = w3 := ⟨_, rfl⟩
  have z3 : w3.heap.size = w.heap.size + 3 := by rw [← hw3]; simp
  have b3 : Below w.heap.size w w3 := by rw [← hw3]; exact (((Below.refl _ w).alloc (Nat.le_refl _) _).alloc (by simp) _).alloc (by simp; omega) _
  have hrow : w3.ownsRow w.heap.size 3 1 (.slice (some ⟨w.heap.size, 0, none⟩) 0 s.cnt) 0 [] := by
    rw [← hw3]
    exact ((World.ownsRow_made w cur s.cnt (Nat.le_refl _) (by have := HN2.out; have := HCL.out; unfold maxLen; omega) HCS.out).alloc _).alloc _
  have hr1 : Boxed w3 (w.heap.size + 1) 42 (.slice (some ⟨w.heap.size, 0, none⟩) 0 s.cnt) := by
    rw [← hw3]
    have := Boxed.new (w.alloc (.cells cur 3)) 42 (.slice (some ⟨w.heap.size, 0, none⟩) 0 s.cnt)
    rw [World.size_alloc] at this
    exact this.alloc _
  have hbox : w3.heap[w.heap.size + 2]? = some (.cells #[.pointer (some ⟨D, 0, none⟩)] 23 (0, 0)) := by
    rw [← hw3]
    have := heap_alloc_new ((w.alloc (.cells cur 3)).alloc (.cells #[.slice (some ⟨w.heap.size, 0, none⟩) 0 s.cnt] 42)) (.cells #[.pointer (some ⟨D, 0, none⟩)] 23)
    rwa [World.size_alloc, World.size_alloc] at this
  rw [hw3]
  have hD3 := HD.out.same b3
  have hT3 := HT.out.next b3
  clear hw3 hmk
  refine rangeFunc_open rfl (by decide) (gf := 29) (lb := #[.pointer (some ⟨w.heap.size + 1 + 1, 0, none⟩)]) rfl trivial (enters_of Tryd.func29 (by kernel_rfl) rfl)
    (taken_stops (w.heap.size + 1 + 1) D g cap (fun b => b = g ∨ b = 0) s w3 n₀ hD3 hT3 (.inl rfl) (.inr rfl) hbox) keepsAt_t keepsAt_b (Below.refl _ _) (fun _ => rfl)
    (fun xs W => BoxInts w.heap.size (w.heap.size + 1) (natInts xs) W ∧ Below w.heap.size w W ∧ (w3.heap.size ≤ W.heap.size ∧ xs.length ≤ s.n))
    (fun _ _ _ => False)
    ?hI ?hIx ⟨⟨_, hr1, hrow⟩, b3, ⟨Nat.le_refl _, Nat.zero_le _⟩⟩ ?round ?done ?stop
  case hI => exact OwnFrom.and (Own.from (boxInts_own _ _ _) _) (OwnFrom.and (ownFrom_below (Nat.le_refl _) (by omega)) (OwnFrom.and (ownFrom_size _ _) (fun _ _ _ _ hs _ _ => hs)))
  case hIx => exact fun _ _ _ _ _ hs _ _ => hs
  case round =>
    apply Exists.intro
    apply And.intro
    · intro l x W K hK
      unfold numEnc
      gi_wp2
      exact hK
    · rintro l pre x W ⟨⟨v, bx, r⟩, hB, hsz, hpl⟩ hlt2
      have cB := bx.cell
      have hpl2 : (pre ++ [x]).length ≤ s.n := by simp; omega
      have HXL2 : Hid ((natInts pre).length ≤ 65536) := by unfold Hid; have := HN2.out; rw [natInts_len]; omega
      have HX := Lib.hid (natInts_snoc pre x)
      generalize natInts pre = xs at *
      have HB := Lib.hid hB
      have HBX := Lib.hid bx
      have HR := Lib.hid r
      have hwl : w.heap.size ≤ W.heap.size := by omega
      have HSZ := Lib.hid hsz
      have HPL := Lib.hid hpl2
      have HNS : Hid (∀ k, v.ownBlock = some k → ¬ (k = g ∨ k = 0)) := by
        intro k e h
        have h1 := r.lt k e
        have h2 := HLT.out.2
        have h3 := HT0.out
        omega
      clear hB bx r hsz hpl hpl2
      gi_wp2_with (gi_at_builtin; (refine wpListIn_append_own_at _ rfl _ _ 42 rfl w.heap.size 3 i0 _ 1 8 Tryd.underlying42 hi hz0 hz1 hz2 rfl (by decide) v xs.length (ints xs) rfl (HR.out.alloc _) ⟨_, 0, none⟩ 1 1 (ints [(x : Int)]) rfl rfl (int_new _ (x : Int)) (ints_one _) (by have := HXL2.out; unfold maxLen; omega) (by have := HXL2.out; omega) (by simp; omega) ?_); intro v' w2 hown hgrow hnil hat; obtain ⟨g2, cc, rfl⟩ := ownsRow_succ hown; obtain ⟨s1, s2, s3, s4⟩ := box_put (zs := xs ++ [(x : Int)]) HBX.out HR.out hwl (by omega) (by rw [ints_append]) (by simp) hown hgrow; have cB1 := s1.cell; have fB1 := s1.frozen; have HS2 := Lib.hid s2; have HS3 := Lib.hid s3; have HS4 := Lib.hid s4; have HS5 := Lib.hid (box_keeps (S := fun k => k = g ∨ k = 0) (B := w.heap.size + 1) (v' := .slice (some ⟨g2, 0, none⟩) (xs.length + 1) cc) (by have := HLT.out.2; have := HT0.out; omega) HNS.out hgrow); clear hown hgrow hnil hat s1 s2 s3 s4)
      refine ⟨HS3.out.from _, HS5.out, ?_, HB.out.trans (HS4.out), Nat.le_trans HSZ.out HS4.out.size, HPL.out⟩
      rw [HX.out]; exact HS2.out
  case done =>
    rintro E ys W hE rfl ⟨⟨v, bx, r⟩, hb, hsz, hpl⟩ hK
    obtain ⟨a1, q1, rfl⟩ := owns_slice r
    have c1 := bx.cell
    have HE := Lib.hid (IntsAt.of_owns r rfl)
    have HB := Lib.hid hb
    have HND : Hid (∀ k, (Value.slice a1 (natInts s.all).length q1).ownBlock = some k → k ≠ E) := by
      intro k e h
      subst h
      rcases r.2 with ⟨h, _⟩ | ⟨g, cap, cur, h, _, hg, _⟩
      · rw [h] at e; cases e
      · rw [h] at e
        obtain rfl : g = k := by simpa [Value.ownBlock] using e
        rw [hK] at hg; cases hg
    clear bx r hpl hb
    gi_wp2
    refine ⟨by simp, .inl ⟨_, _, rfl, run_takeDeferred hK, ?_⟩⟩
    refine ⟨_, results_tmp rfl _ _ _, .slice a1 (natInts s.all).length q1, rfl, HE.out.keep (by simp) (fun p e hp => World.cell?_of_block (World.putObj_heap_other (HND.out _ e))), ?_⟩
    exact HB.out.trans ((Below.refl _ W).grown (grownBy_putObj' _ E _) (by have := (Array.getElem?_eq_some_iff.1 hK).1; have := HB.out.size; omega) (fun k e => by cases e; omega))
  case stop =>
    rintro E c pre W _ _ h _
    exact h.elim
theorem allB_any {n₀ : Nat} {w : World} {D g cap : Nat} {s : BSet} (h : BitsAt n₀ w D g cap s) (hT : Tab w) : Calls Tryd.prog 21 #[.pointer (some ⟨D, 0, none⟩)] w (IntsDid (natInts s.all) w) := callsIn_wide.1 (allB_in h hT)
end Go.Proofs.YtpljbjceokoeiaaDoor

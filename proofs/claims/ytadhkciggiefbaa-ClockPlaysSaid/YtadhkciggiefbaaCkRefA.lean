/-
  The document's own clock: Put, where all places are full: the walk.
  Conditions: none.
-/
import Derived.Test.YtadhkciggiefbaaCkRef9
import Derived.Deep.RegionHeld3
namespace Go.Proofs.Ytadhkciggiefbaa
open Go.RowKit

theorem run_op_load {P : Program} {o : Oper} {a : Act} {w : World} (ty : TypeId) (x : Operand) (ho : o.op = .load ty x)
    (g : Nat) (hx : a.eval x = .pointer (some ⟨g, 0, none⟩)) (t : TypeId) (cs : Array Value) (fr : Nat × Nat) (d : TypeDesc) (hg : w.heap[g]? = some (.cells cs t fr))
    (hu : P.underlying ty = some d) (hd : (match d with | .struct _ | .array _ _ => true | _ => false) = true) (hi : (P.info? ty).map (·.size) = some cs.size) :
    (execOp a.eval o).run P w = .ok (.value (.agg cs)) w := by
  unfold execOp
  simp only [ho, hx, Instr.loadAt, Instr.sureAddr, Sem.run_bind, Sem.run_pure, Result.andThen_ok, run_loadVar_row w g t ty cs fr d hg hu hd hi]
set_option maxRecDepth 100000 in
set_option maxHeartbeats 8000000 in
theorem refPut_full {w : World} {v : Value} {ps : List Pl} (h : PlsAt w.heap.size w v ps) (hth : ∀ p ∈ ps, ∃ t, p.thing = .int .i64 t) (hl : ps.length ≤ 4096) (hand : Nat) (hh : hand < ps.length) (key tt : Int) (hf : findI ps key = -1) (hfull : ps.findIdx? (fun p => !p.full) = none)
    {ps' : List Pl} {b : Nat} (hsw : swp (ps.length + 1) ps hand = (ps', b)) {f0 m0 : Bool} {k0 t0 : Int} (hpb : ps'[b]? = some ⟨f0, m0, k0, .int .i64 t0⟩) :
    Calls Try.prog 13 #[.agg #[v, .int .i64 hand], .int .i64 key, .int .i64 tt] w (PutDid (ps'.set b ⟨true, true, key, .int .i64 tt⟩) (((b + 1) % ps.length : Nat) : Int) f0 m0 k0 t0 true w) := by
  obtain ⟨a, c, rfl⟩ := h.slice
  have HPF : Hid (∀ (j : Nat) (p : Pl), ps[j]? = some p → p.full = true) := fun j p hp => full_none hfull p (List.mem_of_getElem? hp)
  have HTN := Lib.hid (Turns.start hh hth)
  have L := lay3 w (.slice a ps.length c) hand
  generalize hw1 : mk3 w (.slice a ps.length c) hand = w1 at L
  unfold mk3 at hw1
  have HF := Lib.hid (find_any (h.next L.hb) hl hand key)
  rw [hf] at HF
  have HP := Lib.hid (h.next L.hb)
  have c0 : w1.cell? ⟨w.heap.size, 0, none⟩ = some (.slice a ps.length c) := blk_cell L.b0 0
  have c1 : w1.cell? ⟨w.heap.size, 1, none⟩ = some (.int .i64 hand) := blk_cell L.b0 1
  have l1 : (ps.length : Int) ≤ 4096 := by omega
  have HL := Lib.hid L
  have HTH := Lib.hid hth
  have HW2 := Lib.hid hw1
  have HSW := Lib.hid hsw
  have HPB := Lib.hid hpb
  clear h hf hw1 L hth hfull hsw hpb hh
  go_enter Try.func13, Try.ntmps13
  go_upto_region 1 with fail
  change (Code.region _ _ _).wp _ _ _ (((w.alloc (.cells #[.slice a ps.length c, .int .i64 hand] 29)).alloc (.cells #[.slice none 0 0, .int .i64 0] 29)).alloc (.cells #[.bool false, .bool false, .int .i64 0, .int .i64 0] 39))
  rw [HW2.out]
  clear HW2
  go_wp2_with (go_at_call 19; (with_reducible refine HF.out.mono ?_); rintro e w2 ⟨rfl, hb⟩; have L2 := HL.out.next hb; have HL2 := Lib.hid L2; have HP2 := Lib.hid (HP.out.next hb); have d0 : w2.cell? ⟨w.heap.size, 0, none⟩ = some (.slice a ps.length c) := blk_cell L2.b0 0; clear hb L2 c0 c1 HP HL HF)
  go_loopw [10] (fun jv wr => ∃ k : Nat, k ≤ ps.length ∧ jv = .int .i64 k ∧ w2 = wr) (fun jv _ => ps.length - (intOf jv).toNat)
  case atStart => exact ⟨0, Nat.zero_le _, rfl, rfl⟩
  case round =>
    obtain ⟨k, hk, rfl, rfl⟩ := hrel
    by_cases hlt : k < ps.length
    · have k1 : (k : Int) < ps.length := by omega
      have hkl := hlt
      obtain ⟨p, hp⟩ : ∃ p, ps[k]? = some p := ⟨ps[k], List.getElem?_eq_getElem hkl⟩
      obtain ⟨g, off, rfl, hg, q0, _, _, _⟩ := HP2.out.get hp
      rw [HPF.out k p hp] at q0
      clear hp hg hkl hlt
      go_wp2
      go_roundw
      case rel => exact ⟨k + 1, by omega, by go_num, trivial⟩
      case measure => simp [intOf]; omega
    · obtain rfl : k = ps.length := by omega
      clear hlt hk
      go_wp2
      go_loopg [] (ps.length + 1) (fun j wr => ∃ (a : Nat) (qs : List Pl) (v' : Value), Turns ps hand j qs a ∧ Lay3 w wr v' a ∧ PlsAt wr.heap.size wr v' qs)
      case atStart => exact ⟨hand, ps, _, HTN.out, HL2.out, HP2.out⟩
      case round =>
        obtain ⟨a2, qs, v', hT, hLw, hPw⟩ := hrel
        obtain ⟨j, rfl⟩ : ∃ j, j = gk := ⟨gk, rfl⟩
        obtain ⟨p, hp⟩ : ∃ p, qs[a2]? = some p := ⟨qs[a2]'(by rw [hT.len]; exact hT.lt), List.getElem?_eq_getElem (by rw [hT.len]; exact hT.lt)⟩
        obtain ⟨aa, cc, e⟩ := hPw.slice
        rw [hT.len] at e
        subst e
        obtain ⟨g, off, rfl, hg, d0, d1, d2, d3⟩ := hPw.get hp
        obtain ⟨tp, htp⟩ := hT.ints p (List.mem_of_getElem? hp)
        have a1 : (a2 : Int) < ps.length := by have := hT.lt; omega
        have a4 : (a2 : Int) ≤ 4096 := by omega
        have hpd : qs[a2]?.getD default = p := by rw [hp]; rfl
        have c0 : wr.cell? ⟨w.heap.size, 0, none⟩ = some (.slice (some ⟨g, off, none⟩) ps.length cc) := blk_cell hLw.b0 0
        have c1 : wr.cell? ⟨w.heap.size, 1, none⟩ = some (.int .i64 a2) := blk_cell hLw.b0 1
        rw [htp] at d3
        have HLW := Lib.hid hLw
        have HPW := Lib.hid hPw
        have HPP := Lib.hid hp
        have HTP := Lib.hid htp
        have HPD := Lib.hid hpd
        have HT := Lib.hid hT
        clear hT hLw hPw hp htp hpd hg
        cases hmk : p.marked with
        | true =>
          have HMK : Hid ((qs[a2]?.getD default).marked = true) := by unfold Hid; rw [HPD.out]; exact hmk
          obtain ⟨f, hj, hT2⟩ := HT.out.more HMK.out
          subst hj
          have HT2 := Lib.hid hT2
          have HTQ : Hid (turnPs qs a2 = qs.set a2 ⟨p.full, false, p.key, .int .i64 tp⟩) := by unfold Hid turnPs; rw [HPD.out, ← HTP.out]
          rw [hmk] at d1
          clear hmk hT2
          generalize p.full = ff at d0 HTQ
          generalize p.key = kk at d2 HTQ
          obtain ⟨w3, hw3⟩ : ∃ w3, (wr.alloc (.cells #[.bool false, .bool false, .int .i64 0, .int .i64 0] 39)) = w3 := ⟨_, rfl⟩
          have hz3 := heap_alloc_new wr (.cells #[.bool false, .bool false, .int .i64 0, .int .i64 0] 39)
          rw [hw3] at hz3
          have HZ3 := Lib.hid hz3
          have HB3 : Hid (Below wr.heap.size wr w3) := by rw [← hw3]; exact (Below.refl _ _).alloc (Nat.le_refl _) _
          have HW3 := Lib.hid hw3
          clear hz3 hw3
          go_upto_region 11 with (refine wpList_store_row (o := ⟨none, _, _, _, _, _⟩) rfl 39 (.tmp 11) (.tmp 58) rfl wr.heap.size (plC ff true kk tp) rfl rfl 39 (plC false false 0 0) (by rw [HW3.out]; exact HZ3.out) (plC_sz _ _ _ _) rfl ?_ ?_; exact plC_one _ _ _ _)
          rw [HW3.out]
          have hr3 := setRow_heap w3 wr.heap.size _ (plC ff true kk tp) _ _ HZ3.out
          have HBB := Lib.hid (below_setRow HB3.out (Nat.le_refl _) (plC ff true kk tp))
          change (Code.region _ _ _).wp _ _ _ (w3.setRow wr.heap.size (plC ff true kk tp))
          generalize w3.setRow wr.heap.size (plC ff true kk tp) = w4 at hr3 HBB ⊢
          have m1 : w4.cell? ⟨wr.heap.size, 1, none⟩ = some (.bool true) := blk_cell hr3 1
          have mf := blk_frozen hr3 1
          have HR5 := Lib.hid (blk_set hr3 1 (.bool false))
          have HHM := Lib.hid ((Moves.refl (fun k => k = wr.heap.size) w4).setCell (p := ⟨wr.heap.size, 1, none⟩) (fun _ => rfl) (.bool false))
          have HR3 := Lib.hid hr3
          clear hr3 d0 d1 d2 d3 c0 c1 HW3 HZ3 HB3
          go_upto_region 12 with fail
          have hr5 := HR5.out
          have hm5 := HHM.out
          change (Code.region _ _ _).wp _ _ _ (w4.setCell ⟨wr.heap.size, 1, none⟩ (.bool false))
          generalize w4.setCell ⟨wr.heap.size, 1, none⟩ (.bool false) = w5 at hr5 hm5 ⊢
          have hb5 : Below wr.heap.size wr w5 := HBB.out.trans (hm5.below (B := wr.heap.size) (fun b h => by omega) (by have := blk_lt HR3.out; omega))
          have L5 := HLW.out.next hb5
          have P5 := HPW.out.next hb5
          have c0 : w5.cell? ⟨w.heap.size, 0, none⟩ = some (.slice (some ⟨g, off, none⟩) ps.length cc) := blk_cell L5.b0 0
          have c1 : w5.cell? ⟨w.heap.size, 1, none⟩ = some (.int .i64 a2) := blk_cell L5.b0 1
          have x0 : w5.cell? ⟨wr.heap.size, 0, none⟩ = some (.bool ff) := blk_cell hr5 0
          have x1 : w5.cell? ⟨wr.heap.size, 1, none⟩ = some (.bool false) := blk_cell hr5 1
          have x2 : w5.cell? ⟨wr.heap.size, 2, none⟩ = some (.int .i64 kk) := blk_cell hr5 2
          have x3 : w5.cell? ⟨wr.heap.size, 3, none⟩ = some (.int .i64 tp) := blk_cell hr5 3
          have HWI := Lib.hid (with_any P5 HT.out.ints (by rw [HT.out.len]; exact hl) a2 (by rw [HT.out.len]; exact HT.out.lt) ff false kk tp)
          rw [← HTQ.out] at HWI
          have HL5 := Lib.hid L5
          clear hr5 hm5 hb5 L5 P5 m1 mf HHM HR5 HR3 HBB HPW HLW
          go_upto_region 13 with (go_at_call 20; (with_reducible refine HWI.out.mono ?_); rintro e w6 ⟨v6, rfl, h6, hb6, _⟩; obtain ⟨a6, c6, e6⟩ := h6.slice; rw [HT2.out.len] at e6; subst e6; have H6 := Lib.hid h6; have L6 := HL5.out.next hb6; have HL6 := Lib.hid L6; have e0 : w6.cell? ⟨w.heap.size, 0, none⟩ = some (.slice (some ⟨g, off, none⟩) ps.length cc) := blk_cell L6.b0 0; have e1 : w6.cell? ⟨w.heap.size, 1, none⟩ = some (.int .i64 a2) := blk_cell L6.b0 1; have f0 := blk_frozen L6.b0 0; have f1 := blk_frozen L6.b0 1; clear h6 hb6 HL5 L6 c0 c1 x0 x1 x2 x3)
          have h7 := H6.out.moves HL6.out.b0 (setCk_moves w6 w.heap.size (.slice a6 ps.length c6) a2)
          have L7 := HL6.out.turn (.slice a6 ps.length c6) a2
          change (Code.region _ _ _).wp _ _ _ (setCk w6 w.heap.size (.slice a6 ps.length c6) a2)
          generalize setCk w6 w.heap.size (.slice a6 ps.length c6) a2 = w7 at h7 L7 ⊢
          have c0 : w7.cell? ⟨w.heap.size, 0, none⟩ = some (.slice a6 ps.length c6) := blk_cell L7.b0 0
          have c1 : w7.cell? ⟨w.heap.size, 1, none⟩ = some (.int .i64 a2) := blk_cell L7.b0 1
          have g1 := blk_frozen L7.b0 1
          have n1 : (1 : Int) ≤ ps.length := by omega
          have HM : Hid (((a2 : Int) + 1) % (ps.length : Int) = (((a2 + 1) % ps.length : Nat) : Int)) := by unfold Hid; push_cast; rfl
          have H8 := Lib.hid (h7.moves L7.b0 (hand_moves w7 w.heap.size (((a2 : Int) + 1) % (ps.length : Int))))
          have HL8 := Lib.hid (L7.hand (((a2 : Int) + 1) % (ps.length : Int)))
          clear e0 e1 f0 f1 h7 L7
          go_wp2
          go_roundg f
          case measure => omega
          case rel =>
            refine ⟨(a2 + 1) % ps.length, turnPs qs a2, _, HT2.out, ?_, H8.out⟩
            have h9 := HL8.out
            rw [HM.out] at h9 ⊢
            exact h9
        | false =>
          have HMK : Hid ((qs[a2]?.getD default).marked = false) := by unfold Hid; rw [HPD.out]; exact hmk
          have HSW2 : Hid ((qs, a2) = (ps', b)) := by
            have := HT.out.same
            rw [swp_stop HMK.out, HSW.out] at this
            exact this
          have hq1 : qs = ps' := congrArg Prod.fst HSW2.out
          have hq2 : a2 = b := congrArg Prod.snd HSW2.out
          subst hq1 hq2
          have hpe : p = ⟨f0, m0, k0, .int .i64 t0⟩ := by
            have h1 := HPP.out
            rw [HPB.out] at h1
            exact (Option.some.inj h1).symm
          subst hpe
          obtain rfl : m0 = false := hmk
          obtain rfl : t0 = tp := by
            have h1 : (Value.int .i64 t0) = .int .i64 tp := HTP.out
            injection h1
          clear HSW2 HMK
          obtain ⟨w3, hw3⟩ : ∃ w3, (wr.alloc (.cells #[.bool false, .bool false, .int .i64 0, .int .i64 0] 39)) = w3 := ⟨_, rfl⟩
          have hz3 := heap_alloc_new wr (.cells #[.bool false, .bool false, .int .i64 0, .int .i64 0] 39)
          rw [hw3] at hz3
          have HZ3 := Lib.hid hz3
          have HB3 : Hid (Below wr.heap.size wr w3) := by rw [← hw3]; exact (Below.refl _ _).alloc (Nat.le_refl _) _
          have HW3 := Lib.hid hw3
          clear hz3 hw3
          go_upto_region 15 with (refine wpList_store_row (o := ⟨none, _, _, _, _, _⟩) rfl 39 (.tmp 12) (.tmp 78) rfl wr.heap.size (plC f0 false k0 t0) rfl rfl 39 (plC false false 0 0) (by rw [HW3.out]; exact HZ3.out) (plC_sz _ _ _ _) rfl ?_ ?_; exact plC_one _ _ _ _)
          rw [HW3.out]
          have hr3 := setRow_heap w3 wr.heap.size _ (plC f0 false k0 t0) _ _ HZ3.out
          have HBB := below_setRow HB3.out (Nat.le_refl _) (plC f0 false k0 t0)
          change (Code.region _ _ _).wp _ _ _ (w3.setRow wr.heap.size (plC f0 false k0 t0))
          generalize w3.setRow wr.heap.size (plC f0 false k0 t0) = w5 at hr3 HBB ⊢
          have L5 := HLW.out.next HBB
          have P5 := HPW.out.next HBB
          have e0 : w5.cell? ⟨w.heap.size, 0, none⟩ = some (.slice (some ⟨g, off, none⟩) ps.length cc) := blk_cell L5.b0 0
          have e1 : w5.cell? ⟨w.heap.size, 1, none⟩ = some (.int .i64 a2) := blk_cell L5.b0 1
          have HWI := Lib.hid (with_any P5 HT.out.ints (by rw [HT.out.len]; exact hl) a2 (by rw [HT.out.len]; exact HT.out.lt) true true key tt)
          have HL5 := Lib.hid L5
          have HR3 := Lib.hid hr3
          have HLT : Hid (w.heap.size + 3 ≤ wr.heap.size) := by have := blk_lt HLW.out.b2; unfold Hid; omega
          clear hr3 HBB L5 P5 HPW HLW d0 d1 d2 d3 c0 c1 HW3 HZ3 HB3
          go_upto_region 16 with (go_at_call 20; (with_reducible refine HWI.out.mono ?_); rintro e w6 ⟨v6, rfl, h6, hb6, hf6⟩; obtain ⟨a6, c6, e6⟩ := h6.slice; rw [List.length_set, HT.out.len] at e6; subst e6; have H6 := Lib.hid h6; have L6 := HL5.out.next hb6; have HL6 := Lib.hid L6; have HR6 := Lib.hid ((hb6.block _ (blk_lt HR3.out)).trans HR3.out); have HFR := Lib.hid hf6; have e0' : w6.cell? ⟨w.heap.size, 0, none⟩ = some (.slice (some ⟨g, off, none⟩) ps.length cc) := blk_cell L6.b0 0; have e1' : w6.cell? ⟨w.heap.size, 1, none⟩ = some (.int .i64 a2) := blk_cell L6.b0 1; have f0 := blk_frozen L6.b0 0; have f1 := blk_frozen L6.b0 1; clear h6 hb6 hf6 L6 e0 e1)
          have h7 := H6.out.moves HL6.out.b0 (setCk_moves w6 w.heap.size (.slice a6 ps.length c6) a2)
          have L7 := HL6.out.turn (.slice a6 ps.length c6) a2
          have HR7 := ((setCk_moves w6 w.heap.size (.slice a6 ps.length c6) a2).block _ (blk_lt HR6.out) (by have := blk_lt HL6.out.b0; have := HLT.out; omega)).trans HR6.out
          change (Code.region _ _ _).wp _ _ _ (setCk w6 w.heap.size (.slice a6 ps.length c6) a2)
          generalize setCk w6 w.heap.size (.slice a6 ps.length c6) a2 = w7 at h7 L7 HR7 ⊢
          have c0 : w7.cell? ⟨w.heap.size, 0, none⟩ = some (.slice a6 ps.length c6) := blk_cell L7.b0 0
          have c1 : w7.cell? ⟨w.heap.size, 1, none⟩ = some (.int .i64 a2) := blk_cell L7.b0 1
          have g1 := blk_frozen L7.b0 1
          have n1 : (1 : Int) ≤ ps.length := by omega
          have HM : Hid (((a2 : Int) + 1) % (ps.length : Int) = (((a2 + 1) % ps.length : Nat) : Int)) := by unfold Hid; push_cast; rfl
          have H8 := Lib.hid (h7.moves L7.b0 (hand_moves w7 w.heap.size (((a2 : Int) + 1) % (ps.length : Int))))
          have HL8 := Lib.hid (L7.hand (((a2 : Int) + 1) % (ps.length : Int)))
          have HR8 := Lib.hid (((hand_moves w7 w.heap.size (((a2 : Int) + 1) % (ps.length : Int))).block _ (blk_lt HR7) (by have := HLT.out; omega)).trans HR7)
          clear e0' e1' f0 f1 h7 L7 HR7
          go_upto_region 17 with fail
          have h8 := H8.out
          have L8 := HL8.out
          have r8 := HR8.out
          change (Code.region _ _ _).wp _ _ _ (w7.setCell ⟨w.heap.size, 1, none⟩ (.int .i64 (((a2 : Int) + 1) % (ps.length : Int))))
          generalize w7.setCell ⟨w.heap.size, 1, none⟩ (.int .i64 (((a2 : Int) + 1) % (ps.length : Int))) = w8 at h8 L8 r8 ⊢
          rw [HM.out] at L8
          generalize hhd : ((((a2 + 1) % ps.length : Nat) : Int)) = hd at L8
          have HHD := Lib.hid hhd
          clear hhd
          have L9 : Lay3 w w8.drew (.slice a6 ps.length c6) hd := L8.next (Below.refl _ _).drew
          have HE := Lib.hid (put_end (v' := .slice a6 ps.length c6) L9 hd f0 false k0 t0)
          have HFR2 : Hid (∀ g off n c', (Value.slice a6 ps.length c6) = .slice (some ⟨g, off, none⟩) n c' → g ≠ w.heap.size + 2) := (fun g off n c' e => by have := HFR.out g off n c' e; have := blk_lt HL5.out.b2; omega)
          have HP9 := Lib.hid (((h8.next (Below.refl _ _).drew).setRow L9.b1 (ckC (.slice a6 ps.length c6) hd)).beside HFR2.out (plC f0 false k0 t0))
          have hS9 : w8.drew.heap[w.heap.size]? = some (.cells (ckC (.slice a6 ps.length c6) hd) 29 (0, 0)) ∧ w8.drew.heap[wr.heap.size]? = some (.cells (plC f0 false k0 t0) 39 (0, 0)) := ⟨L8.b0, r8⟩
          have hS10 := And.intro ((setRow_other w8.drew (w.heap.size + 1) w.heap.size (ckC (.slice a6 ps.length c6) hd) (by omega)).trans hS9.1) ((setRow_other w8.drew (w.heap.size + 1) wr.heap.size (ckC (.slice a6 ps.length c6) hd) (by have := HLT.out; omega)).trans hS9.2)
          have hS11 := And.intro ((setRow_other _ (w.heap.size + 2) w.heap.size (plC f0 false k0 t0) (by omega)).trans hS10.1) ((setRow_other _ (w.heap.size + 2) wr.heap.size (plC f0 false k0 t0) (by have := HLT.out; omega)).trans hS10.2)
          have HL9 := Lib.hid L9
          clear h8 L8 r8 L9 c0 c1 g1 H8 HL8 HR8 HM
          refine wp_region_held (S := fun V => V.heap[w.heap.size]? = some (.cells (ckC (.slice a6 ps.length c6) hd) 29 (0, 0)) ∧ V.heap[wr.heap.size]? = some (.cells (plC f0 false k0 t0) 39 (0, 0))) (by kernel_rfl) ?_
          change wpAnyH _ _ _ _ _ _ _ _ w8.drew
          refine wpAnyH_take (i := 0) (oi := ⟨some 94, _, _, _, _, _⟩) (v := .agg (ckC (.slice a6 ps.length c6) hd)) rfl (by kernel_rfl) (by kernel_rfl) (by kernel_rfl) (fun _ _ _ h => h) (Or.inl ⟨by rfl, fun V hV => run_op_load 29 (.tmp 3) rfl w.heap.size rfl 29 (ckC (.slice a6 ps.length c6) hd) (0, 0) _ hV.1 Try.underlying29 rfl (ckC_sz _ _)⟩) hS9 ?_
          refine wpAnyH_take (i := 1) (oi := ⟨some 95, _, _, _, _, _⟩) (v := .agg (plC f0 false k0 t0)) rfl (by kernel_rfl) (by kernel_rfl) (by kernel_rfl) (fun _ _ _ h => h) (Or.inl ⟨by rfl, fun V hV => run_op_load 39 (.tmp 12) rfl wr.heap.size rfl 39 (plC f0 false k0 t0) (0, 0) _ hV.2 Try.underlying39 rfl (plC_sz _ _ _ _)⟩) hS9 ?_
          simp only [Act.put, List.setIfInBounds_toArray, List.set_cons_zero, List.set_cons_succ]
          refine wpAnyH_ready (rs := [2]) (by kernel_rfl) (by simp) ?_
          refine AllReadyH.cons rfl (fun K hK => ?_) AllReadyH.nil
          rw [if_pos (by rfl)]
          refine wp_store_row 29 (.tmp 6) (.tmp 94) rfl (w.heap.size + 1) (ckC (.slice a6 ps.length c6) hd) rfl rfl 29 (ckC (.slice none 0 0) 0) HL9.out.b1 (ckC_sz _ _) rfl (ckC_one _ _ _ _) ?_
          refine hK.out _ _ hS10 (fun _ => ?_)
          clear hK K
          refine wpAnyH_ready (rs := [3]) (by kernel_rfl) (by simp) ?_
          refine AllReadyH.cons rfl (fun K hK => ?_) AllReadyH.nil
          rw [if_pos (by rfl)]
          refine wp_store_row 39 (.tmp 7) (.tmp 95) rfl (w.heap.size + 2) (plC f0 false k0 t0) rfl rfl 39 (plC false false 0 0) HE.out.2.2.1 (plC_sz _ _ _ _) rfl (plC_one _ _ _ _) ?_
          refine hK.out _ _ hS11 (fun _ => ?_)
          clear hK K
          refine wpAnyH_ready (rs := [4]) (by kernel_rfl) (by simp) ?_
          refine AllReadyH.cons rfl (fun K hK => ?_) AllReadyH.nil
          go_simp
          refine hK.out _ _ hS11 (fun _ => ?_)
          clear hK K
          refine wpAnyH_done (by kernel_rfl) ?_ _
          go_wp2
          refine bodyPost_ret (refPut_res _ (w.heap.size + 1) (w.heap.size + 2) _ _ _ _ _ _ _ _ rfl rfl rfl HE.out.1 HE.out.2.1) rfl ⟨.slice a6 ps.length c6, by rw [HHD.out], ?_, HE.out.2.2.2⟩
          rw [size_setRow, size_setRow]
          exact HP9.out
end Go.Proofs.Ytadhkciggiefbaa

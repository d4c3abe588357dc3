/-
  region: Append.
  Conditions: none.
-/
import Derived.Test.YtiddfilhfdkogaaRegB
import Derived.Deep.RegionHeld3
import Derived.Deep.DeepCutAuto
import Derived.Deep.CutBlock
import Derived.Test.YtiddfilhfdkogaaQuietT
namespace Go.Proofs.Ytiddfilhfdkogaa
open Go.RowKit Go.Shelf
attribute [-go_sem] Instr.build Instr.fill
attribute [local go_sem] build_loc3 Oper.semAt_some

theorem app_res (w : World) (a b : Nat) (q p m n : Int) (tmps : Array Value) (h4 : tmps.getD 4 undef = .pointer (some ⟨a, 0, none⟩)) (h5 : tmps.getD 5 undef = .pointer (some ⟨b, 0, none⟩)) (ha : w.heap[a]? = some (.cells #[.int .i64 q, .int .i64 p, .int .i64 m] 42 (0, 0))) (hb : w.cell? ⟨b, 0, none⟩ = some (.int .i64 n)) :
    (results Try.f12 tmps).run Try.prog w = .ok (.tuple #[.agg #[.int .i64 q, .int .i64 p, .int .i64 m], .int .i64 n]) w := by
  have h4' : tmps[4]?.getD undef = .pointer (some ⟨a, 0, none⟩) := by simpa using h4
  have h5' : tmps[5]?.getD undef = .pointer (some ⟨b, 0, none⟩) := by simpa using h5
  have a0 : w.cell? ⟨a, 0, none⟩ = some (.int .i64 q) := blk_cell ha 0
  have a1 : w.cell? ⟨a, 1, none⟩ = some (.int .i64 p) := blk_cell ha 1
  have a2 : w.cell? ⟨a, 2, none⟩ = some (.int .i64 m) := blk_cell ha 2
  simp [results, Try.results12, h4', h5', go_sem, hb, a0, a1, a2]
theorem locSz : (Try.prog.info? 42).map (·.size) = some 3 := by kernel_rfl
set_option maxRecDepth 100000 in
set_option maxHeartbeats 8000000 in
theorem append_in {w W : World} {E : Foot} {R D : Nat} {x : LogS} {d : Dev} (h : LogApart w E R D x d W) (hon : x.On d) (hup : d.Up) (hlt : x.row.length < x.room) (hl : x.last < 1099511627776 * 2)
    (bs : List (BitVec 8)) (u : Value) (hu : BytesAt W.heap.size W u bs) (hue : ∀ k, u.ownBlock = some k → E k) (hne : 1 ≤ bs.length) (hle : bs.length ≤ x.rr) {k : Nat} (hsm : d.Small k) (hk : k + 1 + bs.length ≤ 65536) :
    CallsIn Fence.wide 3 Try.prog 12 #[.pointer (some ⟨R, 0, none⟩), u] W fun e W' => ∃ x2 d2, AppTo (x.for_ bs.length) (d.for_ x bs.length) bs x2 d2 [] ∧
      e = .returned (.tuple #[.agg #[.int .i64 (x.for_ bs.length).last, .int .i64 (x.for_ bs.length).pos, .int .i64 bs.length], .int .i64 0]) ∧ LogApart w E R D x2 d2 W' ∧ Same E W W' := by
  refine callsIn_of_wp_marks Try.func12 rfl trivial ?_ rfl
  simp only [Try.ntmps12, List.size_toArray, List.length_cons, List.length_nil, Nat.reduceAdd, Nat.reduceSub, Array.replicate_succ, Array.replicate_zero, List.push_toArray, List.append_toArray, List.nil_append, List.cons_append]
  refine wpIn_wide.2 ?_
  obtain ⟨ab, cb, rfl, hbl, hb0, hbc⟩ := id hu
  obtain ⟨gb, ob, rfl, hgb, hcb⟩ : ∃ g off, ab = some ⟨g, off, none⟩ ∧ g < W.heap.size ∧ ∀ j, j < bs.length → W.cell? ⟨g, off + j, none⟩ = some (.int .u8 (U (bs[j]?.getD 0))) := by
    rcases hbc with h | h
    · subst h; simp at hne
    · exact h
  obtain ⟨W4, hW4⟩ : ∃ W4, (((W.alloc (.cells #[.pointer (some ⟨R, 0, none⟩)] 23)).alloc (.cells #[.slice (some ⟨gb, ob, none⟩) bs.length cb] 36)).alloc (.cells #[.int .i64 0, .int .i64 0, .int .i64 0] 42)).alloc (.cells #[.int .i64 0] 24) = W4 := ⟨_, rfl⟩
  obtain ⟨hlay, hap, hbw, hsz⟩ := app_lay h _ W4 hW4
  have HW4 := Lib.hid hW4
  have HLAY := Lib.hid hlay
  have HAP := Lib.hid hap
  have HBW := Lib.hid hbw
  have HSW : Hid (Same E W W4) := h.same hbw
  have HSZ := Lib.hid hsz
  have HOK := Lib.hid h.ok
  have HEIN := Lib.hid h.inE
  have HRT := Lib.hid h.right
  have hrr := h.ok.rr_le
  have hpl := h.ok.pos_le
  have n1 : (1 : Int) ≤ bs.length := by omega
  have n2 : (bs.length : Int) ≤ x.rr := by omega
  have n3 : (x.rr : Int) ≤ 8077312 := by omega
  have HU := Lib.hid hu
  have HUE := Lib.hid hue
  have HPR := Lib.hid (And.intro hon (And.intro hup (And.intro hlt hl)))
  have HSM := Lib.hid (And.intro hsm hk)
  have HPL := Lib.hid hpl
  obtain ⟨rv, hL, _⟩ := id hap
  have HRR := Lib.hid (fun V (hb : Below W4.heap.size W4 V) => rroom_any (hL.below hb))
  have HPO := Lib.hid (fun V (hb : Below W4.heap.size W4 V) => position_any (hL.below hb))
  have c0 : W4.cell? ⟨W.heap.size, 0, none⟩ = some (.pointer (some ⟨R, 0, none⟩)) := blk_cell hlay.b0 0
  have c1 : W4.cell? ⟨W.heap.size + 1, 0, none⟩ = some (.slice (some ⟨gb, ob, none⟩) bs.length cb) := blk_cell hlay.b1 0
  clear h hap hlay hbw hW4 hu hue hon hup hlt hl hsm hk hL hbl hb0 hbc hgb hcb hsz hrr
  obtain ⟨nn, hnn⟩ : ∃ nn, bs.length = nn := ⟨_, rfl⟩
  obtain ⟨rr, hrr⟩ : ∃ rr, x.rr = rr := ⟨_, rfl⟩
  obtain ⟨ps, hps⟩ : ∃ ps, x.pos = ps := ⟨_, rfl⟩
  have HEQ := Lib.hid (And.intro hnn (And.intro hrr hps))
  rw [hnn] at n1 n2 c1 HW4
  rw [hrr] at n2 n3 HRR
  rw [hps] at HPO
  have HPS : Hid (ps ≤ rr) := by have := HPL.out; unfold Hid; rw [← hps, ← hrr]; exact this
  have hw : IntKind.i64.wrap ((rr : Int) - (ps : Int)) = (rr : Int) - (ps : Int) := IntWalk.i64_in _ (by have := HPS.out; omega)
  rw [hnn]
  clear hnn hrr hps
  go_upto_region 1 with (fail)
  change Code.wp _ _ _ _ ((((W.alloc (.cells #[.pointer (some ⟨R, 0, none⟩)] 23)).alloc (.cells #[.slice (some ⟨gb, ob, none⟩) nn cb] 36)).alloc (.cells #[.int .i64 0, .int .i64 0, .int .i64 0] 42)).alloc (.cells #[.int .i64 0] 24))
  rw [HW4.out]
  go_upto_region 3 with (fail)
  have q0 := after_cell c0
  have q1 := after_cell c1
  refine wp_region_after (by kernel_rfl) (by kernel_rfl) ?_
  repeat (go_big_quiet_step ((go_at_call 33; with_reducible exact after_call (HRR.out _ (After.h _)))))
  refine wpQuiet_nil ?_
  rintro _ ⟨p3, rfl⟩
  have HB3 := Lib.hid p3.h
  have c0' := q0 p3
  have c1' := q1 p3
  clear q0 q1 c0 c1
  generalize p3.v = W5 at HB3 c0' c1' ⊢
  clear p3
  obtain ⟨c0, c1⟩ := And.intro c0' c1'
  clear c0' c1'
  go_upto_region 5 with (fail)
  have q0 := after_cell c0
  have q1 := after_cell c1
  have HRR5 := Lib.hid (fun V (hb : Below W5.heap.size W5 V) => HRR.out V (HB3.out.trans (hb.mono HB3.out.size)))
  have HPO5 := Lib.hid (fun V (hb : Below W5.heap.size W5 V) => HPO.out V (HB3.out.trans (hb.mono HB3.out.size)))
  refine wp_region_after (by kernel_rfl) (by kernel_rfl) ?_
  repeat (go_big_quiet_step (first | (go_at_call 33; with_reducible exact after_call (HRR5.out _ (After.h _))) | (go_at_call 34; with_reducible exact after_call (HPO5.out _ (After.h _)))))
  refine wpQuiet_nil ?_
  rintro _ ⟨p5, rfl⟩
  have HB5 := Lib.hid (HB3.out.trans (p5.h.mono HB3.out.size))
  have c0' := q0 p5
  clear q0 q1 c0 c1 HRR5 HPO5
  generalize p5.v = W6 at HB5 c0' ⊢
  clear p5
  obtain ⟨bb, hbb⟩ : ∃ bb, decide ((rr : Int) - (ps : Int) < (nn : Int)) = bb := ⟨_, rfl⟩
  rw [hbb]
  have HBQ := Lib.hid hbb
  have HN := Lib.hid (And.intro n1 (And.intro n2 n3))
  have HNE := Lib.hid (And.intro hne hle)
  clear hbb n1 n2 n3 hw hpl hne hle
  go_upto_if 33 with (fail)
  go_cut [6, 10, 16, 17, 19, 24] from 34 to 39 (fun _s6 s10 s16 s17 s19 s24 wx => (s10 = .bool false ∧ s16 = .bool false ∧ s17 = .bool false ∧ s19 = .bool false ∧ s24 = .bool false) ∧ ∃ wz, wz = wx ∧ LogApart w (Four E W.heap.size) R D (x.for_ nn) (d.for_ x nn) wz ∧ AppLay W.heap.size R (.slice (some ⟨gb, ob, none⟩) nn cb) wz ∧ Same (Four E W.heap.size) W4 wz)
  case first =>
    cases bb with
    | true =>
      have HFO : Hid (x.for_ nn = x.begun ∧ d.for_ x nn = d.flushed x) := by
        have h1 := HEQ.out
        have h2 := HPS.out
        have hc : (rr : Int) - (ps : Int) < (nn : Int) := by simpa using HBQ.out
        unfold Hid LogS.for_ Dev.for_
        rw [h1.2.1, h1.2.2, if_pos (by omega), if_pos (by omega)]; exact ⟨rfl, rfl⟩
      have HBG := Lib.hid (begin_any (HAP.out.on HB5.out) HPR.out.1 (flush_up HOK.out HPR.out.1 HRT.out HPR.out.2.1) HPR.out.2.2.2 HSM.out.1 (by have := HSM.out.2; omega))
      go_wp2_with (go_at_call 35; (with_reducible refine HBG.out.mono ?_); rintro e w7 ⟨rfl, h7, s7⟩; have H7 := Lib.hid h7; have S7 := Lib.hid s7; clear h7 s7)
      go_meet
      have hs : Same (Four E W.heap.size) W4 w7 := (HAP.out.same HB5.out).tr S7.out
      rw [HFO.out.1, HFO.out.2]
      have hly := HLAY.out
      rw [HEQ.out.1] at hly
      exact ⟨⟨by first | rfl | (simp; omega), by first | rfl | (simp; omega), by first | rfl | (simp; omega), by first | rfl | (simp; omega), by first | rfl | (simp; omega)⟩, _, rfl, H7.out, hly.same hs, hs⟩
    | false =>
      have HFO : Hid (x.for_ nn = x ∧ d.for_ x nn = d) := by
        have h1 := HEQ.out
        have h2 := HPS.out
        have hc : ¬ (rr : Int) - (ps : Int) < (nn : Int) := by simpa using HBQ.out
        unfold Hid LogS.for_ Dev.for_
        rw [h1.2.1, h1.2.2, if_neg (by omega), if_neg (by omega)]; exact ⟨rfl, rfl⟩
      go_wp2
      go_meet
      have hs : Same (Four E W.heap.size) W4 W6 := HAP.out.same HB5.out
      rw [HFO.out.1, HFO.out.2]
      have hly := HLAY.out
      rw [HEQ.out.1] at hly
      have hn := HN.out
      exact ⟨⟨by first | rfl | (simp; omega), by first | rfl | (simp; omega), by first | rfl | (simp; omega), by first | rfl | (simp; omega), by first | rfl | (simp; omega)⟩, _, rfl, HAP.out.on HB5.out, hly.same hs, hs⟩
  case rest =>
    obtain ⟨⟨rfl, rfl, rfl, rfl, rfl⟩, wz, rfl, hL1, hly1, hs1⟩ := hcut
    obtain ⟨x1, hx1⟩ : ∃ x1, x.for_ nn = x1 := ⟨_, rfl⟩
    obtain ⟨d1, hd1⟩ : ∃ d1, d.for_ x nn = d1 := ⟨_, rfl⟩
    rw [hx1, hd1] at hL1
    have HXD := Lib.hid (And.intro hx1 hd1)
    obtain ⟨rv1, hB1, _⟩ := id hL1
    have HL1 := Lib.hid hL1
    have HLY := Lib.hid hly1
    have HS1 := Lib.hid hs1
    have c0 : wz.cell? ⟨W.heap.size, 0, none⟩ = some (.pointer (some ⟨R, 0, none⟩)) := blk_cell hly1.b0 0
    have c1 : wz.cell? ⟨W.heap.size + 1, 0, none⟩ = some (.slice (some ⟨gb, ob, none⟩) nn cb) := blk_cell hly1.b1 0
    have c5 : wz.cell? ⟨R, 5, none⟩ = some (.int .i64 x1.last) := hB1.cells.2.2.2.2.2.1
    have HS9 : Hid (∀ V, Below wz.heap.size wz V → (Below wz.heap.size wz V ∧ V.cell? ⟨W.heap.size, 0, none⟩ = some (.pointer (some ⟨R, 0, none⟩)) ∧ V.cell? ⟨W.heap.size + 1, 0, none⟩ = some (.slice (some ⟨gb, ob, none⟩) nn cb) ∧ V.cell? ⟨R, 5, none⟩ = some (.int .i64 x1.last))) := fun V hb =>
      ⟨hb, (hb.cell (p := ⟨W.heap.size, 0, none⟩) (World.block_lt_of_cell? _ _ c0)).trans c0, (hb.cell (p := ⟨W.heap.size + 1, 0, none⟩) (World.block_lt_of_cell? _ _ c1)).trans c1, (hb.cell (p := ⟨R, 5, none⟩) (World.block_lt_of_cell? _ _ c5)).trans c5⟩
    have HPO9 : Hid (∀ V, (Below wz.heap.size wz V ∧ V.cell? ⟨W.heap.size, 0, none⟩ = some (.pointer (some ⟨R, 0, none⟩)) ∧ V.cell? ⟨W.heap.size + 1, 0, none⟩ = some (.slice (some ⟨gb, ob, none⟩) nn cb) ∧ V.cell? ⟨R, 5, none⟩ = some (.int .i64 x1.last)) → Calls Try.prog 34 #[.pointer (some ⟨R, 0, none⟩)] V fun e w' => e = .returned (.int .i64 x1.pos) ∧ (Below wz.heap.size wz w' ∧ w'.cell? ⟨W.heap.size, 0, none⟩ = some (.pointer (some ⟨R, 0, none⟩)) ∧ w'.cell? ⟨W.heap.size + 1, 0, none⟩ = some (.slice (some ⟨gb, ob, none⟩) nn cb) ∧ w'.cell? ⟨R, 5, none⟩ = some (.int .i64 x1.last)) ∧ Below V.heap.size V w') := fun V hV =>
      (position_any (hB1.below hV.1)).mono fun e w' ⟨h1, h2⟩ => ⟨h1, HS9.out _ (hV.1.trans (h2.mono hV.1.size)), h2⟩
    clear hL1 hly1 hs1 hB1 hx1 hd1 c0' HRR HPO HBQ HB3 HB5
    go_upto_region 9 with (fail)
    go_cut [7] from 40 to 48 (fun s7 wx => ∃ g wy, wy = wx ∧ s7 = .pointer (some ⟨g, 0, none⟩) ∧ wz.heap.size ≤ g ∧ wy.heap[g]? = some (.cells #[.int .i64 x1.last, .int .i64 x1.pos, .int .i64 nn] 42 (0, 0)) ∧ Below wz.heap.size wz wy)
    case first =>
      have ST1 : Hid (∀ V : World, ((V.alloc (.cells #[.int .i64 0, .int .i64 0, .int .i64 0] 42)).cell? ⟨V.heap.size, 0, none⟩ = some (.int .i64 0) ∧ (V.alloc (.cells #[.int .i64 0, .int .i64 0, .int .i64 0] 42)).cell? ⟨V.heap.size, 1, none⟩ = some (.int .i64 0) ∧ (V.alloc (.cells #[.int .i64 0, .int .i64 0, .int .i64 0] 42)).cell? ⟨V.heap.size, 2, none⟩ = some (.int .i64 0) ∧ (V.alloc (.cells #[.int .i64 0, .int .i64 0, .int .i64 0] 42)).frozen? ⟨V.heap.size, 0, none⟩ = false ∧ (V.alloc (.cells #[.int .i64 0, .int .i64 0, .int .i64 0] 42)).frozen? ⟨V.heap.size, 1, none⟩ = false ∧ (V.alloc (.cells #[.int .i64 0, .int .i64 0, .int .i64 0] 42)).frozen? ⟨V.heap.size, 2, none⟩ = false)) := fun V => by
        have h := heap_alloc_new V (.cells #[.int .i64 0, .int .i64 0, .int .i64 0] 42)
        exact ⟨blk_cell h 0, blk_cell h 1, blk_cell h 2, blk_frozen h 0, blk_frozen h 1, blk_frozen h 2⟩
      have ST2 : Hid (∀ V : World, Below (wz.drew.alloc (.cells #[.int .i64 0, .int .i64 0, .int .i64 0] 42)).heap.size (wz.drew.alloc (.cells #[.int .i64 0, .int .i64 0, .int .i64 0] 42)) V → (V.cell? ⟨wz.heap.size, 0, none⟩ = some (.int .i64 0) ∧ V.cell? ⟨wz.heap.size, 1, none⟩ = some (.int .i64 0) ∧ V.cell? ⟨wz.heap.size, 2, none⟩ = some (.int .i64 0) ∧ V.frozen? ⟨wz.heap.size, 0, none⟩ = false ∧ V.frozen? ⟨wz.heap.size, 1, none⟩ = false ∧ V.frozen? ⟨wz.heap.size, 2, none⟩ = false)) := fun V hb => by
        have h : V.heap[wz.heap.size]? = some (.cells #[.int .i64 0, .int .i64 0, .int .i64 0] 42 (0, 0)) := (hb.block _ (by simp)).trans (heap_alloc_new wz.drew (.cells #[.int .i64 0, .int .i64 0, .int .i64 0] 42))
        exact ⟨blk_cell h 0, blk_cell h 1, blk_cell h 2, blk_frozen h 0, blk_frozen h 1, blk_frozen h 2⟩
      have KS : Hid (∀ (V : World) (g : Nat) (a b c : Value), (Below wz.heap.size wz V ∧ V.cell? ⟨W.heap.size, 0, none⟩ = some (.pointer (some ⟨R, 0, none⟩)) ∧ V.cell? ⟨W.heap.size + 1, 0, none⟩ = some (.slice (some ⟨gb, ob, none⟩) nn cb) ∧ V.cell? ⟨R, 5, none⟩ = some (.int .i64 x1.last)) → wz.heap.size ≤ g → (fun V => (Below wz.heap.size wz V ∧ V.cell? ⟨W.heap.size, 0, none⟩ = some (.pointer (some ⟨R, 0, none⟩)) ∧ V.cell? ⟨W.heap.size + 1, 0, none⟩ = some (.slice (some ⟨gb, ob, none⟩) nn cb) ∧ V.cell? ⟨R, 5, none⟩ = some (.int .i64 x1.last))) (((V.setCell ⟨g, 0, none⟩ a).setCell ⟨g, 1, none⟩ b).setCell ⟨g, 2, none⟩ c)) := fun V g a b c hV hg =>
        HS9.out _ (((hV.1.setCell (p := ⟨g, 0, none⟩) hg a).setCell (p := ⟨g, 1, none⟩) hg b).setCell (p := ⟨g, 2, none⟩) hg c)
      go_region_held3 (fun V => Below wz.heap.size wz V ∧ V.cell? ⟨W.heap.size, 0, none⟩ = some (.pointer (some ⟨R, 0, none⟩)) ∧ V.cell? ⟨W.heap.size + 1, 0, none⟩ = some (.slice (some ⟨gb, ob, none⟩) nn cb) ∧ V.cell? ⟨R, 5, none⟩ = some (.int .i64 x1.last)) (first | assumption | exact HS9.out _ ((Below.refl _ _).drew) | (refine HS9.out _ (Below.alloc (And.left (by assumption)) (Below.size (And.left (by assumption))) _)) | exact KS.out _ _ _ _ _ (by assumption) hge | exact KS.out _ _ _ _ _ (by assumption) (Nat.le_refl _)) ((go_at_call 34; (with_reducible refine (HPO9.out _ (by assumption)).mono ?_); rintro e w8 ⟨rfl, hs8, hb8⟩; have hge : wz.heap.size ≤ w8.heap.size := hs8.1.size; obtain ⟨t0, t1, t2, t3, t4, t5⟩ := ST1.out w8; (try (have zz := ST2.out w8 hb8; obtain ⟨z0, z1, z2, z3, z4, z5⟩ := zz))))
      all_goals (go_wp2_with fail)
      all_goals go_meet
      · refine ⟨w8.heap.size, _, rfl, rfl, hge, heap_alloc_new _ _, hs8.1.alloc hge _⟩
      · have hzz : w8.heap[wz.heap.size]? = some (.cells #[.int .i64 0, .int .i64 0, .int .i64 0] 42 (0, 0)) := (hb8.block _ (by simp)).trans (heap_alloc_new wz.drew (.cells #[.int .i64 0, .int .i64 0, .int .i64 0] 42))
        have h3 := blk_set (blk_set (blk_set hzz 0 (.int .i64 x1.last)) 1 (.int .i64 x1.pos)) 2 (.int .i64 nn)
        refine ⟨wz.heap.size, _, rfl, rfl, Nat.le_refl _, ?_, ((hs8.1.setCell (p := ⟨wz.heap.size, 0, none⟩) (Nat.le_refl _) _).setCell (p := ⟨wz.heap.size, 1, none⟩) (Nat.le_refl _) _).setCell (p := ⟨wz.heap.size, 2, none⟩) (Nat.le_refl _) _⟩
        rw [h3]
        rfl
    case rest =>
      obtain ⟨X, wy, rfl, rfl, hX, hXb, hBX⟩ := hcut
      have hE : ∀ k, E k → k < W.heap.size := HEIN.out
      have HXI := Lib.hid (blk_lt hXb)
      have HXW : Hid (W.heap.size + 4 ≤ X) := by have h1 := HSZ.out; have h2 := HS1.out.1; unfold Hid; omega
      have hly := HLY.out.same (HL1.out.same hBX)
      have cl : wy.cell? ⟨W.heap.size, 0, none⟩ = some (.pointer (some ⟨R, 0, none⟩)) := blk_cell hly.b0 0
      have HXB := Lib.hid hXb
      have HXZ := Lib.hid hX
      have HBX := Lib.hid hBX
      have HPC : Hid (Calls Try.prog 36 #[.pointer (some ⟨R, 0, none⟩), .agg #[.int .i64 x1.last, .int .i64 x1.pos, .int .i64 nn]] wy fun e w' => e = .returned (.func (.func 53) #[] #[.pointer (some ⟨wy.heap.size + 1, 0, none⟩), .pointer (some ⟨wy.heap.size, 0, none⟩)]) ∧ (wy.alloc (.cells #[.pointer (some ⟨R, 0, none⟩)] 23)).alloc (.cells #[.int .i64 x1.last, .int .i64 x1.pos, .int .i64 nn] 42) = w') :=
        callsIn_wide.1 (piecesOf_in Fence.wide 2 trivial rfl R (x1.last : Int) (x1.pos : Int) (nn : Int) wy)
      clear hly hXb hX hBX c0 c1 c5 HS9 HPO9
      go_wp2_with (first
        | (refine wpList_load_row (o := ⟨some 50, _, _, _, _, _⟩) rfl 42 (.tmp 7) rfl X rfl 42 #[.int .i64 x1.last, .int .i64 x1.pos, .int .i64 nn] (0, 0) _ HXB.out Try.underlying42 rfl locSz ?_)
        | (go_at_call 36; (with_reducible refine HPC.out.mono ?_); rintro e w3 ⟨rfl, hw3⟩; have HW3 := Lib.hid hw3; clear hw3))
      have z3 : w3.heap.size = wy.heap.size + 2 := by rw [← HW3.out]; simp
      have b3 : Below wy.heap.size wy w3 := by rw [← HW3.out]; exact ((Below.refl _ wy).alloc (Nat.le_refl _) _).alloc (by simp) _
      have i1 : w3.heap[wy.heap.size]? = some (.cells #[.pointer (some ⟨R, 0, none⟩)] 23 (0, 0)) := by rw [← HW3.out]; exact blk_alloc (heap_alloc_new _ _) _
      have i2 : w3.heap[wy.heap.size + 1]? = some (.cells #[.int .i64 x1.last, .int .i64 x1.pos, .int .i64 nn] 42 (0, 0)) := by
        rw [← HW3.out]
        have := heap_alloc_new (wy.alloc (.cells #[.pointer (some ⟨R, 0, none⟩)] 23)) (.cells #[.int .i64 x1.last, .int .i64 x1.pos, .int .i64 nn] 42)
        rwa [World.size_alloc] at this
      have HAI : Hid (AppInv x1 (k + 1 + bs.length) (x1.pos + nn) x1 d1 bs) := by
        have h := for_inv (bs := bs) HOK.out HPR.out.1 HPR.out.2.1 HRT.out HPR.out.2.2.1 HPR.out.2.2.2 HNE.out.2 HSM.out.1
        rw [HEQ.out.1, HXD.out.1, HXD.out.2] at h
        rw [HEQ.out.1]
        exact h
      refine (wpIn_wide (n := 3)).1 ?_
      refine rangeFunc_inv (F := Fence.wide) rfl (by decide) (gf := 53) (lb := #[.pointer (some ⟨wy.heap.size + 1, 0, none⟩), .pointer (some ⟨wy.heap.size, 0, none⟩)]) rfl trivial (enters_of Try.func53 (by kernel_rfl) rfl)
        (pcEnc (x1.last : Int) x1.room (x1.pos + nn)) (fun _ => rfl) 88 (pcC (x1.last : Int) x1.room (x1.pos + nn)) (nxP x1.room (x1.pos + nn)) (fun s => s < x1.pos + nn) x1.pos
        (AppRound w W E R D X wy.heap.size #[.int .i64 x1.last, .int .i64 x1.pos, .int .i64 nn] x1 d1 bs (k + 1 + bs.length) (x1.pos + nn)) (fun _ => False) ?hbel ?hturn ?hstop ?hround ?h0 ?hcall ?hdone ?hleft
      case hbel =>
        rintro s V V' ⟨x', d', b', v', h1, h2, h3, h4, h5⟩ hb
        exact ⟨x', d', b', v', h1.on hb, h2, h3, h4, h5.on (h1.same hb)⟩
      case hstop => exact fun _ _ _ _ _ h => h
      case hleft => exact fun _ h _ => h.elim
      case hturn =>
        rintro s V o o' hl ho ⟨x', d', b', v', h1, h2, h3, h4, h5⟩
        rw [z3] at hl ⊢
        have hm := moves_put V (wy.heap.size + 2 + 1) o'
        have hlt := (Array.getElem?_eq_some_iff.1 hl).1
        exact ⟨x', d', b', v', h1.turn hm (fun k hk => by subst hk; unfold NineF; simp), h2, h3, h4, h5.put hm HXI.out HXW.out HEIN.out hlt⟩
      case h0 =>
        intro o ho
        have hb0 : Below wy.heap.size wy ((w3.alloc (.deferred (some []))).alloc o) := (b3.alloc (by rw [z3]; omega) _).alloc (by simp [z3]; omega) _
        have hz0 : ((w3.alloc (.deferred (some []))).alloc o).heap.size = wy.heap.size + 4 := by simp [z3]
        have hb0' : Below wz.heap.size wz ((w3.alloc (.deferred (some []))).alloc o) := HBX.out.trans (hb0.mono HBX.out.size)
        have hbw : Below w3.heap.size w3 ((w3.alloc (.deferred (some []))).alloc o) := ((Below.refl _ w3).alloc (Nat.le_refl _) _).alloc (by simp) _
        have hxz := HXZ.out
        have hxi := HXI.out
        have hys := HBX.out.size
        have hL : LogApart w (NineF E W.heap.size X wy.heap.size) R D x1 d1 ((w3.alloc (.deferred (some []))).alloc o) := HL1.out.adds hb0' (fun k hk => by
          rcases hk with hk | hk
          · exact .inl hk
          · exact .inr (by rw [hz0]; omega))
        have hsame : Same E W ((w3.alloc (.deferred (some []))).alloc o) := (HSW.out.tr (HS1.out.mono fun k hk => .inl hk)).tr ((HL1.out.same hb0').mono fun k hk => .inl hk)
        have hu := HU.out
        have hue := HUE.out
        rw [HEQ.out.1] at hu hue
        refine ⟨x1, d1, bs, .slice (some ⟨gb, ob, none⟩) nn cb, hL, .start, HAI.out, rfl, HLY.out.same (HL1.out.same hb0'), (hb0.block X hxi).trans HXB.out, (hbw.block _ (by rw [z3]; omega)).trans i1, (hbw.block _ (by rw [z3]; omega)).trans i2, (hu.keep fun _ p hp _ => World.cell?_of_block (w := W) (hsame.2 _ (hue _ hp))).mono hsame.1, hue, hsame⟩
      case hcall =>
        intro l J JS W0 hJI hJB hJ0 hY
        have hai := HAI.out
        refine pieces1_in Fence.wide 2 trivial rfl (by decide) l (wy.heap.size + 1) wy.heap.size R (x1.last : Int) x1.pos nn x1.room ⟨hai.ok.m1, hai.ok.m2⟩ (Nat.le_trans hai.end_ hai.ok.rr_le) J JS W0 (fun s V hj => ?_) hJB hJ0 hY
        obtain ⟨x', d', b', v', ⟨rv, hlb, _⟩, h2, h3, h4, h5⟩ := hJI s V hj
        have c4 := hlb.cells.2.2.2.2.1
        rw [h3.same.1] at c4
        exact ⟨blk_cell h5.i2 0, blk_cell h5.i2 1, blk_cell h5.i2 2, blk_cell h5.i1 0, c4⟩
      case hdone =>
        rintro V s hns ⟨x', d', b', v', h1, h2, h3, h4, h5⟩ hK
        rw [z3] at hK
        obtain rfl : b' = [] := by
          have := h3.fit
          rw [h4] at this
          exact List.eq_nil_of_length_eq_zero (by omega)
        have HB2 := Lib.hid h5.lay.b2
        have HB3' := Lib.hid h5.lay.b3
        have HBX' := Lib.hid h5.bx
        have HKD := Lib.hid hK
        have HT := Lib.hid (And.intro h1 (And.intro h2 h5))
        have k0 : V.cell? ⟨W.heap.size + 1 + 1, 0, none⟩ = some (.int .i64 0) := blk_cell h5.lay.b2 0
        have k1 : V.cell? ⟨W.heap.size + 1 + 1, 1, none⟩ = some (.int .i64 0) := blk_cell h5.lay.b2 1
        have k2 : V.cell? ⟨W.heap.size + 1 + 1, 2, none⟩ = some (.int .i64 0) := blk_cell h5.lay.b2 2
        have k3 : V.cell? ⟨W.heap.size + 1 + 1 + 1, 0, none⟩ = some (.int .i64 0) := blk_cell h5.lay.b3 0
        have l0 : V.frozen? ⟨W.heap.size + 1 + 1, 0, none⟩ = false := blk_frozen h5.lay.b2 0
        have l1 : V.frozen? ⟨W.heap.size + 1 + 1, 1, none⟩ = false := blk_frozen h5.lay.b2 1
        have l2 : V.frozen? ⟨W.heap.size + 1 + 1, 2, none⟩ = false := blk_frozen h5.lay.b2 2
        have l3 : V.frozen? ⟨W.heap.size + 1 + 1 + 1, 0, none⟩ = false := blk_frozen h5.lay.b3 0
        clear h1 h2 h3 h4 h5 hK hns
        go_wp2_with (refine wpList_load_row (o := ⟨some 77, _, _, _, _, _⟩) rfl 42 (.tmp 7) rfl X rfl 42 #[.int .i64 x1.last, .int .i64 x1.pos, .int .i64 nn] (0, 0) _ HBX'.out Try.underlying42 rfl locSz ?_)
        obtain ⟨h1, h2, h5⟩ := HT.out
        have hmV : Moves (fun k => k = W.heap.size + 2 ∨ k = W.heap.size + 3 ∨ k = wy.heap.size + 2) V ((((V.setCell ⟨W.heap.size + 1 + 1, 0, none⟩ (.int .i64 x1.last)).setCell ⟨W.heap.size + 1 + 1, 1, none⟩ (.int .i64 x1.pos)).setCell ⟨W.heap.size + 1 + 1, 2, none⟩ (.int .i64 nn)).setCell ⟨W.heap.size + 1 + 1 + 1, 0, none⟩ (.int .i64 0)) :=
          ((((Moves.refl (fun k => k = W.heap.size + 2 ∨ k = W.heap.size + 3 ∨ k = wy.heap.size + 2) V).setCell (p := ⟨W.heap.size + 1 + 1, 0, none⟩) (fun _ => .inl rfl) _).setCell (p := ⟨W.heap.size + 1 + 1, 1, none⟩) (fun _ => .inl rfl) _).setCell (p := ⟨W.heap.size + 1 + 1, 2, none⟩) (fun _ => .inl rfl) _).setCell (p := ⟨W.heap.size + 1 + 1 + 1, 0, none⟩) (fun _ => .inr (.inl rfl)) _
        have hb2 : ((((V.setCell ⟨W.heap.size + 1 + 1, 0, none⟩ (.int .i64 x1.last)).setCell ⟨W.heap.size + 1 + 1, 1, none⟩ (.int .i64 x1.pos)).setCell ⟨W.heap.size + 1 + 1, 2, none⟩ (.int .i64 nn)).setCell ⟨W.heap.size + 1 + 1 + 1, 0, none⟩ (.int .i64 0)).heap[W.heap.size + 1 + 1]? = some (.cells #[.int .i64 x1.last, .int .i64 x1.pos, .int .i64 nn] 42 (0, 0)) := by
          rw [Below.heap_setCell _ _ _ _ (by show W.heap.size + 1 + 1 ≠ W.heap.size + 1 + 1 + 1; omega), blk_set (blk_set (blk_set h5.lay.b2 0 (.int .i64 x1.last)) 1 (.int .i64 x1.pos)) 2 (.int .i64 nn)]
          rfl
        have hb3 : ((((V.setCell ⟨W.heap.size + 1 + 1, 0, none⟩ (.int .i64 x1.last)).setCell ⟨W.heap.size + 1 + 1, 1, none⟩ (.int .i64 x1.pos)).setCell ⟨W.heap.size + 1 + 1, 2, none⟩ (.int .i64 nn)).setCell ⟨W.heap.size + 1 + 1 + 1, 0, none⟩ (.int .i64 0)).heap[W.heap.size + 1 + 1 + 1]? = some (.cells #[.int .i64 0] 24 (0, 0)) := by
          have hz : (((V.setCell ⟨W.heap.size + 1 + 1, 0, none⟩ (.int .i64 x1.last)).setCell ⟨W.heap.size + 1 + 1, 1, none⟩ (.int .i64 x1.pos)).setCell ⟨W.heap.size + 1 + 1, 2, none⟩ (.int .i64 nn)).heap[W.heap.size + 1 + 1 + 1]? = some (.cells #[.int .i64 0] 24 (0, 0)) := by
            rw [Below.heap_setCell _ _ _ _ (by show W.heap.size + 1 + 1 + 1 ≠ W.heap.size + 1 + 1; omega), Below.heap_setCell _ _ _ _ (by show W.heap.size + 1 + 1 + 1 ≠ W.heap.size + 1 + 1; omega), Below.heap_setCell _ _ _ _ (by show W.heap.size + 1 + 1 + 1 ≠ W.heap.size + 1 + 1; omega)]
            exact h5.lay.b3
          rw [blk_set hz 0 (.int .i64 0)]
          rfl
        have hkd : ((((V.setCell ⟨W.heap.size + 1 + 1, 0, none⟩ (.int .i64 x1.last)).setCell ⟨W.heap.size + 1 + 1, 1, none⟩ (.int .i64 x1.pos)).setCell ⟨W.heap.size + 1 + 1, 2, none⟩ (.int .i64 nn)).setCell ⟨W.heap.size + 1 + 1 + 1, 0, none⟩ (.int .i64 0)).heap[wy.heap.size + 2]? = some (.deferred (some [])) := by
          have hxw := HXW.out
          have hxi := HXI.out
          rw [Below.heap_setCell _ _ _ _ (by show wy.heap.size + 2 ≠ W.heap.size + 1 + 1 + 1; omega), Below.heap_setCell _ _ _ _ (by show wy.heap.size + 2 ≠ W.heap.size + 1 + 1; omega), Below.heap_setCell _ _ _ _ (by show wy.heap.size + 2 ≠ W.heap.size + 1 + 1; omega), Below.heap_setCell _ _ _ _ (by show wy.heap.size + 2 ≠ W.heap.size + 1 + 1; omega)]
          exact HKD.out
        generalize (((V.setCell ⟨W.heap.size + 1 + 1, 0, none⟩ (.int .i64 x1.last)).setCell ⟨W.heap.size + 1 + 1, 1, none⟩ (.int .i64 x1.pos)).setCell ⟨W.heap.size + 1 + 1, 2, none⟩ (.int .i64 nn)).setCell ⟨W.heap.size + 1 + 1 + 1, 0, none⟩ (.int .i64 0) = V4 at hmV hb2 hb3 hkd ⊢
        refine ⟨by simp, .inl ⟨_, _, rfl, run_takeDeferred hkd, ?_⟩⟩
        have hxw := HXW.out
        have hxi := HXI.out
        have hm4 := hmV.trans (moves_put V4 (wy.heap.size + 2) (.deferred none)) (fun _ _ h => .inr (.inr h))
        refine ⟨_, app_res _ (W.heap.size + 1 + 1) (W.heap.size + 1 + 1 + 1) _ _ _ _ _ rfl rfl ((World.putObj_heap_other (by omega)).trans hb2) (blk_cell ((World.putObj_heap_other (by omega)).trans hb3) 0), x', d', ?_, ?_, ?_, ?_⟩
        · rw [HXD.out.1, HXD.out.2]; exact h2
        · rw [HXD.out.1]
        · exact (h1.turn hm4 (fun k hk => by
            unfold NineF Four
            rcases hk with rfl | rfl | rfl <;> simp)).less (fun k hk => .inl (.inl hk))
        · refine ⟨Nat.le_trans h5.same.1 hm4.size, fun k hk => (hm4.block k ?_ ?_).trans (h5.same.2 k hk)⟩
          · have := HEIN.out k hk; have := h5.same.1; omega
          · have := HEIN.out k hk; omega
      case hround =>
        apply Exists.intro
        apply And.intro
        · intro l s V b K hb hm hI hK2
          unfold pcEnc pcC
          gi_wp2
          rw [← hb]
          exact hK2
        · intro l s b V hm hI hbl hbk hsz
          obtain ⟨x', d', b', v', h1, h2, h3, h4, h5⟩ := hI
          obtain ⟨rv2, hlb, hda, he1, he2, he3⟩ := id h1
          obtain ⟨ar, cr, rfl⟩ := hlb.slice
          obtain ⟨av, cv, rfl, hcap, hnone, hbb⟩ := id h5.by_
          have hfit := h3.fit
          rw [h4] at hfit
          have hbl1 : 1 ≤ b'.length := by omega
          have hbne : b' ≠ [] := fun e => by rw [e] at hbl1; simp at hbl1
          obtain ⟨gv, ov, rfl, hgv, hcv⟩ : ∃ g off, av = some ⟨g, off, none⟩ ∧ g < V.heap.size ∧ ∀ j, j < b'.length → V.cell? ⟨g, off + j, none⟩ = some (.int .u8 (U (b'[j]?.getD 0))) := by
            rcases hbb with h | h
            · exact absurd h hbne
            · exact h
          have hroom := h3.same.1
          obtain ⟨pd1, pd2⟩ := LogS.pos_div h3.lt
          have hmn : nxP x1.room (x1.pos + nn) s - s = min b'.length (x'.room - x'.row.length) := by
            unfold nxP
            rw [← h4, ← hroom, pd1]
            have e : (x'.sector + 1) * x'.room = x'.pos + (x'.room - x'.row.length) := by
              unfold LogS.pos
              rw [Nat.add_mul, Nat.one_mul]
              have := h3.lt; omega
            rw [e]
            omega
          obtain ⟨m, hme⟩ : ∃ m, nxP x1.room (x1.pos + nn) s - s = m := ⟨_, rfl⟩
          rw [hme] at hmn
          have cZ : V.cell? ⟨W.heap.size, 0, none⟩ = some (.pointer (some ⟨R, 0, none⟩)) := blk_cell h5.lay.b0 0
          have cB : V.cell? ⟨W.heap.size + 1, 0, none⟩ = some (.slice (some ⟨gv, ov, none⟩) b'.length cv) := blk_cell h5.lay.b1 0
          have c7 : V.cell? ⟨R, 7, none⟩ = some (.slice ar x'.row.length cr) := hlb.cells.2.2.2.2.2.2.2
          have cM : V.cell? ⟨b, 2, none⟩ = some (.int .i64 m) := by
            have := blk_cell hbk 2
            rw [this]
            simp [pcC, hme]
          have m1 : (m : Int) ≤ b'.length := by omega
          have m2 : (b'.length : Int) ≤ 8077312 := by have := h3.end_; have := h3.ok.rr_le; omega
          have m3 : (b'.length : Int) ≤ cv := by omega
          have m4 : (m : Int) ≤ cv := by omega
          obtain ⟨i0, hi, hz0, hz1, hz2⟩ := info_parts Try.infoU8
          have HBT : Hid (BytesAt V.drew.heap.size V.drew (.slice (some ⟨gv, ov, none⟩) m cv) (b'.take m)) := h5.by_.pre m (by omega)
          have HROW : Hid (V.drew.ownsRow w.heap.size 5 1 (.slice ar x'.row.length cr) x'.row.length (cellsOf x'.row)) := hlb.row
          have hRne : ∀ j, (Value.slice ar x'.row.length cr).ownBlock = some j → j ≠ R := fun j e => hlb.ne e
          have hBne : ∀ j, (Value.slice ar x'.row.length cr).ownBlock = some j → j ≠ b := by
            rintro j e rfl
            rcases hlb.row.2 with ⟨h, _⟩ | ⟨g', cap', cur, hv, _, hg, _⟩
            · rw [h] at e; cases e
            · rw [hv] at e
              obtain rfl : g' = j := by simpa [Value.ownBlock] using e
              rw [hbk] at hg
              simp at hg
          have HRK : Hid (∀ W2, V.drew.grownBy W2 (Value.slice ar x'.row.length cr).ownBlock → W2.heap[R]? = V.heap[R]? ∧ W2.heap[b]? = V.heap[b]?) := fun W2 hg => ⟨hg.block R hlb.lt (fun e => hRne R e.symm rfl), hg.block b (blk_lt hbk) (fun e => hBne b e.symm rfl)⟩
          have HGK : Hid (∀ W2, V.drew.grownBy W2 (Value.slice ar x'.row.length cr).ownBlock → ∀ j, NineF E W.heap.size X wy.heap.size j → W2.heap[j]? = V.heap[j]?) := fun W2 hg j hj => hg.block j (h1.inE j hj) (fun e => he2 j e.symm hj)
          have HNR : Hid (W.heap.size ≠ R ∧ W.heap.size + 1 ≠ R ∧ b ≠ R) := ⟨fun e => he1 (e ▸ .inl (.inr (.inl rfl))), fun e => he1 (e ▸ .inl (.inr (.inr (.inl rfl)))), fun e => by rw [e, hlb.blk] at hbk; simp at hbk⟩
          have HLB := Lib.hid hlb
          have HTOK : Hid ((x'.took b').Ok) := h3.took_ok hbne
          have htk : x'.row ++ b'.take m = (x'.took b').row := by
            unfold LogS.took
            show _ = x'.row ++ b'.take (x'.room - x'.row.length)
            rw [hmn]
            congr 1
            rcases Nat.le_total b'.length (x'.room - x'.row.length) with h | h
            · rw [Nat.min_eq_left h, List.take_of_length_le (Nat.le_refl _), List.take_of_length_le h]
            · rw [Nat.min_eq_right h]
          have hnb : (b'.take m).length = m := by rw [List.length_take]; omega
          have hrl : x'.row.length + (b'.take m).length ≤ 70368744177664 := by rw [hnb]; have := h3.lt; have := h3.ok.m2; omega
          have HD := Lib.hid (And.intro h1 (And.intro h2 (And.intro h3 (And.intro h4 h5))))
          have HDA := Lib.hid (And.intro hda (And.intro he1 (And.intro he2 he3)))
          have HMN := Lib.hid (And.intro hmn (And.intro htk (And.intro hfit hme)))
          have HBK := Lib.hid hbk
          have HRL := Lib.hid hrl
          have HBN := Lib.hid hbne
          have wsz : w.heap.size ≤ V.drew.heap.size := h1.size
          have HWSZ := Lib.hid wsz
          clear h1 h2 h3 h4 h5 hlb hda he1 he2 he3 hbk hRne hBne hmn htk hfit hme hnb hrl hbne hbb hcap hnone hroom pd1 pd2 hcv hgv wsz
          gi_wp2
          refine wpIn_region_any (by kernel_rfl) (anyIn_of_any (by kernel_rfl) (fun ⟨_, _, h⟩ => by rcases h with ⟨_, ⟨h, _⟩ | ⟨h, _⟩⟩ <;> cases h) _ _ _ _ (wpAny_of_held (S := fun U : World => U.cell? ⟨W.heap.size, 0, none⟩ = some (.pointer (some ⟨R, 0, none⟩)) ∧ U.cell? ⟨W.heap.size + 1, 0, none⟩ = some (.slice (some ⟨gv, ov, none⟩) b'.length cv) ∧ U.cell? ⟨b, 2, none⟩ = some (.int .i64 m)) _ _ _ _ ?_))
          change wpAnyH _ _ _ _ _ _ _ _ V.drew
          have hS0 : (fun U : World => U.cell? ⟨W.heap.size, 0, none⟩ = some (.pointer (some ⟨R, 0, none⟩)) ∧ U.cell? ⟨W.heap.size + 1, 0, none⟩ = some (.slice (some ⟨gv, ov, none⟩) b'.length cv) ∧ U.cell? ⟨b, 2, none⟩ = some (.int .i64 m)) V.drew := ⟨cZ, cB, cM⟩
          refine wpAnyH_take (i := 0) (oi := ⟨some 53, _, _, _, _, _⟩) (v := .pointer (some ⟨R, 0, none⟩)) rfl (by kernel_rfl) (by kernel_rfl) (by kernel_rfl) (fun _ _ _ h => h) (Or.inl ⟨by rfl, fun U hU => by obtain ⟨u0, u1, u3⟩ := hU; (try clear hS0); go_simp⟩) hS0 ?_
          try simp only [Act.put, List.setIfInBounds_toArray, List.set_cons_zero, List.set_cons_succ]
          refine wpAnyH_take (i := 1) (oi := ⟨some 54, _, _, _, _, _⟩) (v := .pointer (some ⟨R, 0, none⟩)) rfl (by kernel_rfl) (by kernel_rfl) (by kernel_rfl) (fun _ _ _ h => h) (Or.inl ⟨by rfl, fun U hU => by obtain ⟨u0, u1, u3⟩ := hU; (try clear hS0); go_simp⟩) hS0 ?_
          try simp only [Act.put, List.setIfInBounds_toArray, List.set_cons_zero, List.set_cons_succ]
          refine wpAnyH_take (i := 2) (oi := ⟨some 55, _, _, _, _, _⟩) (v := .pointer (some ⟨R, 0, none⟩)) rfl (by kernel_rfl) (by kernel_rfl) (by kernel_rfl) (fun _ _ _ h => h) (Or.inl ⟨by rfl, fun U hU => by obtain ⟨u0, u1, u3⟩ := hU; (try clear hS0); go_simp⟩) hS0 ?_
          try simp only [Act.put, List.setIfInBounds_toArray, List.set_cons_zero, List.set_cons_succ]
          refine wpAnyH_take (i := 3) (oi := ⟨some 56, _, _, _, _, _⟩) (v := .pointer (some ⟨R, 7, none⟩)) rfl (by kernel_rfl) (by kernel_rfl) (by kernel_rfl) (fun _ _ _ h => h) (Or.inl ⟨by rfl, fun U hU => by obtain ⟨u0, u1, u3⟩ := hU; (try clear hS0); go_simp⟩) hS0 ?_
          try simp only [Act.put, List.setIfInBounds_toArray, List.set_cons_zero, List.set_cons_succ]
          refine wpAnyH_take (i := 5) (oi := ⟨some 58, _, _, _, _, _⟩) (v := .slice (some ⟨gv, ov, none⟩) b'.length cv) rfl (by kernel_rfl) (by kernel_rfl) (by kernel_rfl) (fun _ _ _ h => h) (Or.inl ⟨by rfl, fun U hU => by obtain ⟨u0, u1, u3⟩ := hU; (try clear hS0); go_simp⟩) hS0 ?_
          try simp only [Act.put, List.setIfInBounds_toArray, List.set_cons_zero, List.set_cons_succ]
          refine wpAnyH_take (i := 6) (oi := ⟨some 59, _, _, _, _, _⟩) (v := .pointer (some ⟨b, 0, none⟩)) rfl (by kernel_rfl) (by kernel_rfl) (by kernel_rfl) (fun _ _ _ h => h) (Or.inl ⟨by rfl, fun U hU => by obtain ⟨u0, u1, u3⟩ := hU; (try clear hS0); go_simp⟩) hS0 ?_
          try simp only [Act.put, List.setIfInBounds_toArray, List.set_cons_zero, List.set_cons_succ]
          refine wpAnyH_take (i := 7) (oi := ⟨some 60, _, _, _, _, _⟩) (v := .pointer (some ⟨b, 2, none⟩)) rfl (by kernel_rfl) (by kernel_rfl) (by kernel_rfl) (fun _ _ _ h => h) (Or.inl ⟨by rfl, fun U hU => by obtain ⟨u0, u1, u3⟩ := hU; (try clear hS0); go_simp⟩) hS0 ?_
          try simp only [Act.put, List.setIfInBounds_toArray, List.set_cons_zero, List.set_cons_succ]
          refine wpAnyH_take (i := 8) (oi := ⟨some 61, _, _, _, _, _⟩) (v := .int .i64 (m : Int)) rfl (by kernel_rfl) (by kernel_rfl) (by kernel_rfl) (fun _ _ _ h => h) (Or.inl ⟨by rfl, fun U hU => by obtain ⟨u0, u1, u3⟩ := hU; (try clear hS0); go_simp⟩) hS0 ?_
          try simp only [Act.put, List.setIfInBounds_toArray, List.set_cons_zero, List.set_cons_succ]
          refine wpAnyH_take (i := 9) (oi := ⟨some 62, _, _, _, _, _⟩) (v := .slice (some ⟨gv, ov, none⟩) m cv) rfl (by kernel_rfl) (by kernel_rfl) (by kernel_rfl) (fun _ _ _ h => h) (Or.inl ⟨by rfl, fun U hU => by obtain ⟨u0, u1, u3⟩ := hU; (try clear hS0); go_simp⟩) hS0 ?_
          try simp only [Act.put, List.setIfInBounds_toArray, List.set_cons_zero, List.set_cons_succ]
          refine wpAnyH_ready (rs := [4]) (by kernel_rfl) (by simp) ?_
          refine AllReadyH.cons (o := ⟨some 57, _, _, _, _, _⟩) rfl (fun K hK => ?_) AllReadyH.nil
          go_simp
          refine hK.out _ _ hS0 (fun _ => ?_)
          clear hK K
          try simp only [Act.put, List.setIfInBounds_toArray, List.set_cons_zero, List.set_cons_succ]
          refine wpAnyH_ready (rs := [10]) (by kernel_rfl) (by simp) ?_
          refine AllReadyH.cons (o := ⟨some 63, _, _, _, _, _⟩) rfl (fun K hK => ?_) AllReadyH.nil
          refine step_append_bytes (by rfl) (.tmp 57) (.tmp 62) (by rfl) (by rfl) w.heap.size i0 hi hz0 hz1 hz2 (.slice ar x'.row.length cr) (by rfl) x'.row HROW.out (.slice (some ⟨gv, ov, none⟩) m cv) (by rfl) _ (b'.take m) HBT.out HRL.out HWSZ.out ?_
          intro v2 w2 n2 HN2 hown2 hgrow2 hat2
          obtain ⟨a2, q2, rfl⟩ := owns_slice hown2
          obtain ⟨hR2, hB2⟩ := HRK.out _ hgrow2
          have c7' : w2.cell? ⟨R, 7, none⟩ = some (.slice ar x'.row.length cr) := (World.cell?_of_block (w := V) hR2).trans c7
          have f7' : w2.frozen? ⟨R, 7, none⟩ = false := blk_frozen (hR2.trans HLB.out.blk) 7
          have hS1 : (fun U : World => U.cell? ⟨W.heap.size, 0, none⟩ = some (.pointer (some ⟨R, 0, none⟩)) ∧ U.cell? ⟨W.heap.size + 1, 0, none⟩ = some (.slice (some ⟨gv, ov, none⟩) b'.length cv) ∧ U.cell? ⟨b, 2, none⟩ = some (.int .i64 m)) w2 := ⟨(World.cell?_of_block (w := V) (HGK.out _ hgrow2 _ (.inl (.inr (.inl rfl))))).trans cZ, (World.cell?_of_block (w := V) (HGK.out _ hgrow2 _ (.inl (.inr (.inr (.inl rfl)))))).trans cB, (World.cell?_of_block (w := V) hB2).trans cM⟩
          have hS2 : (fun U : World => U.cell? ⟨W.heap.size, 0, none⟩ = some (.pointer (some ⟨R, 0, none⟩)) ∧ U.cell? ⟨W.heap.size + 1, 0, none⟩ = some (.slice (some ⟨gv, ov, none⟩) b'.length cv) ∧ U.cell? ⟨b, 2, none⟩ = some (.int .i64 m)) (w2.setCell ⟨R, 7, none⟩ (.slice a2 n2 q2)) := ⟨(World.cell?_of_block (w := w2) (Below.heap_setCell _ _ _ _ HNR.out.1)).trans hS1.1, (World.cell?_of_block (w := w2) (Below.heap_setCell _ _ _ _ HNR.out.2.1)).trans hS1.2.1, (World.cell?_of_block (w := w2) (Below.heap_setCell _ _ _ _ HNR.out.2.2)).trans hS1.2.2⟩
          have HO2 := Lib.hid (And.intro hown2 (And.intro hgrow2 (And.intro hat2 (And.intro HN2.out hB2))))
          clear hown2 hgrow2 hat2 hB2 hR2 HN2 hi hz0 hz1 hz2
          refine hK.out _ _ hS1 (fun _ => ?_)
          clear hK K
          try simp only [Act.put, List.setIfInBounds_toArray, List.set_cons_zero, List.set_cons_succ]
          refine wpAnyH_take (i := 11) (oi := ⟨some 64, _, _, _, _, _⟩) (v := .pointer (some ⟨R, 0, none⟩)) rfl (by kernel_rfl) (by kernel_rfl) (by kernel_rfl) (fun _ _ _ h => h) (Or.inl ⟨by rfl, fun U hU => by obtain ⟨u0, u1, u3⟩ := hU; (try clear hS1); go_simp⟩) hS1 ?_
          try simp only [Act.put, List.setIfInBounds_toArray, List.set_cons_zero, List.set_cons_succ]
          refine wpAnyH_take (i := 12) (oi := ⟨some 65, _, _, _, _, _⟩) (v := .pointer (some ⟨R, 7, none⟩)) rfl (by kernel_rfl) (by kernel_rfl) (by kernel_rfl) (fun _ _ _ h => h) (Or.inl ⟨by rfl, fun U hU => by obtain ⟨u0, u1, u3⟩ := hU; (try clear hS1); go_simp⟩) hS1 ?_
          try simp only [Act.put, List.setIfInBounds_toArray, List.set_cons_zero, List.set_cons_succ]
          refine wpAnyH_ready (rs := [13]) (by kernel_rfl) (by simp) ?_
          refine AllReadyH.cons (o := ⟨none, _, _, _, _, _⟩) rfl (fun K hK => ?_) AllReadyH.nil
          go_simp
          refine hK.out _ _ hS2 (fun _ => ?_)
          clear hK K
          try simp only [Act.put, List.setIfInBounds_toArray, List.set_cons_zero, List.set_cons_succ]
          refine wpAnyH_done (by kernel_rfl) ?_ _
          obtain ⟨hown2, hgrow2, hat2, hn2, hB2⟩ := HO2.out
          obtain ⟨hda, he1, he2, he3⟩ := HDA.out
          obtain ⟨hmn, htk, hfit, hme⟩ := HMN.out
          obtain ⟨hT, hSm, _⟩ := took_step (W := V.drew) (b := b') (HLB.out.below (Below.refl _ V).drew) (hda.on (Below.refl _ V).drew) he1 he2 he3 (hn2.trans (congrArg _ htk)) (congrArg cellsOf htk) HTOK.out hown2 hgrow2 hat2
          have HT3 := Lib.hid hT
          have HS3 : Hid (Same (NineF E W.heap.size X wy.heap.size) V (w2.setCell ⟨R, 7, none⟩ (.slice a2 n2 q2))) := hSm
          have HSD := Lib.hid (HD.out.2.2.2.2.on HS3.out)
          have HB3b : Hid ((w2.setCell ⟨R, 7, none⟩ (.slice a2 n2 q2)).heap[b]? = some (.cells (pcC (x1.last : Int) x1.room (x1.pos + nn) s) 88 (0, 0))) := (Below.heap_setCell _ _ _ _ HNR.out.2.2).trans (hB2.trans HBK.out)
          clear hown2 hgrow2 hat2 hn2 hB2 hda he1 he2 he3 hT hSm hS1 hS2 hS0 c7 c7' f7' cZ cB cM
          generalize w2.setCell ⟨R, 7, none⟩ (.slice a2 n2 q2) = W3 at HT3 HS3 HSD HB3b ⊢
          have cZ : W3.cell? ⟨W.heap.size, 0, none⟩ = some (.pointer (some ⟨R, 0, none⟩)) := blk_cell HSD.out.lay.b0 0
          have cB : W3.cell? ⟨W.heap.size + 1, 0, none⟩ = some (.slice (some ⟨gv, ov, none⟩) b'.length cv) := blk_cell HSD.out.lay.b1 0
          have fB : W3.frozen? ⟨W.heap.size + 1, 0, none⟩ = false := blk_frozen HSD.out.lay.b1 0
          have cM : W3.cell? ⟨b, 2, none⟩ = some (.int .i64 m) := by
            have := blk_cell HB3b.out 2
            rw [this]
            simp [pcC, hme]
          clear hmn htk hfit hme
          have tw : Fence.wide.fn 37 := trivial
          have tw2 : (Fence.wide.inRound l).fn 37 := trivial
          obtain ⟨h1, h2, h3, h4, h5⟩ := HD.out
          have hmq := HMN.out.1
          by_cases hcv : cv = m
          · have hv : BytesAt W3.heap.size W3 (.slice (some ⟨gv, ov, none⟩) (b'.length - m) 0) (b'.drop (x'.room - x'.row.length)) := by
              have hbm : b'.length = m := by omega
              have e : b'.drop (x'.room - x'.row.length) = [] := by rw [← drop_min, ← hmq, ← hbm, List.drop_length]
              rw [e, hbm, Nat.sub_self]
              exact ⟨_, _, rfl, Nat.le_refl _, fun h => (by cases h), .inl rfl⟩
            have HWF := Lib.hid (app_rest HT3.out h2 h3 HBN.out h4 HSD.out _ hv (fun k e => HD.out.2.2.2.2.own k e) HXI.out HXW.out HEIN.out (by have := HSM.out.2; omega))
            clear h1 h2 h3 h4 h5 hmq hv
            gi_wp2_with (gi_at_call 37; (with_reducible refine (CallsIn.inRound l (callsIn_wide.2 HWF.out)).mono ?_); rintro e w5 ⟨rfl, hr5, hk5⟩; have HR5 := Lib.hid hr5; have HK5 := Lib.hid hk5; clear hr5 hk5)
            refine ⟨?_, HR5.out⟩
            have hs3 := HS3.out
            have hk5 := HK5.out
            exact ⟨hk5.1.trans (hs3.2 _ (by unfold NineF; simp)), hk5.2.trans (hs3.2 _ (by unfold NineF; simp))⟩
          · have hv : BytesAt W3.heap.size W3 (.slice (some ⟨gv, ov + m, none⟩) (b'.length - m) (cv - m)) (b'.drop (x'.room - x'.row.length)) := by
              have := HSD.out.by_.suf m (by omega)
              rw [add_plain] at this
              rw [← drop_min, ← hmq]
              exact this
            have HWF := Lib.hid (app_rest HT3.out h2 h3 HBN.out h4 HSD.out _ hv (fun k e => HD.out.2.2.2.2.own k e) HXI.out HXW.out HEIN.out (by have := HSM.out.2; omega))
            clear h1 h2 h3 h4 h5 hmq hv
            gi_wp2_with (gi_at_call 37; (with_reducible refine (CallsIn.inRound l (callsIn_wide.2 HWF.out)).mono ?_); rintro e w5 ⟨rfl, hr5, hk5⟩; have HR5 := Lib.hid hr5; have HK5 := Lib.hid hk5; clear hr5 hk5)
            refine ⟨?_, HR5.out⟩
            have hs3 := HS3.out
            have hk5 := HK5.out
            exact ⟨hk5.1.trans (hs3.2 _ (by unfold NineF; simp)), hk5.2.trans (hs3.2 _ (by unfold NineF; simp))⟩
end Go.Proofs.Ytiddfilhfdkogaa

/-
  region: Read of what lies in a region that is there.
  Conditions: none.
-/
import Derived.Test.YtiddfilhfdkogaaReg23
import Derived.Test.YtiddfilhfdkogaaReg9
import Derived.Deep.RegionHeld3
import Derived.Deep.DeepCutAuto
import Derived.Test.YtiddfilhfdkogaaQuietT
namespace Go.Proofs.Ytiddfilhfdkogaa
open Go.RowKit Go.Shelf
attribute [-go_sem] Instr.build Instr.fill
attribute [local go_sem] build_loc3 Oper.semAt_some

theorem read_res24 (w : World) (a b : Nat) (v : Value) (n : Int) (tmps : Array Value) (h4 : tmps.getD 4 undef = .pointer (some ⟨a, 0, none⟩)) (h5 : tmps.getD 5 undef = .pointer (some ⟨b, 0, none⟩)) (ha : w.cell? ⟨a, 0, none⟩ = some v) (hb : w.cell? ⟨b, 0, none⟩ = some (.int .i64 n)) :
    (results Try.f21 tmps).run Try.prog w = .ok (.tuple #[v, .int .i64 n]) w := by
  have h4' : tmps[4]?.getD undef = .pointer (some ⟨a, 0, none⟩) := by simpa using h4
  have h5' : tmps[5]?.getD undef = .pointer (some ⟨b, 0, none⟩) := by simpa using h5
  simp [results, Try.results21, h4', h5', go_sem, ha, hb]
theorem hold_parts {x : LogS} {q p n : Nat} (h : x.holdB q p n = true) : x.oldest ≤ (q : Int) ∧ q ≤ x.last ∧ p + n ≤ x.rr := by
  unfold LogS.holdB LogS.thereB at h
  simp only [Bool.and_eq_true, decide_eq_true_eq] at h
  omega
section
variable {w W : World} {E : Foot} {R D : Nat} {x : LogS} {d : Dev}
set_option maxRecDepth 100000 in
set_option maxHeartbeats 8000000 in
theorem rread_any (h : LogApart w E R D x d W) (hon : x.On d) (q p n : Nat) (hyes : x.holdB q p n = true) : Calls Try.prog 21 #[.pointer (some ⟨R, 0, none⟩), .agg #[.int .i64 q, .int .i64 p, .int .i64 n]] W (ReadTo x d q p n W) := by
  refine callsIn_wide (n := 3).1 ?_
  refine callsIn_of_wp_marks Try.func21 rfl trivial ?_ rfl
  simp only [Try.ntmps21, List.size_toArray, List.length_cons, List.length_nil, Nat.reduceAdd, Nat.reduceSub, Array.replicate_succ, Array.replicate_zero, List.push_toArray, List.append_toArray, List.nil_append, List.cons_append]
  refine wpIn_wide.2 ?_
  obtain ⟨W4, hW4⟩ : ∃ W4, (((W.alloc (.cells #[.pointer (some ⟨R, 0, none⟩)] 23)).alloc (.cells #[.int .i64 q, .int .i64 p, .int .i64 n] 42)).alloc (.cells #[.slice none 0 0] 36)).alloc (.cells #[.int .i64 0] 24) = W4 := ⟨_, rfl⟩
  obtain ⟨hly, hb4⟩ := rd_lay W R q p n W4 hW4
  have hz4 : W4.heap.size = W.heap.size + 4 := by rw [← hW4]; simp
  obtain ⟨rv, hL, hda, _⟩ := id h
  have hh := hold_any (hL.below hb4) q p n
  rw [hyes] at hh
  obtain ⟨hq1, hq2, hpn⟩ := hold_parts hyes
  have HOK := Lib.hid hL.ok
  have HPL := Lib.hid (fun s => pad_len hL.ok hon hda.here q s)
  have HLL := Lib.hid (fun s => load_len hL.ok hon hda.here q s)
  have HRR := Lib.hid hL.ok.rr_le
  have HC4 := Lib.hid (fun (V : World) (hb : Below W.heap.size W V) => (hL.below hb).cells.2.2.2.2.1)
  have HLO := Lib.hid (fun (V : World) (hb : Below W.heap.size W V) (s : Nat) (a b : Int) (hs : s ≤ x.sectors) => loadOf_any (h.on hb) hon q s a b hs)
  have HPN := Lib.hid hpn
  have HH := Lib.hid hh
  have HLY := Lib.hid hly
  have HB4 := Lib.hid hb4
  have HW4 := Lib.hid hW4
  have HZ4 := Lib.hid hz4
  have c0 : W4.cell? ⟨W.heap.size, 0, none⟩ = some (.pointer (some ⟨R, 0, none⟩)) := blk_cell hly.b0 0
  have l0 : W4.cell? ⟨W.heap.size + 1, 0, none⟩ = some (.int .i64 q) := blk_cell hly.b1 0
  have l1 : W4.cell? ⟨W.heap.size + 1, 1, none⟩ = some (.int .i64 p) := blk_cell hly.b1 1
  have l2 : W4.cell? ⟨W.heap.size + 1, 2, none⟩ = some (.int .i64 n) := blk_cell hly.b1 2
  clear h hyes hly hb4 hL hda hh hW4 hq1 hq2 hpn hon hz4
  go_upto_region 1 with (fail)
  change Code.wp _ _ _ _ ((((W.alloc (.cells #[.pointer (some ⟨R, 0, none⟩)] 23)).alloc (.cells #[.int .i64 q, .int .i64 p, .int .i64 n] 42)).alloc (.cells #[.slice none 0 0] 36)).alloc (.cells #[.int .i64 0] 24))
  rw [HW4.out]
  clear HW4
  go_upto_region 6 with (go_at_call 44; (with_reducible refine HH.out.mono ?_); rintro e w2 ⟨rfl, hb2⟩; have HB2 := Lib.hid hb2; clear hb2 c0 l0 l1 l2)
  obtain ⟨wy, hwy⟩ : ∃ wy, w2.alloc (.cells #[.slice none 0 0] 36) = wy := ⟨_, rfl⟩
  have hb6 : Below W4.heap.size W4 wy := by rw [← hwy]; exact HB2.out.alloc HB2.out.size _
  have hB6 : wy.heap[w2.heap.size]? = some (.cells #[.slice none 0 0] 36 (0, 0)) := by rw [← hwy]; exact heap_alloc_new _ _
  have hz6 : wy.heap.size = w2.heap.size + 1 := by rw [← hwy]; simp
  have HB := Lib.hid (show W.heap.size + 4 ≤ w2.heap.size by have := HB2.out.size; have := HZ4.out; omega)
  change Code.wp _ _ _ _ (w2.alloc (.cells #[.slice none 0 0] 36))
  rw [hwy]
  have hly := HLY.out.below hb6
  have c0 : wy.cell? ⟨W.heap.size, 0, none⟩ = some (.pointer (some ⟨R, 0, none⟩)) := blk_cell hly.b0 0
  have l0 : wy.cell? ⟨W.heap.size + 1, 0, none⟩ = some (.int .i64 q) := blk_cell hly.b1 0
  have l1 : wy.cell? ⟨W.heap.size + 1, 1, none⟩ = some (.int .i64 p) := blk_cell hly.b1 1
  have l2 : wy.cell? ⟨W.heap.size + 1, 2, none⟩ = some (.int .i64 n) := blk_cell hly.b1 2
  have HLY6 := Lib.hid hly
  have HBY := Lib.hid (HB4.out.trans (hb6.mono HB4.out.size))
  have HB6 := Lib.hid hB6
  have HZ6 := Lib.hid hz6
  generalize w2.heap.size = B at HB HB6 HZ6 ⊢
  clear hly hb6 hB6 hz6 hwy HLY HH HB2 HB4
  have HPC : Hid (Calls Try.prog 36 #[.pointer (some ⟨R, 0, none⟩), .agg #[.int .i64 q, .int .i64 p, .int .i64 n]] wy fun e w' => e = .returned (.func (.func 53) #[] #[.pointer (some ⟨wy.heap.size + 1, 0, none⟩), .pointer (some ⟨wy.heap.size, 0, none⟩)]) ∧ (wy.alloc (.cells #[.pointer (some ⟨R, 0, none⟩)] 23)).alloc (.cells #[.int .i64 q, .int .i64 p, .int .i64 n] 42) = w') :=
    callsIn_wide.1 (piecesOf_in Fence.wide 2 trivial rfl R (q : Int) (p : Int) (n : Int) wy)
  go_wp2_with (go_at_call 36; (with_reducible refine HPC.out.mono ?_); rintro e w3 ⟨rfl, hw3⟩; have HW3 := Lib.hid hw3; clear hw3 c0 l0 l1 l2)
  have z3 : w3.heap.size = wy.heap.size + 2 := by rw [← HW3.out]; simp
  have b3 : Below wy.heap.size wy w3 := by rw [← HW3.out]; exact ((Below.refl _ wy).alloc (Nat.le_refl _) _).alloc (by simp) _
  have i1 : w3.heap[wy.heap.size]? = some (.cells #[.pointer (some ⟨R, 0, none⟩)] 23 (0, 0)) := by rw [← HW3.out]; exact blk_alloc (heap_alloc_new _ _) _
  have i2 : w3.heap[wy.heap.size + 1]? = some (.cells #[.int .i64 q, .int .i64 p, .int .i64 n] 42 (0, 0)) := by
    rw [← HW3.out]
    have := heap_alloc_new (wy.alloc (.cells #[.pointer (some ⟨R, 0, none⟩)] 23)) (.cells #[.int .i64 q, .int .i64 p, .int .i64 n] 42)
    rwa [World.size_alloc] at this
  have hBI : B < wy.heap.size := by have := HZ6.out; omega
  have HBI := Lib.hid hBI
  refine (wpIn_wide (n := 3)).1 ?_
  refine rangeFunc_inv (F := Fence.wide) rfl (by decide) (gf := 53) (lb := #[.pointer (some ⟨wy.heap.size + 1, 0, none⟩), .pointer (some ⟨wy.heap.size, 0, none⟩)]) rfl trivial (enters_of Try.func53 (by kernel_rfl) rfl)
    (pcEnc (q : Int) x.room (p + n)) (fun _ => rfl) 88 (pcC (q : Int) x.room (p + n)) (nxP x.room (p + n)) (fun s => s < p + n) p
    (RdRound W x d R wy.heap.size B q p n) (RdStop W x d q p n) ?hbel ?hturn ?hstop ?hround ?h0 ?hcall ?hdone ?hleft
  case hbel =>
    rintro s V V' ⟨v, h1, h2, h3, h4⟩ hb
    exact ⟨v, h1.below hb, h2, h3, h4⟩
  case hturn =>
    rintro s V o o' hl ho ⟨v, h1, h2, h3, h4⟩
    rw [z3]
    exact ⟨v, h1.put HB.out HBI.out, h2, h3, h4⟩
  case hstop =>
    rintro V o o' hl ho ⟨er, h1, h2, h3, h4⟩
    rw [z3]
    have hm := moves_put V (wy.heap.size + 2 + 1) o'
    have hB := HB.out
    exact ⟨er, (World.putObj_heap_other (by omega)).trans h1, (World.putObj_heap_other (by omega)).trans h2, h3.trans (hm.below (fun i hi => by omega) h3.size), h4⟩
  case h0 =>
    intro o ho
    have hb0 : Below wy.heap.size wy ((w3.alloc (.deferred (some []))).alloc o) := (b3.alloc (by rw [z3]; omega) _).alloc (by simp [z3]; omega) _
    have hbw : Below w3.heap.size w3 ((w3.alloc (.deferred (some []))).alloc o) := ((Below.refl _ w3).alloc (Nat.le_refl _) _).alloc (by simp) _
    refine ⟨.slice none 0 0, ⟨HLY6.out.below hb0, (hb0.block _ HBI.out).trans HB6.out, (hbw.block _ (by rw [z3]; omega)).trans i1, (hbw.block _ (by rw [z3]; omega)).trans i2, ?_, (fun k e => by cases e), HBY.out.trans (hb0.mono HBY.out.size)⟩, Nat.le_refl _, Nat.le_add_right _ _, fun t h1 h2 h3 => absurd h3 (Nat.lt_irrefl _)⟩
    rw [Nat.sub_self, List.take_zero]
    exact World.ownsRow_nil _ _ _ _
  case hcall =>
    intro l J JS W0 hJI hJB hJ0 hY
    refine pieces1_in Fence.wide 2 trivial rfl (by decide) l (wy.heap.size + 1) wy.heap.size R (q : Int) p n x.room ⟨HOK.out.m1, HOK.out.m2⟩ (Nat.le_trans HPN.out HRR.out) J JS W0 (fun s V hj => ?_) hJB hJ0 hY
    obtain ⟨v, h1, h2, h3, h4⟩ := hJI s V hj
    exact ⟨blk_cell h1.i2 0, blk_cell h1.i2 1, blk_cell h1.i2 2, blk_cell h1.i1 0, HC4.out _ h1.since⟩
  case hdone =>
    rintro V s hns ⟨v, h1, h2, h3, h4⟩ hK
    rw [z3] at hK ⊢
    obtain rfl : s = p + n := by omega
    rw [show p + n - p = n by omega] at h1
    obtain ⟨av, cv, rfl⟩ := owns_slice h1.own
    generalize hnl : (List.take n (List.drop p (x.contP d q))).length = nl at h1
    have HNL := Lib.hid hnl
    clear hnl
    have cb : V.cell? ⟨B, 0, none⟩ = some (.slice av nl cv) := blk_cell h1.b6 0
    have k2 : V.cell? ⟨W.heap.size + 1 + 1, 0, none⟩ = some (.slice none 0 0) := blk_cell h1.lay.b2 0
    have k3 : V.cell? ⟨W.heap.size + 1 + 1 + 1, 0, none⟩ = some (.int .i64 0) := blk_cell h1.lay.b3 0
    have f2 := blk_frozen h1.lay.b2 0
    have f3 := blk_frozen h1.lay.b3 0
    have HS := Lib.hid h1
    have HN := Lib.hid h4
    have HKD := Lib.hid hK
    clear h1 h2 h3 h4 hK hns
    go_wp2
    obtain ⟨V4, hV4⟩ : ∃ V4, (V.setCell ⟨W.heap.size + 1 + 1, 0, none⟩ (.slice av nl cv)).setCell ⟨W.heap.size + 1 + 1 + 1, 0, none⟩ (.int .i64 0) = V4 := ⟨_, rfl⟩
    rw [hV4]
    obtain ⟨e1, e2, e3, e4, e5⟩ := HS.out.finish HB.out HBI.out HKD.out hV4 (.deferred none)
    refine ⟨by simp, .inl ⟨_, _, rfl, run_takeDeferred e1, ?_⟩⟩
    exact ⟨_, read_res24 _ (W.heap.size + 1 + 1) (W.heap.size + 1 + 1 + 1) _ 0 _ rfl rfl e2 e3, _, _, rfl, e4, .inl ⟨rfl, fun t a b c => HN.out t a b (by omega), e5⟩⟩
  case hleft =>
    rintro V ⟨er, h1, h2, h3, h4⟩ hK
    rw [z3] at hK ⊢
    have hB := HB.out
    have hBI := HBI.out
    have HX1 : Hid ((V.putObj (wy.heap.size + 2) (.deferred none)).heap[W.heap.size + 1 + 1]? = some (.cells #[.slice none 0 0] 36 (0, 0))) := (World.putObj_heap_other (by omega)).trans h1
    have HX2 : Hid ((V.putObj (wy.heap.size + 2) (.deferred none)).heap[W.heap.size + 1 + 1 + 1]? = some (.cells #[.int .i64 er] 24 (0, 0))) := (World.putObj_heap_other (by omega)).trans h2
    have HBB := Lib.hid (h3.trans ((moves_put V (wy.heap.size + 2) (.deferred none)).below (fun i hi => by omega) h3.size))
    have HKD := Lib.hid hK
    have HBD := Lib.hid h4
    clear h1 h2 h3 h4 hK
    refine (wpIn_wide (n := 3)).2 ?_
    go_wp2
    refine ⟨by simp, .inl ⟨_, _, rfl, run_takeDeferred HKD.out, ?_⟩⟩
    exact ⟨_, read_res24 _ (W.heap.size + 1 + 1) (W.heap.size + 1 + 1 + 1) _ er _ rfl rfl (blk_cell HX1.out 0) (blk_cell HX2.out 0), _, _, rfl, HBB.out, .inr ⟨rfl, HBD.out⟩⟩
  case hround =>
    apply Exists.intro
    apply And.intro
    · intro l s V b K hb hm hI hK2
      unfold pcEnc pcC
      gi_wp2
      rw [← hb]
      exact hK2
    · intro l s b V hm hI hbl hbk hsz
      obtain ⟨v, h1, h2, h3, h4⟩ := hI
      rw [z3] at hbl hsz
      obtain ⟨g1, g2⟩ := nxP_gt HOK.out.m1 hm
      have HNX := Lib.hid (And.intro g1 g2)
      have hsec : s / x.room < x.sectors := by
        have hpn := HPN.out
        exact Nat.div_lt_of_lt_mul (by rw [Nat.mul_comm]; show s < x.sectors * x.room; unfold LogS.rr at hpn; omega)
      have hdm := Nat.div_add_mod s x.room
      have hml := Nat.mod_lt s HOK.out.m1
      have hle : nxP x.room (p + n) s ≤ (s / x.room + 1) * x.room := by unfold nxP; omega
      rw [Nat.add_mul, Nat.one_mul] at hle
      rw [Nat.mul_comm] at hdm
      obtain ⟨m, hme⟩ : ∃ m, nxP x.room (p + n) s - s = m := ⟨_, rfl⟩
      obtain ⟨fr, hfr⟩ : ∃ fr, s % x.room = fr := ⟨_, rfl⟩
      have hrr := HRR.out
      have hm2 := HOK.out.m2
      have hfm : fr + m ≤ x.room := by omega
      have hbk' := hbk
      unfold pcC at hbk'
      rw [hme] at hbk'
      have y0 : V.cell? ⟨b, 0, none⟩ = some (.int .i64 q) := blk_cell hbk' 0
      have y1 : V.cell? ⟨b, 1, none⟩ = some (.int .i64 s) := blk_cell hbk' 1
      have y2 : V.cell? ⟨b, 2, none⟩ = some (.int .i64 m) := blk_cell hbk' 2
      have y3 : V.cell? ⟨b, 3, none⟩ = some (.int .i64 ((s / x.room : Nat) : Int)) := blk_cell hbk' 3
      have cZ : V.cell? ⟨W.heap.size, 0, none⟩ = some (.pointer (some ⟨R, 0, none⟩)) := blk_cell h1.lay.b0 0
      have HL2 := Lib.hid (HLO.out V h1.since (s / x.room) (s : Int) (m : Int) (Nat.le_of_lt hsec))
      have t1 : (Fence.wide.inRound l).fn 45 := trivial
      have t2 : Fence.wide.fn 45 := trivial
      have HD := Lib.hid (And.intro h1 (And.intro h2 (And.intro h3 h4)))
      have HBK := Lib.hid hbk'
      have HM := Lib.hid (And.intro hm (And.intro hme (And.intro hfr (And.intro hfm hsec))))
      have HSZ := Lib.hid (And.intro hbl hsz)
      by_cases he : x.loadE d q (s / x.room) = 0
      · have HE := Lib.hid he
        have HCL : Hid (Calls Try.prog 45 #[.pointer (some ⟨R, 0, none⟩), .agg #[.int .i64 q, .int .i64 s, .int .i64 m, .int .i64 ((s / x.room : Nat) : Int)]] V fun e w5 => ∃ g off cap, e = .returned (.tuple #[.slice (some ⟨g, off, none⟩) x.room cap, .int .i64 0]) ∧ x.room ≤ cap ∧ BytesAt w5.heap.size w5 (.slice (some ⟨g, off, none⟩) x.room cap) (x.loadB d q (s / x.room)) ∧ Below V.heap.size V w5) :=
          HL2.out.mono fun e w5 ⟨v5, e1, e2, e3⟩ => by
            have hl := HLL.out _ HE.out
            obtain ⟨a5, c5, rfl, k1, k2, k3⟩ := id e2
            rw [hl] at e1 e2 k1
            obtain ⟨g5, o5, rfl⟩ : ∃ g off, a5 = some ⟨g, off, none⟩ := by
              rcases k3 with k3 | ⟨g, off, k3, _⟩
              · rw [k3] at hl; have := HOK.out.m1; simp at hl; omega
              · exact ⟨g, off, k3⟩
            rw [HE.out] at e1
            exact ⟨g5, o5, c5, e1, k1, e2, e3⟩
        have hrem : (s : Int) % (x.room : Int) = ((fr : Nat) : Int) := by rw [← hfr]; push_cast; rfl
        have hrm0 : ((x.room : Int) == 0) = false := beq_eq_false_iff_ne.2 (by have := HOK.out.m1; omega)
        have hwr : IntKind.i64.wrap ((fr : Int) + (m : Int)) = ((fr + m : Nat) : Int) := by rw [← Int.natCast_add]; exact IntWalk.i64_in _ (by omega)
        have hwr2 : wrap64 ((fr : Int) + (m : Int)) = ((fr + m : Nat) : Int) := by rw [← Int.natCast_add]; exact IntWalk.wrap64_in _ (by omega)
        have r1 : (1 : Int) ≤ x.room := by have := HOK.out.m1; omega
        have r2 : (s : Int) ≤ 8077312 := by have := HPN.out; omega
        obtain ⟨i0, hi, hz0, hz1, hz2⟩ := info_parts Try.infoU8
        have HI0 := Lib.hid (And.intro hi (And.intro hz0 (And.intro hz1 hz2)))
        have HI1 : Hid (fr < x.room) := by unfold Hid; omega
        have HCS : Hid (((x.contP d q).drop p).take (s - p) ++ ((x.loadB d q (s / x.room)).drop fr).take m = ((x.contP d q).drop p).take (nxP x.room (p + n) s - p)) := by
          have hc := cont_step (fun s => x.padB d q s) x.room x.sectors HOK.out.m1 (fun s _ => HPL.out s) (a := p) (p := s) (p' := nxP x.room (p + n) s) h2 (by have := HPN.out; show s < x.rr; omega) (by omega) (by unfold nxP; omega)
          have hpb : x.padB d q (s / x.room) = x.loadB d q (s / x.room) := by unfold LogS.padB; rw [if_pos he]
          rw [hpb, hfr, hme] at hc
          exact hc
        have HLB := Lib.hid (HLL.out _ he)
        have HSD : Hid (∀ t, p / x.room ≤ t → t * x.room < nxP x.room (p + n) s → p < nxP x.room (p + n) s → x.loadE d q t = 0) := fun t a1 a2 _ => by
          rcases rd_sec HOK.out.m1 h2 a1 a2 with e | ⟨e1, e2⟩
          · rw [e]; exact he
          · exact h4 t a1 e1 e2
        have HXL : Hid ((((x.contP d q).drop p).take (s - p)).length ≤ 8077312) := by
          unfold Hid
          rw [List.length_take]
          have := HPN.out
          omega
        generalize s / x.room = sec at HCL HM HE hbk' y3 hle hdm hsec HBK HCS HLB
        generalize x.loadB d q sec = lb at HCL HCS HLB
        generalize hxs : ((x.contP d q).drop p).take (s - p) = xs at HD HCS HXL h1
        have HXS := Lib.hid hxs
        clear hxs
        clear h1 h2 h3 h4 hbk hbk' HL2 he hdm hml hle hsec hme hfr hfm hm hbl hsz g1 g2 hi hz0 hz1 hz2 hrr hm2
        gi_wp2_with (gi_at_call 45; (with_reducible refine (CallsIn.inRound l (callsIn_wide.2 HCL.out)).mono ?_); rintro e w5 ⟨g5, o5, c5, rfl, hc5, hu5, hb5⟩; have HB5 := Lib.hid hb5; have HU5 := Lib.hid hu5; have HC5 := Lib.hid hc5; clear hu5 hb5 hc5 y0 y1 y2 y3 cZ)
        have hs5 := HD.out.1.below HB5.out
        have hbk5 := (HB5.out.block b (blk_lt HBK.out)).trans HBK.out
        have q1 : ∀ pp : After w5, pp.v.cell? ⟨b, 1, none⟩ = some (.int .i64 s) := after_cell (blk_cell hbk5 1)
        have q2 : ∀ pp : After w5, pp.v.cell? ⟨W.heap.size, 0, none⟩ = some (.pointer (some ⟨R, 0, none⟩)) := after_cell (blk_cell hs5.lay.b0 0)
        have q4 : ∀ pp : After w5, pp.v.cell? ⟨R, 4, none⟩ = some (.int .i64 x.room) := after_cell (HC4.out w5 hs5.since)
        have HS5 := Lib.hid hs5
        have HBK5 := Lib.hid hbk5
        clear hs5 hbk5
        refine wpIn_region_round (by kernel_rfl) (by kernel_rfl) (by kernel_rfl) ?_
        repeat (gi_big_quiet_step (fail))
        refine wpQuietIn_nil ?_
        rintro W9 ⟨⟨_, hW9⟩, rfl⟩
        have hs9 := (HS5.out.below hW9).below (Below.refl _ W9).drew
        have hbk9 := (hW9.block b (blk_lt HBK5.out)).trans HBK5.out
        have cB : W9.cell? ⟨B, 0, none⟩ = some v := blk_cell hs9.b6 0
        have fB : W9.frozen? ⟨B, 0, none⟩ = false := blk_frozen hs9.b6 0
        have cM : W9.cell? ⟨b, 2, none⟩ = some (.int .i64 m) := blk_cell hbk9 2
        have HU9 : Hid (BytesAt W9.drew.heap.size W9.drew (.slice (some ⟨g5, o5 + fr, none⟩) m (c5 - fr)) ((lb.drop fr).take m)) := by
          have h0 : BytesAt W9.heap.size W9 (.slice (some ⟨g5, o5, none⟩) x.room c5) lb := (HU5.out.below hW9).mono hW9.size
          have h1 := h0.suf fr (by rw [HLB.out]; have := HI1.out; omega)
          rw [add_plain] at h1
          exact h1.pre m (by rw [List.length_drop, HLB.out]; have := HM.out.2.2.2.1; omega)
        have HNB : Hid (((lb.drop fr).take m).length = m) := by unfold Hid; rw [List.length_take, List.length_drop, HLB.out]; have := HM.out.2.2.2.1; omega
        have HS9 := Lib.hid hs9
        have HW9 := Lib.hid (HB5.out.trans (hW9.mono HB5.out.size))
        have HBB : Hid (v.ownBlock ≠ some b) := own_ne hs9.own hbk9 (by decide)
        have HBK9 := Lib.hid hbk9
        have hc5 := HC5.out
        have hi1 := HI1.out
        have hfm := HM.out.2.2.2.1
        have z1 : ((fr : Nat) : Int) ≤ ((fr + m : Nat) : Int) := by omega
        have z2 : ((fr + m : Nat) : Int) ≤ (c5 : Int) := by omega
        have z4 : ¬ (c5 = fr) := by omega
        clear q1 q2 q4 hW9 hs9 hbk9 hc5 hi1 hfm
        gi_wp2
        refine wpIn_region_any (by kernel_rfl) (anyIn_of_any (by kernel_rfl) (fun ⟨_, _, h⟩ => by rcases h with ⟨_, ⟨h, _⟩ | ⟨h, _⟩⟩ <;> cases h) _ _ _ _ (wpAny_of_held (S := fun U : World => U.cell? ⟨b, 2, none⟩ = some (.int .i64 m)) _ _ _ _ ?_))
        change wpAnyH _ _ _ _ _ _ _ _ W9.drew
        have hS0 : (fun U : World => U.cell? ⟨b, 2, none⟩ = some (.int .i64 m)) W9.drew := cM
        refine wpAnyH_take (i := 1) (oi := ⟨some 41, _, _, _, _, _⟩) (v := .slice (some ⟨g5, o5, none⟩) x.room c5) rfl (by kernel_rfl) (by kernel_rfl) (by kernel_rfl) (fun _ _ _ h => h) (Or.inl ⟨by rfl, fun U hU => by have u1 : U.cell? ⟨b, 2, none⟩ = some (.int .i64 m) := hU; (try clear hS0); go_simp⟩) hS0 ?_
        try simp only [Act.put, List.setIfInBounds_toArray, List.set_cons_zero, List.set_cons_succ]
        refine wpAnyH_take (i := 2) (oi := ⟨some 42, _, _, _, _, _⟩) (v := .int .i64 (fr : Int)) rfl (by kernel_rfl) (by kernel_rfl) (by kernel_rfl) (fun _ _ _ h => h) (Or.inl ⟨by rfl, fun U hU => by have u1 : U.cell? ⟨b, 2, none⟩ = some (.int .i64 m) := hU; (try clear hS0); go_simp⟩) hS0 ?_
        try simp only [Act.put, List.setIfInBounds_toArray, List.set_cons_zero, List.set_cons_succ]
        refine wpAnyH_take (i := 3) (oi := ⟨some 43, _, _, _, _, _⟩) (v := .int .i64 (fr : Int)) rfl (by kernel_rfl) (by kernel_rfl) (by kernel_rfl) (fun _ _ _ h => h) (Or.inl ⟨by rfl, fun U hU => by have u1 : U.cell? ⟨b, 2, none⟩ = some (.int .i64 m) := hU; (try clear hS0); go_simp⟩) hS0 ?_
        try simp only [Act.put, List.setIfInBounds_toArray, List.set_cons_zero, List.set_cons_succ]
        refine wpAnyH_take (i := 4) (oi := ⟨some 44, _, _, _, _, _⟩) (v := .pointer (some ⟨b, 0, none⟩)) rfl (by kernel_rfl) (by kernel_rfl) (by kernel_rfl) (fun _ _ _ h => h) (Or.inl ⟨by rfl, fun U hU => by have u1 : U.cell? ⟨b, 2, none⟩ = some (.int .i64 m) := hU; (try clear hS0); go_simp⟩) hS0 ?_
        try simp only [Act.put, List.setIfInBounds_toArray, List.set_cons_zero, List.set_cons_succ]
        refine wpAnyH_take (i := 5) (oi := ⟨some 45, _, _, _, _, _⟩) (v := .pointer (some ⟨b, 2, none⟩)) rfl (by kernel_rfl) (by kernel_rfl) (by kernel_rfl) (fun _ _ _ h => h) (Or.inl ⟨by rfl, fun U hU => by have u1 : U.cell? ⟨b, 2, none⟩ = some (.int .i64 m) := hU; (try clear hS0); go_simp⟩) hS0 ?_
        try simp only [Act.put, List.setIfInBounds_toArray, List.set_cons_zero, List.set_cons_succ]
        refine wpAnyH_take (i := 6) (oi := ⟨some 46, _, _, _, _, _⟩) (v := .int .i64 (m : Int)) rfl (by kernel_rfl) (by kernel_rfl) (by kernel_rfl) (fun _ _ _ h => h) (Or.inl ⟨by rfl, fun U hU => by have u1 : U.cell? ⟨b, 2, none⟩ = some (.int .i64 m) := hU; (try clear hS0); go_simp⟩) hS0 ?_
        try simp only [Act.put, List.setIfInBounds_toArray, List.set_cons_zero, List.set_cons_succ]
        refine wpAnyH_take (i := 7) (oi := ⟨some 47, _, _, _, _, _⟩) (v := .int .i64 ((fr + m : Nat) : Int)) rfl (by kernel_rfl) (by kernel_rfl) (by kernel_rfl) (fun _ _ _ h => h) (Or.inl ⟨by rfl, fun U hU => by have u1 : U.cell? ⟨b, 2, none⟩ = some (.int .i64 m) := hU; (try clear hS0); go_simp⟩) hS0 ?_
        try simp only [Act.put, List.setIfInBounds_toArray, List.set_cons_zero, List.set_cons_succ]
        refine wpAnyH_take (i := 8) (oi := ⟨some 48, _, _, _, _, _⟩) (v := .slice (some ⟨g5, o5 + fr, none⟩) m (c5 - fr)) rfl (by kernel_rfl) (by kernel_rfl) (by kernel_rfl) (fun _ _ _ h => h) (Or.inl ⟨by rfl, fun U hU => by have u1 : U.cell? ⟨b, 2, none⟩ = some (.int .i64 m) := hU; (try clear hS0); go_simp; rw [if_pos (And.intro (by omega) (by omega)), if_pos (by omega)]; rw [show ((fr : Int) + (m : Int)).toNat - fr = m by omega]⟩) hS0 ?_
        try simp only [Act.put, List.setIfInBounds_toArray, List.set_cons_zero, List.set_cons_succ]
        refine wpAnyH_ready (rs := [0]) (by kernel_rfl) (by simp) ?_
        refine AllReadyH.cons (o := ⟨some 40, _, _, _, _, _⟩) rfl (fun K hK => ?_) AllReadyH.nil
        go_simp
        refine hK _ _ hS0 (fun _ => ?_)
        clear hK K
        try simp only [Act.put, List.setIfInBounds_toArray, List.set_cons_zero, List.set_cons_succ]
        refine wpAnyH_ready (rs := [9]) (by kernel_rfl) (by simp) ?_
        refine AllReadyH.cons (o := ⟨some 49, _, _, _, _, _⟩) rfl (fun K hK => ?_) AllReadyH.nil
        obtain ⟨hi, hz0, hz1, hz2⟩ := HI0.out
        refine step_append_bytes (by rfl) (.tmp 40) (.tmp 48) (by rfl) (by rfl) W.heap.size i0 hi hz0 hz1 hz2 v (by rfl) xs HS9.out.own (.slice (some ⟨g5, o5 + fr, none⟩) m (c5 - fr)) (by rfl) _ ((lb.drop fr).take m) HU9.out (by rw [HNB.out]; have := HXL.out; have := HOK.out.m2; have := HM.out.2.2.2.1; omega) HS9.out.since.size ?_
        intro v2 w2 n2 HN2 hown2 hgrow2 hat2
        obtain ⟨a2, c2, rfl⟩ := owns_slice hown2
        have hownG : ∀ k, k = n2 → w2.ownsRow W.heap.size 5 1 (.slice a2 n2 c2) k (cellsOf (xs ++ (lb.drop fr).take m)) := by rintro _ rfl; exact hown2
        have hgB : w2.heap[B]? = some (.cells #[v] 36 (0, 0)) := (hgrow2.block B (blk_lt HS9.out.b6) (fun e => own_ne HS9.out.own HS9.out.b6 (by decide) e.symm)).trans HS9.out.b6
        have hgb : w2.heap[b]? = some (.cells #[.int .i64 q, .int .i64 s, .int .i64 m, .int .i64 sec] 88 (0, 0)) := (hgrow2.block b (blk_lt HBK9.out) (fun e => HBB.out e.symm)).trans HBK9.out
        have hBb : B ≠ b := by rintro rfl; rw [hgB] at hgb; simp at hgb
        have hA := HS9.out.add HB.out HBI.out (by have := HSZ.out; have := HW9.out.size; show wy.heap.size + 3 < W9.heap.size; omega) (hownG _ HN2.out.symm) hgrow2 hat2
        have cB2 : w2.cell? ⟨B, 0, none⟩ = some v := blk_cell hgB 0
        have fB2 : w2.frozen? ⟨B, 0, none⟩ = false := blk_frozen hgB 0
        have cM2 : w2.cell? ⟨b, 2, none⟩ = some (.int .i64 m) := blk_cell hgb 2
        have hS1 : (fun U : World => U.cell? ⟨b, 2, none⟩ = some (.int .i64 m)) w2 := cM2
        have hS2 : (fun U : World => U.cell? ⟨b, 2, none⟩ = some (.int .i64 m)) (w2.setCell ⟨B, 0, none⟩ (.slice a2 n2 c2)) := (World.cell?_of_block (w := w2) (Below.heap_setCell _ _ _ _ (fun e => hBb e.symm))).trans cM2
        have HA := Lib.hid hA
        clear hA hown2 hownG hgrow2 hat2 hi hz0 hz1 hz2 cB fB cM hgB hgb hBb
        refine hK _ _ hS1 (fun _ => ?_)
        clear hK K
        try simp only [Act.put, List.setIfInBounds_toArray, List.set_cons_zero, List.set_cons_succ]
        refine wpAnyH_ready (rs := [10]) (by kernel_rfl) (by simp) ?_
        refine AllReadyH.cons (o := ⟨none, _, _, _, _, _⟩) rfl (fun K hK => ?_) AllReadyH.nil
        go_simp
        refine hK _ _ hS2 (fun _ => ?_)
        clear hK K
        try simp only [Act.put, List.setIfInBounds_toArray, List.set_cons_zero, List.set_cons_succ]
        refine wpAnyH_done (by kernel_rfl) ?_ _
        obtain ⟨j1, j2⟩ := HA.out
        have hz := HSZ.out
        have hkb : ∀ k, (k = wy.heap.size + 2 ∨ k = wy.heap.size + 3) → (w2.setCell ⟨B, 0, none⟩ (.slice a2 n2 c2)).heap[k]? = V.heap[k]? := fun k hk => (j2 k hk).trans (HW9.out.block k (by omega))
        rw [HCS.out] at j1
        have hx := HNX.out
        refine ⟨⟨hkb _ (.inr (by rw [z3])), hkb _ (.inl z3)⟩, .inl ⟨rfl, .slice a2 n2 c2, j1, by have := HD.out.2.1; omega, hx.2, HSD.out⟩⟩

      · have HE := Lib.hid he
        have hz : (x.loadE d q (s / x.room) == 0) = false := beq_eq_false_iff_ne.2 he
        have HBAD : Hid (RdBad x d q p n (x.loadE d q (s / x.room))) := by
          refine ⟨he, by omega, s / x.room, Nat.div_le_div_right h2, ?_, rfl⟩
          have : s / x.room * x.room ≤ s := Nat.div_mul_le_self s x.room
          omega
        have HCL : Hid (Calls Try.prog 45 #[.pointer (some ⟨R, 0, none⟩), .agg #[.int .i64 q, .int .i64 s, .int .i64 m, .int .i64 ((s / x.room : Nat) : Int)]] V fun e w5 => ∃ a n c, e = .returned (.tuple #[.slice a n c, .int .i64 (x.loadE d q (s / x.room))]) ∧ Below V.heap.size V w5) :=
          HL2.out.mono fun e w5 ⟨v5, e1, e2, e3⟩ => by
            obtain ⟨a5, c5, rfl, _⟩ := id e2
            exact ⟨a5, _, c5, e1, e3⟩
        generalize x.loadE d q (s / x.room) = er at hz HCL HBAD HE
        generalize s / x.room = sec at *
        clear h1 h2 h3 h4 hbk hbk' HL2 he hdm hml hle hsec hme hfr hfm hm hbl hsz g1 g2 hrr hm2
        gi_wp2_with (gi_at_call 45; (with_reducible refine (CallsIn.inRound l (callsIn_wide.2 HCL.out)).mono ?_); rintro e w5 ⟨a5, n5, c5, rfl, hb5⟩; have hs5 := HD.out.1.below hb5; have k2 : w5.cell? ⟨W.heap.size + 1 + 1, 0, none⟩ = some (.slice none 0 0) := blk_cell hs5.lay.b2 0; have k3 : w5.cell? ⟨W.heap.size + 1 + 1 + 1, 0, none⟩ = some (.int .i64 0) := blk_cell hs5.lay.b3 0; have f2 := blk_frozen hs5.lay.b2 0; have f3 := blk_frozen hs5.lay.b3 0; have HS5 := Lib.hid hs5; have HB5 := Lib.hid hb5; clear hs5 hb5 y0 y1 y2 y3 cZ)
        obtain ⟨q1, q2, q3, q4⟩ := HS5.out.stopped HB.out HBI.out er
        have hv := HSZ.out
        refine ⟨⟨?_, ?_⟩, er, q1, q2, q3, HBAD.out⟩
        · exact (q4 _ (.inr rfl)).trans (HB5.out.block _ (by omega))
        · exact (q4 _ (.inl rfl)).trans (HB5.out.block _ (by omega))
end
end Go.Proofs.Ytiddfilhfdkogaa

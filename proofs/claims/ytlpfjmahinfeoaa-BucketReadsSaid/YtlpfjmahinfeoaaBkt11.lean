/-
  bucket: Right, whatever the answer is.
  Conditions: none.
-/
import Derived.Test.YtlpfjmahinfeoaaBkt10
namespace Go.Proofs.Ytlpfjmahinfeoaa
open Go.RowKit Go.Shelf
attribute [local go_sem] Oper.semAt_some

theorem bput_moves (w : World) (b : Nat) (o : Obj) : Moves (fun k => k = b) w (w.putObj b o) := ⟨rfl, rfl, rfl, by rw [World.putObj_size]; exact Nat.le_refl _, fun _ _ hk => World.putObj_heap_other hk⟩
/-- Between two rounds of Right. -/
structure RtInv (w : World) (d p : Int) (a : Option Addr) (c : Nat) (es : List Ent) (k : Nat) (W : World) : Prop where
  le : k ≤ es.length
  ok : ∀ i, i < k → OkE d p es i
  below : Below w.heap.size w W
  b0 : W.heap[w.heap.size]? = some (.cells #[.int .i64 d, .int .i64 p, .slice a es.length c] 31 (0, 0))
  b1 : Boxed W (w.heap.size + 1) 4 (.bool false)
  b2 : W.heap[w.heap.size + 1 + 1]? = some (.cells #[.int .i64 d, .int .i64 p, .slice a es.length c] 31 (0, 0))
theorem RtInv.on {w W W' : World} {d p : Int} {a : Option Addr} {c k : Nat} {es : List Ent} (h : RtInv w d p a c es k W) (hb : Below W.heap.size W W') : RtInv w d p a c es k W' :=
  ⟨h.le, h.ok, h.below.trans (hb.mono h.below.size), (hb.block _ (blk_lt h.b0)).trans h.b0, (hb.block _ h.b1.lt).trans h.b1, (hb.block _ (blk_lt h.b2)).trans h.b2⟩
theorem RtInv.put {w W : World} {d p : Int} {a : Option Addr} {c k : Nat} {es : List Ent} (h : RtInv w d p a c es k W) {i : Nat} {o o' : Obj} (hi : w.heap.size + 3 ≤ i) (_ho : W.heap[i]? = some o) : RtInv w d p a c es k (W.putObj i o') :=
  ⟨h.le, h.ok, h.below.trans ((bput_moves W i o').below (fun j hj => by omega) h.below.size), (World.putObj_heap_other (by omega)).trans h.b0, (World.putObj_heap_other (by omega)).trans h.b1, (World.putObj_heap_other (by omega)).trans h.b2⟩
set_option maxRecDepth 100000 in
set_option maxHeartbeats 8000000 in
theorem rightB_in (d p s : Int) (a : Option Addr) (c : Nat) (es : List Ent) (w : World) (hE : EntsAt w.heap.size w (.slice a es.length c) es) (hh : Head14 d p s es.length) (hp0 : 0 ≤ p) (hp1 : p < 2 ^ d.toNat) :
    CallsIn Fence.wide 3 Try.prog 9 #[.agg #[.int .i64 d, .int .i64 p, .slice a es.length c], .int .i64 s] w (RightRet d p s es w) := by
  have HYES : Hid ((∀ i, i < es.length → OkE d p es i) → Right14 d p s es) := fun h => ⟨hh, hp0, hp1, h⟩
  have HNO : Hid ((∃ i, i < es.length ∧ ¬ OkE d p es i) → ¬ Right14 d p s es) := fun ⟨i, hi, hn⟩ h => hn (h.all i hi)
  obtain ⟨D, hD⟩ := Int.eq_ofNat_of_zero_le hh.d0
  subst hD
  have h1 := hh.s1
  have h2 := hh.s2
  have h3 := hh.len
  have h5 := hh.d1
  have HIP := Lib.hid (fun W => callsIn_wide (n := 2).2 (isPrefix_yes p D (by omega) hp0 (by simpa using hp1) W))
  have t1 : Fence.wide.fn 35 := trivial
  have t2 : Fence.wide.fn 31 := trivial
  have t3 : Fence.wide.fn 36 := trivial
  have t4 : Fence.wide.fn 37 := trivial
  have hb3 : Below w.heap.size w (((w.alloc (.cells #[.int .i64 D, .int .i64 p, .slice a es.length c] 31)).alloc (.cells #[.bool false] 4)).alloc (.cells #[.int .i64 D, .int .i64 p, .slice a es.length c] 31)) := (((Below.refl _ w).alloc (Nat.le_refl _) _).alloc (by simp) _).alloc (by simp; omega) _
  have hk0 : (((w.alloc (.cells #[.int .i64 D, .int .i64 p, .slice a es.length c] 31)).alloc (.cells #[.bool false] 4)).alloc (.cells #[.int .i64 D, .int .i64 p, .slice a es.length c] 31)).heap[w.heap.size]? = some (.cells #[.int .i64 D, .int .i64 p, .slice a es.length c] 31 (0, 0)) := blk_alloc (blk_alloc (heap_alloc_new _ _) _) _
  have hk1 : Boxed (((w.alloc (.cells #[.int .i64 D, .int .i64 p, .slice a es.length c] 31)).alloc (.cells #[.bool false] 4)).alloc (.cells #[.int .i64 D, .int .i64 p, .slice a es.length c] 31)) (w.heap.size + 1) 4 (.bool false) := by
    have := Boxed.new (w.alloc (.cells #[.int .i64 D, .int .i64 p, .slice a es.length c] 31)) 4 (.bool false)
    rw [World.size_alloc] at this
    exact this.alloc _
  have hk2 : (((w.alloc (.cells #[.int .i64 D, .int .i64 p, .slice a es.length c] 31)).alloc (.cells #[.bool false] 4)).alloc (.cells #[.int .i64 D, .int .i64 p, .slice a es.length c] 31)).heap[w.heap.size + 1 + 1]? = some (.cells #[.int .i64 D, .int .i64 p, .slice a es.length c] 31 (0, 0)) := by
    have := heap_alloc_new ((w.alloc (.cells #[.int .i64 D, .int .i64 p, .slice a es.length c] 31)).alloc (.cells #[.bool false] 4)) (.cells #[.int .i64 D, .int .i64 p, .slice a es.length c] 31)
    rw [World.size_alloc, World.size_alloc] at this
    exact this
  obtain ⟨w3, hw3⟩ : ∃ w3, (((w.alloc (.cells #[.int .i64 D, .int .i64 p, .slice a es.length c] 31)).alloc (.cells #[.bool false] 4)).alloc (.cells #[.int .i64 D, .int .i64 p, .slice a es.length c] 31)) = w3 := ⟨_, rfl⟩
  have hz3 : w3.heap.size = w.heap.size + 3 := by rw [← hw3]; simp
  rw [hw3] at hb3 hk0 hk1 hk2
  have HW3 := Lib.hid hw3
  have HINV : Hid (RtInv w D p a c es 0 w3) := ⟨Nat.zero_le _, fun i hi => absurd hi (by omega), hb3, hk0, hk1, hk2⟩
  have HEN : Hid (∀ W, Below w.heap.size w W → ∀ i, i < es.length → ∃ g off, a = some ⟨g, off, none⟩ ∧ EntAt W g (off + i * 4) (es[i]?.getD default)) := fun W hb i hi => by
    obtain ⟨g, off, ha, hg, h4⟩ := (hE.below hb).get hi
    exact ⟨g, off, ha, h4⟩
  have hlen : es.length ≤ 255 := by omega
  have HZ3 := Lib.hid hz3
  have HLEN := Lib.hid hlen
  clear hw3 hb3 hk0 hk1 hk2 hE hh hp0 hp1
  refine callsIn_of_wp_marks Try.func9 rfl trivial ?_ rfl
  simp only [Try.ntmps9, List.size_toArray, List.length_cons, List.length_nil, Nat.reduceAdd, Nat.reduceSub, Array.replicate_succ, Array.replicate_zero, List.push_toArray, List.append_toArray, List.nil_append, List.cons_append]
  gi_wp2_with (first
    | (gi_at_call 35; (with_reducible refine (HIP.out _).mono ?_); rintro e w' ⟨rfl, rfl⟩)
    | (gi_at_call 31; refine (all_in Fence.wide 2 trivial rfl _ _ _ _ _ _).mono ?_; rintro e w' ⟨rfl, rfl⟩))
  rw [HW3.out]
  clear HW3 h1 h2 h3 h5 hz3 hlen
  refine rangeFunc_inv (n := 3) (F := Fence.wide) rfl (by decide) (gf := 55) (lb := #[.pointer (some ⟨w.heap.size + 1 + 1, 0, none⟩)]) rfl trivial (enters_of Try.func55 (by kernel_rfl) rfl)
    (entEnc es) (fun _ => rfl) 53 (fun k => (es[k]?.getD default).cells) (fun k => k + 1) (fun k => k < es.length) 0 (RtInv w D p a c es)
    (fun W => (∃ i, i < es.length ∧ ¬ OkE D p es i) ∧ Below w.heap.size w W ∧ Boxed W (w.heap.size + 1) 4 (.bool false)) ?hbel ?hturn ?hstop ?hround ?h0 ?hcall ?hdone ?hleft
  case hbel => exact fun k W W' h hb => h.on hb
  case hturn =>
    intro k W o o' ho hc h
    have := HZ3.out
    exact h.put (by omega) ho
  case hstop =>
    rintro W o o' ho hc ⟨h1, h2, h3⟩
    have := HZ3.out
    exact ⟨h1, h2.trans ((bput_moves W _ o').below (fun j hj => by omega) h2.size), (World.putObj_heap_other (by omega)).trans h3⟩
  case h0 =>
    intro o ho
    exact HINV.out.on (((Below.refl _ w3).alloc (Nat.le_refl _) _).alloc (by simp) _)
  case hcall =>
    intro l J JS W0 hJI hJB hJ0 hY
    exact all1_inv 2 (by decide) l (w.heap.size + 1 + 1) a c es (by have := HLEN.out; omega) J JS W0 (fun k W hj => ⟨blk_cell (hJI _ _ hj).b2 2, HEN.out W (hJI _ _ hj).below⟩) hJB hJ0 hY
  case hdone =>
    rintro W k hm h hK
    obtain rfl : k = es.length := by have := h.le; omega
    have HR := Lib.hid (HYES.out h.ok)
    have hB1 := h.b1
    have hBl := h.below
    have c1 := hB1.cell
    have f1 := hB1.frozen
    clear h hm
    gi_wp2
    have hk := (KeepsOthers.setCell W ⟨w.heap.size + 1, 0, none⟩ (.bool true)).same _ _ hK rfl
    refine ⟨by simp, .inl ⟨_, _, rfl, run_takeDeferred hk, ?_⟩⟩
    have hq := KeepsAt.put (S := fun _ => True) (W.setCell ⟨w.heap.size + 1, 0, none⟩ (.bool true)) w3.heap.size _ (.deferred none) hk rfl
    have hcell := hq.cell trivial (hB1.set (.bool true)).cell
    have hBB : Below w.heap.size w (W.setCell ⟨w.heap.size + 1, 0, none⟩ (.bool true)) := hBl.setCell (p := ⟨w.heap.size + 1, 0, none⟩) (Nat.le_succ _) _
    refine ⟨_, right_res _ _ _ _ rfl hcell, true, rfl, ⟨fun _ => HR.out, fun _ => rfl⟩, hBB.trans ((bput_moves _ _ _).below (fun j hj => by have := HZ3.out; omega) hBB.size)⟩
  case hleft =>
    rintro W ⟨h1, h2, h3⟩ hK
    have HR := Lib.hid (HNO.out h1)
    clear h1
    gi_wp2
    refine ⟨by simp, .inl ⟨_, _, rfl, run_takeDeferred hK, ?_⟩⟩
    have hcell : (W.putObj w3.heap.size (.deferred none)).cell? ⟨w.heap.size + 1, 0, none⟩ = some (.bool false) := (World.cell?_of_block (w := W) (World.putObj_heap_other (show w.heap.size + 1 ≠ w3.heap.size by have := HZ3.out; omega))).trans h3.cell
    refine ⟨_, right_res _ _ _ _ rfl hcell, false, rfl, ⟨fun h => (by cases h), fun h => (HR.out h).elim⟩, h2.trans ((bput_moves _ _ _).below (fun j hj => by have := HZ3.out; omega) h2.size)⟩
  case hround =>
    apply Exists.intro
    apply And.intro
    · intro l k W b K hb hm hi hK
      clear hm hi
      unfold entEnc Ent.cells
      gi_wp2
      rw [← hb]
      exact hK
    · rintro l k b W hlt hI hbl hbk hwl
      have hbk : W.heap[b]? = some (.cells (es[k]?.getD default).cells 53 (0, 0)) := hbk
      have d0 : W.cell? ⟨w.heap.size, 0, none⟩ = some (.int .i64 D) := blk_cell hI.b0 0
      have d1 : W.cell? ⟨w.heap.size, 1, none⟩ = some (.int .i64 p) := blk_cell hI.b0 1
      have d2 : W.cell? ⟨w.heap.size, 2, none⟩ = some (.slice a es.length c) := blk_cell hI.b0 2
      have HIN := Lib.hid hI
      have HKL := Lib.hid hlt
      have HWL := Lib.hid hwl
      have HFAIL : Hid (∀ W', Below W.heap.size W W' → ¬ OkE D p es k → ((W'.setCell ⟨w.heap.size + 1, 0, none⟩ (.bool false)).heap[w3.heap.size + 1]? = W.heap[w3.heap.size + 1]? ∧ (W'.setCell ⟨w.heap.size + 1, 0, none⟩ (.bool false)).heap[w3.heap.size]? = W.heap[w3.heap.size]?) ∧ ((∃ i, i < es.length ∧ ¬ OkE D p es i) ∧ Below w.heap.size w (W'.setCell ⟨w.heap.size + 1, 0, none⟩ (.bool false)) ∧ Boxed (W'.setCell ⟨w.heap.size + 1, 0, none⟩ (.bool false)) (w.heap.size + 1) 4 (.bool false))) := fun W' hb hn => by
        have hz := HZ3.out
        have h2 := HIN.out.on hb
        refine ⟨⟨(Below.heap_setCell _ _ _ _ (by show w3.heap.size + 1 ≠ w.heap.size + 1; omega)).trans (hb.block _ (by omega)), (Below.heap_setCell _ _ _ _ (by show w3.heap.size ≠ w.heap.size + 1; omega)).trans (hb.block _ (by omega))⟩, ⟨k, HKL.out, hn⟩, h2.below.setCell (p := ⟨w.heap.size + 1, 0, none⟩) (Nat.le_succ _) _, h2.b1.set _⟩
      have HGO : Hid (∀ W', Below W.heap.size W W' → OkE D p es k → (W'.heap[w3.heap.size + 1]? = W.heap[w3.heap.size + 1]? ∧ W'.heap[w3.heap.size]? = W.heap[w3.heap.size]?) ∧ RtInv w D p a c es (k + 1) W') := fun W' hb ho =>
        ⟨⟨hb.block _ (by omega), hb.block _ (by omega)⟩, HKL.out, fun i hi => (by
          by_cases h : i = k
          · subst h; exact ho
          · exact HIN.out.ok i (by omega)), (HIN.out.on hb).below, (HIN.out.on hb).b0, (HIN.out.on hb).b1, (HIN.out.on hb).b2⟩
      have HPV : Hid (∀ i, k = i + 1 → ∃ g off, a = some ⟨g, off, none⟩ ∧ W.cell? ⟨g, off + i * 4, none⟩ = some (.int .u64 (U (es[i]?.getD default).hash))) := fun i hi => by
        obtain ⟨g, off, ha, e4⟩ := HEN.out W HIN.out.below i (by have := HKL.out; omega)
        exact ⟨g, off, ha, e4.1⟩
      obtain ⟨x, hx⟩ : ∃ x, (es[k]?.getD default) = x := ⟨_, rfl⟩
      rw [hx] at hbk
      have HOK : Hid (OkE D p es k ↔ x.may = true ∧ preI x.hash D = p ∧ (∀ i, k = i + 1 → U (es[i]?.getD default).hash < U x.hash)) := by
        subst hx
        constructor
        · rintro ⟨r0, r1, a0, a1, s0, s1, hp, ho⟩
          refine ⟨by unfold Ent.may; exact decide_eq_true ⟨⟨r0, r1⟩, ⟨a0, a1⟩, s0, s1⟩, hp, fun i hi => ?_⟩
          subst hi
          have := ho (Nat.succ_pos i)
          rwa [Nat.add_sub_cancel] at this
        · rintro ⟨hm, hp, ho⟩
          have hm : _ := of_decide_eq_true (show decide _ = true from hm)
          refine ⟨hm.1.1, hm.1.2, hm.2.1.1, hm.2.1.2, hm.2.2.1, hm.2.2.2, hp, fun h => ?_⟩
          obtain ⟨i, rfl⟩ : ∃ i, k = i + 1 := ⟨k - 1, by omega⟩
          rw [Nat.add_sub_cancel]
          exact ho i rfl
      have b0 : ∀ q : After W, q.v.cell? ⟨b, 0, none⟩ = some (.int .u64 (U x.hash)) := after_cell (blk_cell hbk 0)
      have b1 : ∀ q : After W, q.v.cell? ⟨b, 1, none⟩ = some (.int .i64 x.reg) := after_cell (blk_cell hbk 1)
      have b2 : ∀ q : After W, q.v.cell? ⟨b, 2, none⟩ = some (.int .i64 x.at_) := after_cell (blk_cell hbk 2)
      have b3 : ∀ q : After W, q.v.cell? ⟨b, 3, none⟩ = some (.int .i64 x.size) := after_cell (blk_cell hbk 3)
      have z2 : ∀ q : After W, q.v.cell? ⟨w.heap.size, 2, none⟩ = some (.slice a es.length c) := after_cell d2
      have HD0 := Lib.hid d0
      have HD1 := Lib.hid d1
      have HMAY := Lib.hid (fun (V : World) => lmay_any x V)
      have HPRE := Lib.hid (fun V => (prefix_any x.hash D V).mono (R' := fun e w' => e = .returned (.int .i64 (preI x.hash D)) ∧ Below V.heap.size V w') fun _ _ h => ⟨h.1, h.2 ▸ Below.refl _ _⟩)
      have HBX : Hid (∀ W', Below W.heap.size W W' → W'.cell? ⟨w.heap.size + 1, 0, none⟩ = some (.bool false) ∧ W'.frozen? ⟨w.heap.size + 1, 0, none⟩ = false) := fun W' hb => ⟨(HIN.out.on hb).b1.cell, (HIN.out.on hb).b1.frozen⟩
      have hord : k = 0 ∨ ∃ i g off, k = i + 1 ∧ a = some ⟨g, off, none⟩ ∧ W.cell? ⟨g, off + i * 4, none⟩ = some (.int .u64 (U (es[i]?.getD default).hash)) ∧ (i : Int) < es.length := by
        by_cases h : k = 0
        · exact .inl h
        · obtain ⟨i, rfl⟩ : ∃ i, k = i + 1 := ⟨k - 1, by omega⟩
          obtain ⟨g, off, ha, hc⟩ := HPV.out i rfl
          exact .inr ⟨i, g, off, rfl, ha, hc, by omega⟩
      have hpc : x.may = false ∨ (x.may = true ∧ preI x.hash D ≠ p) ∨ (x.may = true ∧ preI x.hash D = p) := by
        cases hm : x.may with
        | false => exact .inl rfl
        | true =>
          by_cases hp : preI x.hash D = p
          · exact .inr (.inr ⟨rfl, hp⟩)
          · exact .inr (.inl ⟨rfl, hp⟩)
      clear hx hbk hbl hlt hI hwl d0 d1 d2 HPV
      rcases hord with rfl | ⟨i, g, off, rfl, rfl, hpcell, hil⟩
      · rcases hpc with hm | ⟨hm, hp⟩ | ⟨hm, hp⟩
        · rw [hm] at HMAY
          have HMM := Lib.hid hm
          clear hm
          gi_wp2
          refine wpIn_region_round (by kernel_rfl) (by kernel_rfl) (by kernel_rfl) ?_
          repeat (gi_big_quiet_step (fail))
          refine wpQuietIn_nil ?_
          rintro W9 ⟨⟨_, hW9⟩, rfl⟩
          have g0 : ∀ q : After W9, q.v.cell? ⟨b, 0, none⟩ = some (.int .u64 (U x.hash)) := fun q => b0 ⟨q.v, hW9.trans (q.h.mono hW9.size)⟩
          have g1 : ∀ q : After W9, q.v.cell? ⟨b, 1, none⟩ = some (.int .i64 x.reg) := fun q => b1 ⟨q.v, hW9.trans (q.h.mono hW9.size)⟩
          have g2 : ∀ q : After W9, q.v.cell? ⟨b, 2, none⟩ = some (.int .i64 x.at_) := fun q => b2 ⟨q.v, hW9.trans (q.h.mono hW9.size)⟩
          have g3 : ∀ q : After W9, q.v.cell? ⟨b, 3, none⟩ = some (.int .i64 x.size) := fun q => b3 ⟨q.v, hW9.trans (q.h.mono hW9.size)⟩
          have e0 : ∀ q : After W9, q.v.cell? ⟨w.heap.size, 0, none⟩ = some (.int .i64 D) := fun q => after_cell HD0.out ⟨q.v, hW9.trans (q.h.mono hW9.size)⟩
          have e1 : ∀ q : After W9, q.v.cell? ⟨w.heap.size, 1, none⟩ = some (.int .i64 p) := fun q => after_cell HD1.out ⟨q.v, hW9.trans (q.h.mono hW9.size)⟩
          have HW9 := Lib.hid hW9
          clear hW9 b0 b1 b2 b3 z2
          gi_wp2
          refine wpIn_region_round (by kernel_rfl) (by kernel_rfl) (by kernel_rfl) ?_
          repeat (gi_big_quiet_step ((first | (gi_at_call 36; exact after_callIn (CallsIn.inRound l (callsIn_wide.2 (HMAY.out _)))) | (gi_at_call 37; exact after_callIn (CallsIn.inRound l (callsIn_wide.2 (HPRE.out _)))))))
          refine wpQuietIn_nil ?_
          rintro W10 ⟨⟨_, hW10⟩, rfl⟩
          have hA := HW9.out.trans (hW10.mono HW9.out.size)
          have HA := Lib.hid hA
          obtain ⟨cB, fB⟩ := HBX.out _ hA
          clear hW10 hA g0 g1 g2 g3 e0 e1
          gi_wp2
          exact HFAIL.out _ HA.out (fun h => by have := (HOK.out.1 h).1; rw [HMM.out] at this; cases this)
        · rw [hm] at HMAY
          have hpn : (preI x.hash D != p) = true := bne_iff_ne.2 hp
          have HP := Lib.hid hp
          clear hm hp
          gi_wp2
          refine wpIn_region_round (by kernel_rfl) (by kernel_rfl) (by kernel_rfl) ?_
          repeat (gi_big_quiet_step (fail))
          refine wpQuietIn_nil ?_
          rintro W9 ⟨⟨_, hW9⟩, rfl⟩
          have g0 : ∀ q : After W9, q.v.cell? ⟨b, 0, none⟩ = some (.int .u64 (U x.hash)) := fun q => b0 ⟨q.v, hW9.trans (q.h.mono hW9.size)⟩
          have g1 : ∀ q : After W9, q.v.cell? ⟨b, 1, none⟩ = some (.int .i64 x.reg) := fun q => b1 ⟨q.v, hW9.trans (q.h.mono hW9.size)⟩
          have g2 : ∀ q : After W9, q.v.cell? ⟨b, 2, none⟩ = some (.int .i64 x.at_) := fun q => b2 ⟨q.v, hW9.trans (q.h.mono hW9.size)⟩
          have g3 : ∀ q : After W9, q.v.cell? ⟨b, 3, none⟩ = some (.int .i64 x.size) := fun q => b3 ⟨q.v, hW9.trans (q.h.mono hW9.size)⟩
          have e0 : ∀ q : After W9, q.v.cell? ⟨w.heap.size, 0, none⟩ = some (.int .i64 D) := fun q => after_cell HD0.out ⟨q.v, hW9.trans (q.h.mono hW9.size)⟩
          have e1 : ∀ q : After W9, q.v.cell? ⟨w.heap.size, 1, none⟩ = some (.int .i64 p) := fun q => after_cell HD1.out ⟨q.v, hW9.trans (q.h.mono hW9.size)⟩
          have HW9 := Lib.hid hW9
          clear hW9 b0 b1 b2 b3 z2
          gi_wp2
          refine wpIn_region_round (by kernel_rfl) (by kernel_rfl) (by kernel_rfl) ?_
          repeat (gi_big_quiet_step ((first | (gi_at_call 36; exact after_callIn (CallsIn.inRound l (callsIn_wide.2 (HMAY.out _)))) | (gi_at_call 37; exact after_callIn (CallsIn.inRound l (callsIn_wide.2 (HPRE.out _)))))))
          refine wpQuietIn_nil ?_
          rintro W10 ⟨⟨_, hW10⟩, rfl⟩
          have hA := HW9.out.trans (hW10.mono HW9.out.size)
          have HA := Lib.hid hA
          obtain ⟨cB, fB⟩ := HBX.out _ hA
          clear hW10 hA g0 g1 g2 g3 e0 e1
          gi_wp2
          exact HFAIL.out _ HA.out (fun h => HP.out (HOK.out.1 h).2.1)
        · have HMM := Lib.hid hm
          have HP := Lib.hid hp
          rw [hm] at HMAY
          rw [hp] at HPRE
          have hpn : (p != p) = false := bne_self_eq_false p
          clear hm hp
          gi_wp2
          refine wpIn_region_round (by kernel_rfl) (by kernel_rfl) (by kernel_rfl) ?_
          repeat (gi_big_quiet_step (fail))
          refine wpQuietIn_nil ?_
          rintro W9 ⟨⟨_, hW9⟩, rfl⟩
          have g0 : ∀ q : After W9, q.v.cell? ⟨b, 0, none⟩ = some (.int .u64 (U x.hash)) := fun q => b0 ⟨q.v, hW9.trans (q.h.mono hW9.size)⟩
          have g1 : ∀ q : After W9, q.v.cell? ⟨b, 1, none⟩ = some (.int .i64 x.reg) := fun q => b1 ⟨q.v, hW9.trans (q.h.mono hW9.size)⟩
          have g2 : ∀ q : After W9, q.v.cell? ⟨b, 2, none⟩ = some (.int .i64 x.at_) := fun q => b2 ⟨q.v, hW9.trans (q.h.mono hW9.size)⟩
          have g3 : ∀ q : After W9, q.v.cell? ⟨b, 3, none⟩ = some (.int .i64 x.size) := fun q => b3 ⟨q.v, hW9.trans (q.h.mono hW9.size)⟩
          have e0 : ∀ q : After W9, q.v.cell? ⟨w.heap.size, 0, none⟩ = some (.int .i64 D) := fun q => after_cell HD0.out ⟨q.v, hW9.trans (q.h.mono hW9.size)⟩
          have e1 : ∀ q : After W9, q.v.cell? ⟨w.heap.size, 1, none⟩ = some (.int .i64 p) := fun q => after_cell HD1.out ⟨q.v, hW9.trans (q.h.mono hW9.size)⟩
          have HW9 := Lib.hid hW9
          clear hW9 b0 b1 b2 b3 z2
          gi_wp2
          refine wpIn_region_round (by kernel_rfl) (by kernel_rfl) (by kernel_rfl) ?_
          repeat (gi_big_quiet_step ((first | (gi_at_call 36; exact after_callIn (CallsIn.inRound l (callsIn_wide.2 (HMAY.out _)))) | (gi_at_call 37; exact after_callIn (CallsIn.inRound l (callsIn_wide.2 (HPRE.out _)))))))
          refine wpQuietIn_nil ?_
          rintro W10 ⟨⟨_, hW10⟩, rfl⟩
          have hA := HW9.out.trans (hW10.mono HW9.out.size)
          have HA := Lib.hid hA
          obtain ⟨cB, fB⟩ := HBX.out _ hA
          clear hW10 hA g0 g1 g2 g3 e0 e1
          gi_wp2
          exact HGO.out _ HA.out (HOK.out.2 ⟨HMM.out, HP.out, fun i hi => absurd hi (by omega)⟩)
      · have pv : ∀ q : After W, q.v.cell? ⟨g, off + i * 4, none⟩ = some (.int .u64 (U (es[i]?.getD default).hash)) := after_cell hpcell
        obtain ⟨y, hy⟩ : ∃ y, (es[i]?.getD default).hash = y := ⟨_, rfl⟩
        rw [hy] at pv
        have HOK2 : Hid (OkE D p es (i + 1) → U y < U x.hash) := fun h => by
          have := (HOK.out.1 h).2.2 i rfl
          rwa [hy] at this
        have HOK3 : Hid (U y < U x.hash → ∀ j, i + 1 = j + 1 → U (es[j]?.getD default).hash < U x.hash) := fun h j hj => by
          obtain rfl : i = j := by omega
          rw [hy]; exact h
        have w1 : wrap64 (((i : Int) + 1) - 1) = i := by rw [Int.add_sub_cancel]; exact IntWalk.wrap64_in _ ⟨by omega, by omega⟩
        have hz : (((i : Int) + 1) == 0) = false := beq_eq_false_iff_ne.2 (by omega)
        have w2 : wrap64 (i : Int) = i := IntWalk.wrap64_in _ ⟨by omega, by omega⟩
        clear hpcell hy
        by_cases hplt : U y < U x.hash
        · have HPL := Lib.hid hplt
          rcases hpc with hm | ⟨hm, hp⟩ | ⟨hm, hp⟩
          · rw [hm] at HMAY
            have HMM := Lib.hid hm
            clear hm
            gi_wp2
            refine wpIn_region_round (by kernel_rfl) (by kernel_rfl) (by kernel_rfl) ?_
            repeat (gi_big_quiet_step (fail))
            refine wpQuietIn_nil ?_
            rintro W9 ⟨⟨_, hW9⟩, rfl⟩
            have g0 : ∀ q : After W9, q.v.cell? ⟨b, 0, none⟩ = some (.int .u64 (U x.hash)) := fun q => b0 ⟨q.v, hW9.trans (q.h.mono hW9.size)⟩
            have g1 : ∀ q : After W9, q.v.cell? ⟨b, 1, none⟩ = some (.int .i64 x.reg) := fun q => b1 ⟨q.v, hW9.trans (q.h.mono hW9.size)⟩
            have g2 : ∀ q : After W9, q.v.cell? ⟨b, 2, none⟩ = some (.int .i64 x.at_) := fun q => b2 ⟨q.v, hW9.trans (q.h.mono hW9.size)⟩
            have g3 : ∀ q : After W9, q.v.cell? ⟨b, 3, none⟩ = some (.int .i64 x.size) := fun q => b3 ⟨q.v, hW9.trans (q.h.mono hW9.size)⟩
            have e0 : ∀ q : After W9, q.v.cell? ⟨w.heap.size, 0, none⟩ = some (.int .i64 D) := fun q => after_cell HD0.out ⟨q.v, hW9.trans (q.h.mono hW9.size)⟩
            have e1 : ∀ q : After W9, q.v.cell? ⟨w.heap.size, 1, none⟩ = some (.int .i64 p) := fun q => after_cell HD1.out ⟨q.v, hW9.trans (q.h.mono hW9.size)⟩
            have HW9 := Lib.hid hW9
            clear hW9 b0 b1 b2 b3 z2 pv
            gi_wp2
            refine wpIn_region_round (by kernel_rfl) (by kernel_rfl) (by kernel_rfl) ?_
            repeat (gi_big_quiet_step ((first | (gi_at_call 36; exact after_callIn (CallsIn.inRound l (callsIn_wide.2 (HMAY.out _)))) | (gi_at_call 37; exact after_callIn (CallsIn.inRound l (callsIn_wide.2 (HPRE.out _)))))))
            refine wpQuietIn_nil ?_
            rintro W10 ⟨⟨_, hW10⟩, rfl⟩
            have hA := HW9.out.trans (hW10.mono HW9.out.size)
            have HA := Lib.hid hA
            obtain ⟨cB, fB⟩ := HBX.out _ hA
            clear hW10 hA g0 g1 g2 g3 e0 e1
            gi_wp2
            exact HFAIL.out _ HA.out (fun h => by have := (HOK.out.1 h).1; rw [HMM.out] at this; cases this)
          · rw [hm] at HMAY
            have hpn : (preI x.hash D != p) = true := bne_iff_ne.2 hp
            have HP := Lib.hid hp
            clear hm hp
            gi_wp2
            refine wpIn_region_round (by kernel_rfl) (by kernel_rfl) (by kernel_rfl) ?_
            repeat (gi_big_quiet_step (fail))
            refine wpQuietIn_nil ?_
            rintro W9 ⟨⟨_, hW9⟩, rfl⟩
            have g0 : ∀ q : After W9, q.v.cell? ⟨b, 0, none⟩ = some (.int .u64 (U x.hash)) := fun q => b0 ⟨q.v, hW9.trans (q.h.mono hW9.size)⟩
            have g1 : ∀ q : After W9, q.v.cell? ⟨b, 1, none⟩ = some (.int .i64 x.reg) := fun q => b1 ⟨q.v, hW9.trans (q.h.mono hW9.size)⟩
            have g2 : ∀ q : After W9, q.v.cell? ⟨b, 2, none⟩ = some (.int .i64 x.at_) := fun q => b2 ⟨q.v, hW9.trans (q.h.mono hW9.size)⟩
            have g3 : ∀ q : After W9, q.v.cell? ⟨b, 3, none⟩ = some (.int .i64 x.size) := fun q => b3 ⟨q.v, hW9.trans (q.h.mono hW9.size)⟩
            have e0 : ∀ q : After W9, q.v.cell? ⟨w.heap.size, 0, none⟩ = some (.int .i64 D) := fun q => after_cell HD0.out ⟨q.v, hW9.trans (q.h.mono hW9.size)⟩
            have e1 : ∀ q : After W9, q.v.cell? ⟨w.heap.size, 1, none⟩ = some (.int .i64 p) := fun q => after_cell HD1.out ⟨q.v, hW9.trans (q.h.mono hW9.size)⟩
            have HW9 := Lib.hid hW9
            clear hW9 b0 b1 b2 b3 z2 pv
            gi_wp2
            refine wpIn_region_round (by kernel_rfl) (by kernel_rfl) (by kernel_rfl) ?_
            repeat (gi_big_quiet_step ((first | (gi_at_call 36; exact after_callIn (CallsIn.inRound l (callsIn_wide.2 (HMAY.out _)))) | (gi_at_call 37; exact after_callIn (CallsIn.inRound l (callsIn_wide.2 (HPRE.out _)))))))
            refine wpQuietIn_nil ?_
            rintro W10 ⟨⟨_, hW10⟩, rfl⟩
            have hA := HW9.out.trans (hW10.mono HW9.out.size)
            have HA := Lib.hid hA
            obtain ⟨cB, fB⟩ := HBX.out _ hA
            clear hW10 hA g0 g1 g2 g3 e0 e1
            gi_wp2
            exact HFAIL.out _ HA.out (fun h => HP.out (HOK.out.1 h).2.1)
          · have HMM := Lib.hid hm
            have HP := Lib.hid hp
            rw [hm] at HMAY
            rw [hp] at HPRE
            have hpn : (p != p) = false := bne_self_eq_false p
            clear hm hp
            gi_wp2
            refine wpIn_region_round (by kernel_rfl) (by kernel_rfl) (by kernel_rfl) ?_
            repeat (gi_big_quiet_step (fail))
            refine wpQuietIn_nil ?_
            rintro W9 ⟨⟨_, hW9⟩, rfl⟩
            have g0 : ∀ q : After W9, q.v.cell? ⟨b, 0, none⟩ = some (.int .u64 (U x.hash)) := fun q => b0 ⟨q.v, hW9.trans (q.h.mono hW9.size)⟩
            have g1 : ∀ q : After W9, q.v.cell? ⟨b, 1, none⟩ = some (.int .i64 x.reg) := fun q => b1 ⟨q.v, hW9.trans (q.h.mono hW9.size)⟩
            have g2 : ∀ q : After W9, q.v.cell? ⟨b, 2, none⟩ = some (.int .i64 x.at_) := fun q => b2 ⟨q.v, hW9.trans (q.h.mono hW9.size)⟩
            have g3 : ∀ q : After W9, q.v.cell? ⟨b, 3, none⟩ = some (.int .i64 x.size) := fun q => b3 ⟨q.v, hW9.trans (q.h.mono hW9.size)⟩
            have e0 : ∀ q : After W9, q.v.cell? ⟨w.heap.size, 0, none⟩ = some (.int .i64 D) := fun q => after_cell HD0.out ⟨q.v, hW9.trans (q.h.mono hW9.size)⟩
            have e1 : ∀ q : After W9, q.v.cell? ⟨w.heap.size, 1, none⟩ = some (.int .i64 p) := fun q => after_cell HD1.out ⟨q.v, hW9.trans (q.h.mono hW9.size)⟩
            have HW9 := Lib.hid hW9
            clear hW9 b0 b1 b2 b3 z2 pv
            gi_wp2
            refine wpIn_region_round (by kernel_rfl) (by kernel_rfl) (by kernel_rfl) ?_
            repeat (gi_big_quiet_step ((first | (gi_at_call 36; exact after_callIn (CallsIn.inRound l (callsIn_wide.2 (HMAY.out _)))) | (gi_at_call 37; exact after_callIn (CallsIn.inRound l (callsIn_wide.2 (HPRE.out _)))))))
            refine wpQuietIn_nil ?_
            rintro W10 ⟨⟨_, hW10⟩, rfl⟩
            have hA := HW9.out.trans (hW10.mono HW9.out.size)
            have HA := Lib.hid hA
            obtain ⟨cB, fB⟩ := HBX.out _ hA
            clear hW10 hA g0 g1 g2 g3 e0 e1
            gi_wp2
            exact HGO.out _ HA.out (HOK.out.2 ⟨HMM.out, HP.out, HOK3.out HPL.out⟩)
        · have hpd : decide (U y < U x.hash) = false := decide_eq_false hplt
          have HPL := Lib.hid hplt
          gi_wp2
          refine wpIn_region_round (by kernel_rfl) (by kernel_rfl) (by kernel_rfl) ?_
          repeat (gi_big_quiet_step (fail))
          refine wpQuietIn_nil ?_
          rintro W9 ⟨⟨_, hW9⟩, rfl⟩
          have g0 : ∀ q : After W9, q.v.cell? ⟨b, 0, none⟩ = some (.int .u64 (U x.hash)) := fun q => b0 ⟨q.v, hW9.trans (q.h.mono hW9.size)⟩
          have g1 : ∀ q : After W9, q.v.cell? ⟨b, 1, none⟩ = some (.int .i64 x.reg) := fun q => b1 ⟨q.v, hW9.trans (q.h.mono hW9.size)⟩
          have g2 : ∀ q : After W9, q.v.cell? ⟨b, 2, none⟩ = some (.int .i64 x.at_) := fun q => b2 ⟨q.v, hW9.trans (q.h.mono hW9.size)⟩
          have g3 : ∀ q : After W9, q.v.cell? ⟨b, 3, none⟩ = some (.int .i64 x.size) := fun q => b3 ⟨q.v, hW9.trans (q.h.mono hW9.size)⟩
          have e0 : ∀ q : After W9, q.v.cell? ⟨w.heap.size, 0, none⟩ = some (.int .i64 D) := fun q => after_cell HD0.out ⟨q.v, hW9.trans (q.h.mono hW9.size)⟩
          have e1 : ∀ q : After W9, q.v.cell? ⟨w.heap.size, 1, none⟩ = some (.int .i64 p) := fun q => after_cell HD1.out ⟨q.v, hW9.trans (q.h.mono hW9.size)⟩
          have HW9 := Lib.hid hW9
          clear hW9 b0 b1 b2 b3 z2 pv
          gi_wp2
          refine wpIn_region_round (by kernel_rfl) (by kernel_rfl) (by kernel_rfl) ?_
          repeat (gi_big_quiet_step ((first | (gi_at_call 36; exact after_callIn (CallsIn.inRound l (callsIn_wide.2 (HMAY.out _)))) | (gi_at_call 37; exact after_callIn (CallsIn.inRound l (callsIn_wide.2 (HPRE.out _)))))))
          refine wpQuietIn_nil ?_
          rintro W10 ⟨⟨_, hW10⟩, rfl⟩
          have hA := HW9.out.trans (hW10.mono HW9.out.size)
          have HA := Lib.hid hA
          obtain ⟨cB, fB⟩ := HBX.out _ hA
          clear hW10 hA g0 g1 g2 g3 e0 e1
          gi_wp2
          exact HFAIL.out _ HA.out (fun h => by have h1 := HOK2.out h; have h2 := HPL.out; omega)
theorem right_any (d p s : Int) (a : Option Addr) (m c : Nat) (es : List Ent) (w : World) (hE : EntsAt w.heap.size w (.slice a m c) es) :
    Calls Try.prog 9 #[.agg #[.int .i64 d, .int .i64 p, .slice a m c], .int .i64 s] w (RightRet d p s es w) := by
  obtain ⟨_, _, e0, hc0⟩ := hE.slice
  cases e0
  by_cases hh : Head14 d p s es.length ∧ 0 ≤ p ∧ p < 2 ^ d.toNat
  · exact callsIn_wide.1 (rightB_in d p s a c es w hE hh.1 hh.2.1 hh.2.2)
  · have HN : Hid (¬ Right14 d p s es) := fun h => hh ⟨h.head, h.p0, h.p1⟩
    have HB : Hid (∀ W, ((w.alloc (.cells #[.int .i64 d, .int .i64 p, .slice a es.length c] 31)).alloc (.cells #[.bool false] 4)) = W → RightRet d p s es w (.returned (.bool false)) W) := fun W hW => by
      subst hW
      exact ⟨false, rfl, ⟨fun h => (by cases h), fun h => (HN.out h).elim⟩, ((Below.refl _ w).alloc (Nat.le_refl _) _).alloc (by simp) _⟩
    have HCB : Hid (∀ W, ((w.alloc (.cells #[.int .i64 d, .int .i64 p, .slice a es.length c] 31)).alloc (.cells #[.bool false] 4)) = W → W.cell? ⟨w.heap.size + 1, 0, none⟩ = some (.bool false)) := fun W hW => by
      subst hW
      have := Boxed.new (w.alloc (.cells #[.int .i64 d, .int .i64 p, .slice a es.length c] 31)) 4 (.bool false)
      rw [World.size_alloc] at this
      exact this.cell
    have hd : s < 1 ∨ 255 < s ∨ s < es.length ∨ (1 ≤ s ∧ s ≤ 255 ∧ es.length ≤ s ∧ ¬ ((0 ≤ d ∧ d ≤ 8) ∧ 0 ≤ p ∧ p < 2 ^ d.toNat)) := by
      by_cases h1 : s < 1
      · exact .inl h1
      by_cases h2 : 255 < s
      · exact .inr (.inl h2)
      by_cases h3 : s < es.length
      · exact .inr (.inr (.inl h3))
      exact .inr (.inr (.inr ⟨by omega, by omega, by omega, fun h => hh ⟨⟨by omega, by omega, by omega, h.1.1, h.1.2⟩, h.2.1, h.2.2⟩⟩))
    clear hh hE
    rcases hd with h1 | h2 | h3 | ⟨h1, h2, h3, h4⟩
    · go_enter Try.func9, Try.ntmps9
      go_wp2
      exact bodyPost_ret (right_res _ (w.heap.size + 1) (.bool false) _ rfl (HCB.out _ rfl)) rfl (HB.out _ rfl)
    · have h1 : ¬ s < 1 := by omega
      go_enter Try.func9, Try.ntmps9
      go_wp2
      exact bodyPost_ret (right_res _ (w.heap.size + 1) (.bool false) _ rfl (HCB.out _ rfl)) rfl (HB.out _ rfl)
    · by_cases h1 : s < 1
      · go_enter Try.func9, Try.ntmps9
        go_wp2
        exact bodyPost_ret (right_res _ (w.heap.size + 1) (.bool false) _ rfl (HCB.out _ rfl)) rfl (HB.out _ rfl)
      by_cases h2 : 255 < s
      · go_enter Try.func9, Try.ntmps9
        go_wp2
        exact bodyPost_ret (right_res _ (w.heap.size + 1) (.bool false) _ rfl (HCB.out _ rfl)) rfl (HB.out _ rfl)
      go_enter Try.func9, Try.ntmps9
      go_wp2
      exact bodyPost_ret (right_res _ (w.heap.size + 1) (.bool false) _ rfl (HCB.out _ rfl)) rfl (HB.out _ rfl)
    · have HIP := Lib.hid (fun W => isPrefix_no p d h4 W)
      clear h4
      go_enter Try.func9, Try.ntmps9
      go_wp2_with (go_at_call 35; (with_reducible refine (HIP.out _).mono ?_); rintro e w' ⟨rfl, rfl⟩)
      exact bodyPost_ret (right_res _ (w.heap.size + 1) (.bool false) _ rfl (HCB.out _ rfl)) rfl (HB.out _ rfl)
end Go.Proofs.Ytlpfjmahinfeoaa

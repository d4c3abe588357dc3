/-
  bucket: Right, where the answer is yes.
  Conditions: none.
-/
import Derived.Test.YtlpfjmahinfeoaaRight1
import Derived.Test.YtlpfjmahinfeoaaBkt1F
import Derived.Test.YtlpfjmahinfeoaaQuietR
namespace Go.Proofs.Ytlpfjmahinfeoaa
open Go.RowKit Go.Shelf
attribute [local go_sem] Oper.semAt_some

theorem right_res (w : World) (b1 : Nat) (v : Value) (tmps : Array Value) (h4 : tmps.getD 4 undef = .pointer (some ⟨b1, 0, none⟩)) (ha : w.cell? ⟨b1, 0, none⟩ = some v) :
    (results Try.f9 tmps).run Try.prog w = .ok v w := by
  have h4' : tmps[4]?.getD undef = .pointer (some ⟨b1, 0, none⟩) := by simpa using h4
  simp [results, Try.results9, h4', go_sem, ha]
set_option maxRecDepth 100000 in
set_option maxHeartbeats 8000000 in
theorem right_in (d p s : Int) (a : Option Addr) (c : Nat) (es : List Ent) (w : World) (hE : EntsAt w.heap.size w (.slice a es.length c) es) (hR : Right14 d p s es) :
    CallsIn Fence.wide 3 Try.prog 9 #[.agg #[.int .i64 d, .int .i64 p, .slice a es.length c], .int .i64 s] w fun e W' => e = .returned (.bool true) ∧ Below w.heap.size w W' := by
  obtain ⟨D, hD⟩ := Int.eq_ofNat_of_zero_le hR.head.d0
  subst hD
  have h1 := hR.head.s1
  have h2 := hR.head.s2
  have h3 := hR.head.len
  have h5 := hR.head.d1
  have HIP := Lib.hid (fun W => callsIn_wide (n := 2).2 (isPrefix_yes p D (by omega) hR.p0 (by have := hR.p1; simpa using this) W))
  have t1 : Fence.wide.fn 35 := trivial
  have t2 : Fence.wide.fn 31 := trivial
  have HOK := Lib.hid hR.all
  have hb3 : Below w.heap.size w (((w.alloc (.cells #[.int .i64 D, .int .i64 p, .slice a es.length c] 31)).alloc (.cells #[.bool false] 4)).alloc (.cells #[.int .i64 D, .int .i64 p, .slice a es.length c] 31)) := (((Below.refl _ w).alloc (Nat.le_refl _) _).alloc (by simp) _).alloc (by simp; omega) _
  have hk0 : (((w.alloc (.cells #[.int .i64 D, .int .i64 p, .slice a es.length c] 31)).alloc (.cells #[.bool false] 4)).alloc (.cells #[.int .i64 D, .int .i64 p, .slice a es.length c] 31)).heap[w.heap.size]? = some (.cells #[.int .i64 D, .int .i64 p, .slice a es.length c] 31 (0, 0)) := blk_alloc (blk_alloc (heap_alloc_new _ _) _) _
  have hk1 : Boxed (((w.alloc (.cells #[.int .i64 D, .int .i64 p, .slice a es.length c] 31)).alloc (.cells #[.bool false] 4)).alloc (.cells #[.int .i64 D, .int .i64 p, .slice a es.length c] 31)) (w.heap.size + 1) 4 (.bool false) := by
    have := Boxed.new (w.alloc (.cells #[.int .i64 D, .int .i64 p, .slice a es.length c] 31)) 4 (.bool false)
    rw [World.size_alloc] at this
    exact this.alloc _
  have hk2 : (((w.alloc (.cells #[.int .i64 D, .int .i64 p, .slice a es.length c] 31)).alloc (.cells #[.bool false] 4)).alloc (.cells #[.int .i64 D, .int .i64 p, .slice a es.length c] 31)).heap[w.heap.size + 2]? = some (.cells #[.int .i64 D, .int .i64 p, .slice a es.length c] 31 (0, 0)) := by
    have := heap_alloc_new ((w.alloc (.cells #[.int .i64 D, .int .i64 p, .slice a es.length c] 31)).alloc (.cells #[.bool false] 4)) (.cells #[.int .i64 D, .int .i64 p, .slice a es.length c] 31)
    rw [World.size_alloc, World.size_alloc] at this
    exact this
  obtain ⟨w3, hw3⟩ : ∃ w3, (((w.alloc (.cells #[.int .i64 D, .int .i64 p, .slice a es.length c] 31)).alloc (.cells #[.bool false] 4)).alloc (.cells #[.int .i64 D, .int .i64 p, .slice a es.length c] 31)) = w3 := ⟨_, rfl⟩
  have hz3 : w3.heap.size = w.heap.size + 3 := by rw [← hw3]; simp
  rw [hw3] at hb3 hk0 hk1 hk2
  have HW3 := Lib.hid hw3
  have HB3 := Lib.hid hb3
  have HE3 := Lib.hid (hE.next hb3)
  have hlen : es.length ≤ 255 := by omega
  clear hw3 hb3 hE hR
  refine callsIn_of_wp_marks Try.func9 rfl trivial ?_ rfl
  simp only [Try.ntmps9, List.size_toArray, List.length_cons, List.length_nil, Nat.reduceAdd, Nat.reduceSub, Array.replicate_succ, Array.replicate_zero, List.push_toArray, List.append_toArray, List.nil_append, List.cons_append]
  gi_wp2_with (first
    | (gi_at_call 35; (with_reducible refine (HIP.out _).mono ?_); rintro e w' ⟨rfl, rfl⟩)
    | (gi_at_call 31; refine (all_in Fence.wide 2 trivial rfl _ _ _ _ _ _).mono ?_; rintro e w' ⟨rfl, rfl⟩))
  rw [HW3.out]
  have hs3 : w.heap.size ≤ w3.heap.size := by omega
  refine rangeFunc_boxed rfl (by decide) (gf := 55) (lb := #[.pointer (some ⟨w.heap.size + 1 + 1, 0, none⟩)]) rfl trivial (enters_of Try.func55 (by kernel_rfl) rfl)
    (all_stopsF Fence.wide 2 trivial rfl (by decide) (w.heap.size + 1 + 1) (fun k => k < w3.heap.size) es D p a c (by omega) w3 w3.heap.size (fun _ h => h) hk2 HE3.out (Nat.le_refl _)) keepsAt_t keepsAt_b (Below.refl _ _) (fun _ => rfl)
    (fun _ W => Below w3.heap.size w3 W) (fun _ _ _ => False)
    (ownFrom_below (Nat.le_refl _) (Nat.le_refl _)) (fun _ _ _ _ _ hs _ _ => hs) (Below.refl _ _)
    53 (fun x : At es.length => (es[x.v]?.getD default).cells) (fun _ _ h => h.size) (fun W o => KeepsAt.alloc W o) ?round ?done ?stop
  case round =>
    apply Exists.intro
    apply And.intro
    · intro l x W b K hb hK
      unfold Ent.cells
      gi_wp2
      rw [← hb]
      exact hK
    · rintro l pre ⟨k, hk⟩ b W hB hbl hbk hlt
      have hbk : W.heap[b]? = some (.cells (es[k]?.getD default).cells 53 (0, 0)) := hbk
      have HKX := Lib.hid (HOK.out k hk)
      have d0 : W.cell? ⟨w.heap.size, 0, none⟩ = some (.int .i64 D) := (hB.cell (p := ⟨w.heap.size, 0, none⟩) (blk_lt hk0)).trans (blk_cell hk0 0)
      have d1 : W.cell? ⟨w.heap.size, 1, none⟩ = some (.int .i64 p) := (hB.cell (p := ⟨w.heap.size, 1, none⟩) (blk_lt hk0)).trans (blk_cell hk0 1)
      have d2 : W.cell? ⟨w.heap.size, 2, none⟩ = some (.slice a es.length c) := (hB.cell (p := ⟨w.heap.size, 2, none⟩) (blk_lt hk0)).trans (blk_cell hk0 2)
      have HPV : Hid (∀ i, k = i + 1 → ∃ g off, a = some ⟨g, off, none⟩ ∧ W.cell? ⟨g, off + i * 4, none⟩ = some (.int .u64 (U (es[i]?.getD default).hash))) := fun i hi => by
        obtain ⟨g, off, ha, hg, e4⟩ := HE3.out.get (show i < es.length by omega)
        exact ⟨g, off, ha, (hB.cell (p := ⟨g, _, none⟩) hg).trans e4.1⟩
      have HF : Hid (∀ x, (es[k]?.getD default) = x → (0 ≤ x.reg ∧ x.reg ≤ 1099511627776 ∧ 0 ≤ x.at_ ∧ x.at_ ≤ 65535 ∧ 0 ≤ x.size ∧ x.size ≤ 65535) ∧ preI x.hash D = p ∧ ∀ i, k = i + 1 → U (es[i]?.getD default).hash < U x.hash) := fun x hx => by
        subst hx
        exact ⟨⟨HKX.out.r0, HKX.out.r1, HKX.out.a0, HKX.out.a1, HKX.out.s0, HKX.out.s1⟩, HKX.out.pre, fun i hi => by
          subst hi
          have := HKX.out.ord (Nat.succ_pos i)
          rwa [Nat.add_sub_cancel] at this⟩
      obtain ⟨x, hx⟩ : ∃ x, (es[k]?.getD default) = x := ⟨_, rfl⟩
      rw [hx] at hbk
      have HFX := Lib.hid (HF.out x hx)
      have b0 : ∀ q : After W, q.v.cell? ⟨b, 0, none⟩ = some (.int .u64 (U x.hash)) := after_cell (blk_cell hbk 0)
      have b1 : ∀ q : After W, q.v.cell? ⟨b, 1, none⟩ = some (.int .i64 x.reg) := after_cell (blk_cell hbk 1)
      have b2 : ∀ q : After W, q.v.cell? ⟨b, 2, none⟩ = some (.int .i64 x.at_) := after_cell (blk_cell hbk 2)
      have b3 : ∀ q : After W, q.v.cell? ⟨b, 3, none⟩ = some (.int .i64 x.size) := after_cell (blk_cell hbk 3)
      have z2 : ∀ q : After W, q.v.cell? ⟨w.heap.size, 2, none⟩ = some (.slice a es.length c) := after_cell d2
      have HBW := Lib.hid hB
      have HBK := Lib.hid hbk
      have HD0 := Lib.hid d0
      have HD1 := Lib.hid d1
      have HMAY := Lib.hid (fun (V : World) => lmay_yes x.reg x.at_ x.size HFX.out.1.1 HFX.out.1.2.1 HFX.out.1.2.2.1 HFX.out.1.2.2.2.1 HFX.out.1.2.2.2.2.1 HFX.out.1.2.2.2.2.2 V)
      have HPRE : Hid (∀ V, Calls Try.prog 37 #[.int .u64 (U x.hash), .int .i64 D] V fun e w' => e = .returned (.int .i64 p) ∧ Below V.heap.size V w') := fun V => (prefix_any x.hash D V).mono fun _ _ h => ⟨by rw [h.1, HFX.out.2.1], h.2 ▸ Below.refl _ _⟩
      have t3 : Fence.wide.fn 36 := trivial
      have t4 : Fence.wide.fn 37 := trivial
      have hpp : (p != p) = false := bne_self_eq_false p
      have hord : k = 0 ∨ ∃ i g off, k = i + 1 ∧ a = some ⟨g, off, none⟩ ∧ W.cell? ⟨g, off + i * 4, none⟩ = some (.int .u64 (U (es[i]?.getD default).hash)) ∧ U (es[i]?.getD default).hash < U x.hash ∧ (i : Int) < es.length := by
        by_cases h : k = 0
        · exact .inl h
        · obtain ⟨i, rfl⟩ : ∃ i, k = i + 1 := ⟨k - 1, by omega⟩
          obtain ⟨g, off, ha, hc⟩ := HPV.out i rfl
          exact .inr ⟨i, g, off, rfl, ha, hc, HFX.out.2.2 i rfl, by omega⟩
      clear hx HF HKX hB hbk hbl hlt hk1 hk2 HOK d0 d1 d2 HPV
      rcases hord with rfl | ⟨i, g, off, rfl, rfl, hpc, hplt, hil⟩
      · gi_wp2
        refine wpIn_region_round (by kernel_rfl) (by kernel_rfl) (by kernel_rfl) ?_
        repeat (gi_big_quiet_step (fail))
        refine wpQuietIn_nil ?_
        rintro W9 ⟨⟨_, hW9⟩, rfl⟩
        have g0 : ∀ q : After W9, q.v.cell? ⟨b, 0, none⟩ = some (.int .u64 (U x.hash)) := fun q => b0 ⟨q.v, hW9.trans (q.h.mono hW9.size)⟩
        have g1 : ∀ q : After W9, q.v.cell? ⟨b, 1, none⟩ = some (.int .i64 x.reg) := fun q => b1 ⟨q.v, hW9.trans (q.h.mono hW9.size)⟩
        have g2 : ∀ q : After W9, q.v.cell? ⟨b, 2, none⟩ = some (.int .i64 x.at_) := fun q => b2 ⟨q.v, hW9.trans (q.h.mono hW9.size)⟩
        have g3 : ∀ q : After W9, q.v.cell? ⟨b, 3, none⟩ = some (.int .i64 x.size) := fun q => b3 ⟨q.v, hW9.trans (q.h.mono hW9.size)⟩
        have e0 : ∀ q : After W9, q.v.cell? ⟨w.heap.size, 0, none⟩ = some (.int .i64 D) := fun q => after_cell HD0.out ⟨q.v, hW9.trans (q.h.mono hW9.size)⟩
        have e1 : ∀ q : After W9, q.v.cell? ⟨w.heap.size, 1, none⟩ = some (.int .i64 p) := fun q => after_cell HD1.out ⟨q.v, hW9.trans (q.h.mono hW9.size)⟩
        have HW9 := Lib.hid hW9
        clear hW9 b0 b1 b2 b3 z2 
        gi_wp2
        refine wpIn_region_round (by kernel_rfl) (by kernel_rfl) (by kernel_rfl) ?_
        repeat (gi_big_quiet_step ((first | (gi_at_call 36; exact after_callIn (CallsIn.inRound l (callsIn_wide.2 (HMAY.out _)))) | (gi_at_call 37; exact after_callIn (CallsIn.inRound l (callsIn_wide.2 (HPRE.out _)))))))
        refine wpQuietIn_nil ?_
        rintro W10 ⟨⟨_, hW10⟩, rfl⟩
        have hA := HW9.out.trans (hW10.mono HW9.out.size)
        have HA := Lib.hid hA
        clear hW10 hA g0 g1 g2 g3 e0 e1
        gi_wp2
        exact ⟨(keepsOthers_below HA.out).from _, KeepsAt.of_below (HA.out.mono HBW.out.size) (fun _ h => h), HBW.out.trans (HA.out.mono HBW.out.size)⟩
      · have pv : ∀ q : After W, q.v.cell? ⟨g, off + i * 4, none⟩ = some (.int .u64 (U (es[i]?.getD default).hash)) := after_cell hpc
        generalize (es[i]?.getD default).hash = y at pv hplt
        have w1 : wrap64 (((i : Int) + 1) - 1) = i := by rw [Int.add_sub_cancel]; exact IntWalk.wrap64_in _ ⟨by omega, by omega⟩
        have hz : (((i : Int) + 1) == 0) = false := beq_eq_false_iff_ne.2 (by omega)
        have w2 : wrap64 (i : Int) = i := IntWalk.wrap64_in _ ⟨by omega, by omega⟩
        clear hpc
        gi_wp2
        refine wpIn_region_round (by kernel_rfl) (by kernel_rfl) (by kernel_rfl) ?_
        repeat (gi_big_quiet_step (fail))
        refine wpQuietIn_nil ?_
        rintro W9 ⟨⟨_, hW9⟩, rfl⟩
        have g0 : ∀ q : After W9, q.v.cell? ⟨b, 0, none⟩ = some (.int .u64 (U x.hash)) := fun q => b0 ⟨q.v, hW9.trans (q.h.mono hW9.size)⟩
        have g1 : ∀ q : After W9, q.v.cell? ⟨b, 1, none⟩ = some (.int .i64 x.reg) := fun q => b1 ⟨q.v, hW9.trans (q.h.mono hW9.size)⟩
        have g2 : ∀ q : After W9, q.v.cell? ⟨b, 2, none⟩ = some (.int .i64 x.at_) := fun q => b2 ⟨q.v, hW9.trans (q.h.mono hW9.size)⟩
        have g3 : ∀ q : After W9, q.v.cell? ⟨b, 3, none⟩ = some (.int .i64 x.size) := fun q => b3 ⟨q.v, hW9.trans (q.h.mono hW9.size)⟩
        have e0 : ∀ q : After W9, q.v.cell? ⟨w.heap.size, 0, none⟩ = some (.int .i64 D) := fun q => after_cell HD0.out ⟨q.v, hW9.trans (q.h.mono hW9.size)⟩
        have e1 : ∀ q : After W9, q.v.cell? ⟨w.heap.size, 1, none⟩ = some (.int .i64 p) := fun q => after_cell HD1.out ⟨q.v, hW9.trans (q.h.mono hW9.size)⟩
        have HW9 := Lib.hid hW9
        clear hW9 b0 b1 b2 b3 z2 pv
        gi_wp2
        refine wpIn_region_round (by kernel_rfl) (by kernel_rfl) (by kernel_rfl) ?_
        repeat (gi_big_quiet_step ((first | (gi_at_call 36; exact after_callIn (CallsIn.inRound l (callsIn_wide.2 (HMAY.out _)))) | (gi_at_call 37; exact after_callIn (CallsIn.inRound l (callsIn_wide.2 (HPRE.out _)))))))
        refine wpQuietIn_nil ?_
        rintro W10 ⟨⟨_, hW10⟩, rfl⟩
        have hA := HW9.out.trans (hW10.mono HW9.out.size)
        have HA := Lib.hid hA
        clear hW10 hA g0 g1 g2 g3 e0 e1
        gi_wp2
        exact ⟨(keepsOthers_below HA.out).from _, KeepsAt.of_below (HA.out.mono HBW.out.size) (fun _ h => h), HBW.out.trans (HA.out.mono HBW.out.size)⟩
  case done =>
    rintro D' ys W hD' _ hB hK
    have hB1 : Boxed W (w.heap.size + 1) 4 (.bool false) := (hB.block _ hk1.lt).trans hk1
    have c1 := hB1.cell
    have f1 := hB1.frozen
    gi_wp2
    have hk := (KeepsOthers.setCell W ⟨w.heap.size + 1, 0, none⟩ (.bool true)).same _ _ hK rfl
    refine ⟨by simp, .inl ⟨_, _, rfl, run_takeDeferred hk, ?_⟩⟩
    have hq := KeepsAt.put (S := fun _ => True) (W.setCell ⟨w.heap.size + 1, 0, none⟩ (.bool true)) D' _ (.deferred none) hk rfl
    have hcell := hq.cell trivial (hB1.set (.bool true)).cell
    have hBB : Below w.heap.size w (W.setCell ⟨w.heap.size + 1, 0, none⟩ (.bool true)) := (HB3.out.trans (hB.mono hs3)).setCell (p := ⟨w.heap.size + 1, 0, none⟩) (Nat.le_succ _) _
    refine ⟨_, right_res _ _ _ _ rfl hcell, rfl, hBB.trans ((Below.refl _ _).grown (grownBy_putObj' _ D' _) (by have := hBB.size; omega) (fun k e => by cases e; omega))⟩
  case stop =>
    rintro D' c' pre W _ _ h _
    exact h.elim
theorem right_yes (d p s : Int) (a : Option Addr) (m c : Nat) (es : List Ent) (w : World) (hE : EntsAt w.heap.size w (.slice a m c) es) (hR : Right14 d p s es) :
    Calls Try.prog 9 #[.agg #[.int .i64 d, .int .i64 p, .slice a m c], .int .i64 s] w fun e W' => e = .returned (.bool true) ∧ Below w.heap.size w W' := by
  obtain ⟨_, _, e0, _⟩ := hE.slice
  cases e0
  exact callsIn_wide.1 (right_in d p s a c es w hE hR)
end Go.Proofs.Ytlpfjmahinfeoaa

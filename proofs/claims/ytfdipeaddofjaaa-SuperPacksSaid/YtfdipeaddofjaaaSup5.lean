/-
  super.headIn: the head of a sector, if it is right.
  Conditions: none.
-/
import Derived.Test.YtfdipeaddofjaaaSup4
namespace Go.Proofs.Ytfdipeaddofjaaa
open Go.RowKit
attribute [-go_sem] Instr.build Instr.fill

theorem read_short {bs : List (BitVec 8)} (h : readErr bs = 0) : ((readL bs).load.length : Int) ≤ bs.length - 19 := by
  have e : readL bs = seem bs := by unfold readL; rw [if_pos h]
  rw [e]
  unfold readErr at h
  by_cases c1 : sizeB (bs.length : Int) = true
  · rw [if_pos c1] at h
    by_cases c2 : buildErr bs.length (seem bs).kind (seem bs).place (seem bs).stamp (seem bs).load.length = 0 ∧ leafB bs.length (seem bs).kind (seem bs).place (seem bs).stamp (seem bs).load = bs
    · have hb := c2.1
      unfold buildErr at hb
      rw [if_pos c1] at hb
      by_cases c3 : kindB (seem bs).kind = true ∧ 0 ≤ (seem bs).place ∧ (seem bs).place ≤ 2147483647 ∧ 0 ≤ (seem bs).stamp
      · rw [if_pos c3] at hb
        by_cases c4 : (bs.length : Int) - 19 < (seem bs).load.length
        · rw [if_pos c4] at hb; exact absurd hb (by decide)
        · omega
      · rw [if_neg c3] at hb; exact absurd hb (by decide)
    · rw [if_neg c2] at h; exact absurd h (by decide)
  · rw [if_neg c1] at h; exact absurd h (by decide)
theorem got_short {w W : World} {D : Nat} {d : Dev} (h : DevHere w D d W) (at_ k p : Int) : (gotL d at_ k p).load.length ≤ 512 := by
  unfold gotL
  by_cases c : gotErr d at_ k p = 0
  · rw [if_pos c]
    unfold gotErr at c
    by_cases c1 : askErr d.sectors d.down at_ = 0
    · rw [if_pos c1] at c
      by_cases c2 : readErr (d.cur at_.toNat) = 0 ∧ (readL (d.cur at_.toNat)).kind = k ∧ (readL (d.cur at_.toNat)).place = p
      · have h1 := read_short c2.1
        have h2 := cur_len h.flen (fun x hx => (h.llen x hx).2) at_.toNat
        have h3 := h.right.2.2
        omega
      · rw [if_neg c2] at c; exact absurd c (by decide)
    · rw [if_neg c1] at c; exact absurd c c1
  · rw [if_neg c]; exact Nat.zero_le _
/-- The leaf that lies there as a head's. -/
def inL (d : Dev) (i : Nat) : LeafP := gotL d i 1 i
def inG (d : Dev) (i : Nat) : Int := gotErr d i 1 i
def inGood (d : Dev) (i : Nat) : Prop := inG d i = 0 ∧ headGood (inL d i).stamp (inL d i).load ∧ (headOf (inL d i).stamp (inL d i).load).plan.ofDev d = true ∧ (headOf (inL d i).stamp (inL d i).load).gen % 2 = i
instance (d : Dev) (i : Nat) : Decidable (inGood d i) := by unfold inGood; infer_instance
def inHead (d : Dev) (i : Nat) : HeadP := if inGood d i then headOf (inL d i).stamp (inL d i).load else HeadP.zero
def inErr (d : Dev) (i : Nat) : Int := if inG d i = 0 then (if inGood d i then 0 else 5) else inG d i
theorem headIn_res (w : World) (z : Nat) (x : HeadP) (n : Int) (a : Act) (h : w.heap[z]? = some (.cells x.cells 35 (0, 0))) (h2 : a.tmps.getD 4 undef = .pointer (some ⟨z, 0, none⟩)) (h3 : a.tmps.getD 5 undef = .int .i64 n) :
    (results Try.f67 a.tmps).run Try.prog w = .ok (.tuple #[.agg x.cells, .int .i64 n]) w := by
  have h2' : a.tmps[4]?.getD undef = .pointer (some ⟨z, 0, none⟩) := by simpa using h2
  have h3' : a.tmps[5]?.getD undef = .int .i64 n := by simpa using h3
  simp [results, Try.results67, h2', h3', asAddr, run_loadVar_row w z 35 35 x.cells (0, 0) _ h Try.underlying35 rfl (kh_sz x)]
@[local go_sem] theorem build_zero5 (W : World) : (Instr.build 35 #[]).run Try.prog W = .ok (.agg HeadP.zero.cells) W := run_build W _ _ _ (by kernel_rfl)
/-- What headIn leaves. -/
def HeadIn (w : World) (D : Nat) (d : Dev) (i : Nat) (W : World) (e : Ending) (W' : World) : Prop := e = .returned (.tuple #[.agg (inHead d i).cells, .int .i64 (inErr d i)]) ∧ DevHere w D d W' ∧ Below W.heap.size W W'
theorem HeadIn.fin {w W V : World} {D : Nat} {d : Dev} {i : Nat} {x : HeadP} (hb : Below W.heap.size W V) (hO : DevHere w D d W) {er : Int} (h1 : inHead d i = x) (h2 : inErr d i = er) : HeadIn w D d i W (.returned (.tuple #[.agg x.cells, .int .i64 er])) (V.setRow W.heap.size x.cells) := by
  have hb2 : Below W.heap.size W (V.setRow W.heap.size x.cells) := below_setRow hb (Nat.le_refl _) _
  exact ⟨by rw [h1, h2], hO.on hb2, hb2⟩

set_option maxRecDepth 100000 in
set_option maxHeartbeats 8000000 in
theorem headIn_here {w W : World} {D : Nat} {d : Dev} (h : DevHere w D d W) (i : Nat) :
    Calls Try.prog 67 #[.pointer (some ⟨D, 0, none⟩), .int .i64 i] W (HeadIn w D d i W) := by
  have HH := Lib.hid h
  have HZ0 : Hid ((W.alloc (.cells HeadP.zero.cells 35)).heap[W.heap.size]? = some (.cells HeadP.zero.cells 35 (0, 0))) := heap_alloc_new _ _
  have HB0 : Hid (Below W.heap.size W (W.alloc (.cells HeadP.zero.cells 35))) := (Below.refl _ _).alloc (Nat.le_refl _) _
  obtain ⟨L, hL⟩ : ∃ L, inL d i = L := ⟨_, rfl⟩
  obtain ⟨G, hG⟩ : ∃ G, inG d i = G := ⟨_, rfl⟩
  have hsh : L.load.length ≤ 512 := by rw [← hL]; exact got_short h _ _ _
  have HGE : Hid (∀ V, DevHere w D d V → Calls Try.prog 80 #[.pointer (some ⟨D, 0, none⟩), .int .i64 i, .int .i64 1, .int .i64 i] V (GetAt w D d L G V)) := fun V hv => by
    have := get_here hv (i : Int) 1 (i : Int)
    rw [← hL, ← hG]; exact this
  have HUN : Hid (∀ V u, BytesAt V.heap.size V u L.load → Calls Try.prog 8 #[.int .i64 L.stamp, u] V (SUnp L.stamp L.load V)) := fun V u hu => sunp_any L.stamp u L.load V hu (by omega)
  have HLG := Lib.hid (show inL d i = L ∧ inG d i = G from ⟨hL, hG⟩)
  have hbad : ¬ inGood d i → inHead d i = HeadP.zero ∧ (G = 0 → inErr d i = 5) ∧ (G ≠ 0 → inErr d i = G) := fun hn => by
    refine ⟨by unfold inHead; rw [if_neg hn], fun h0 => ?_, fun h0 => ?_⟩
    · unfold inErr; rw [hG, if_pos h0, if_neg hn]
    · unfold inErr; rw [hG, if_neg h0]
  have HBAD := Lib.hid hbad
  have HFIN := Lib.hid (fun (V : World) (x : HeadP) (er : Int) (hb : Below W.heap.size W V) (h1 : inHead d i = x) (h2 : inErr d i = er) => HeadIn.fin (w := w) (D := D) hb h h1 h2)
  clear h hL hG hsh hbad
  by_cases h0 : G = 0
  · subst h0
    go_enter Try.func67, Try.ntmps67
    go_upto_region 1 with (fail)
    change (Code.region _ _ _).wp _ _ _ (W.alloc (.cells HeadP.zero.cells 35))
    have HD0 := Lib.hid (HH.out.on HB0.out)
    generalize W.alloc (.cells HeadP.zero.cells 35) = w0 at *
    go_upto_region 2 with (first
      | (go_at_call 80; (with_reducible refine (HGE.out _ HD0.out).mono ?_); rintro e w2 ⟨hdx, u, rfl, hu, hb⟩; clear hdx; have HU := Lib.hid hu; have HB2 := Lib.hid hb; clear hu hb)
      | (refine wpList_store_row (o := ⟨none, _, _, _, _, _⟩) rfl 96 (.tmp 6) (.tmp 14) rfl w2.heap.size (L.cells u) rfl rfl 96 (LeafP.zero.cells (.slice none 0 0)) (heap_alloc_new _ _) (leaf_sz _ _) rfl ?_ ?_; exact leaf_one_by HU.out))
    change (Code.region _ _ _).wp _ _ _ ((w2.alloc (.cells (LeafP.zero.cells (.slice none 0 0)) 96)).setRow w2.heap.size (L.cells u))
    have hb3 : Below w2.heap.size w2 ((w2.alloc (.cells (LeafP.zero.cells (.slice none 0 0)) 96)).setRow w2.heap.size (L.cells u)) := below_setRow ((Below.refl _ _).alloc (Nat.le_refl _) _) (Nat.le_refl _) _
    have hl3 : ((w2.alloc (.cells (LeafP.zero.cells (.slice none 0 0)) 96)).setRow w2.heap.size (L.cells u)).heap[w2.heap.size]? = some (.cells (L.cells u) 96 (0, 0)) := setRow_heap _ _ _ _ _ _ (heap_alloc_new _ _)
    generalize (w2.alloc (.cells (LeafP.zero.cells (.slice none 0 0)) 96)).setRow w2.heap.size (L.cells u) = w3 at hb3 hl3 ⊢
    have hB3 : Below W.heap.size W w3 := HB0.out.trans ((HB2.out.trans (hb3.mono HB2.out.size)).mono HB0.out.size)
    have HZ3 : Hid (w3.heap[W.heap.size]? = some (.cells HeadP.zero.cells 35 (0, 0))) := ((HB2.out.trans (hb3.mono HB2.out.size)).block _ (blk_lt HZ0.out)).trans HZ0.out
    have HB3 := Lib.hid hB3
    have HU3 := Lib.hid ((HU.out.below hb3).mono hb3.size)
    have c2 : w3.cell? ⟨w2.heap.size, 2, none⟩ = some (.int .i64 L.stamp) := blk_cell hl3 2
    have c3 : w3.cell? ⟨w2.heap.size, 3, none⟩ = some u := blk_cell hl3 3
    clear hb3 hl3 hB3 HU HB2 HZ0 HB0 HD0 HGE
    obtain ⟨x, hx⟩ : ∃ x, headOf L.stamp L.load = x := ⟨_, rfl⟩
    obtain ⟨er, her⟩ : ∃ er, headErr L.stamp L.load = er := ⟨_, rfl⟩
    have HX := Lib.hid hx
    have HER := Lib.hid her
    have HUN3 : Hid (Calls Try.prog 8 #[.int .i64 L.stamp, u] w3 fun e w' => e = .returned (.tuple #[.agg x.cells, .int .i64 er]) ∧ Below w3.heap.size w3 w') := by
      have := HUN.out w3 u HU3.out
      unfold SUnp at this
      rw [hx, her] at this
      exact this
    clear hx her HUN
    go_upto_region 5 with (first
      | (go_at_call 8; (with_reducible refine HUN3.out.mono ?_); rintro e w4 ⟨rfl, hb⟩; have HB4 := Lib.hid hb; clear hb)
      | (refine wpList_store_row (o := ⟨none, _, _, _, _, _⟩) rfl 35 (.tmp 8) (.tmp 26) rfl w4.heap.size x.cells rfl rfl 35 HeadP.zero.cells (heap_alloc_new _ _) (kh_sz _) rfl ?_ ?_; exact kh_one _))
    change (Code.region _ _ _).wp _ _ _ ((w4.alloc (.cells HeadP.zero.cells 35)).setRow w4.heap.size x.cells)
    have hb5 : Below w4.heap.size w4 ((w4.alloc (.cells HeadP.zero.cells 35)).setRow w4.heap.size x.cells) := below_setRow ((Below.refl _ _).alloc (Nat.le_refl _) _) (Nat.le_refl _) _
    have hx5 : ((w4.alloc (.cells HeadP.zero.cells 35)).setRow w4.heap.size x.cells).heap[w4.heap.size]? = some (.cells x.cells 35 (0, 0)) := setRow_heap _ _ _ _ _ _ (heap_alloc_new _ _)
    generalize (w4.alloc (.cells HeadP.zero.cells 35)).setRow w4.heap.size x.cells = w5 at hb5 hx5 ⊢
    have hb35 := HB4.out.trans (hb5.mono HB4.out.size)
    have HZ5 : Hid (w5.heap[W.heap.size]? = some (.cells HeadP.zero.cells 35 (0, 0))) := (hb35.block _ (blk_lt HZ3.out)).trans HZ3.out
    have HB5 := Lib.hid (HB3.out.trans (hb35.mono HB3.out.size))
    have HX5 := Lib.hid hx5
    have HD5 := Lib.hid (HH.out.on HB5.out)
    clear hb5 hx5 hb35 HB4 HUN3 c2 c3 HZ3 HB3 HU3
    by_cases hg : headGood L.stamp L.load
    · have her : er = 0 := by rw [← HER.out]; exact if_pos hg
      have hxg : 1 ≤ x.gen := by
        have := hg.2.2.1
        rw [← HX.out]; unfold headOf; rw [if_pos hg]; exact this
      subst her
      obtain ⟨d0, d1, d2, d3, d4, d5, d6, d7, _⟩ := head_all HX5.out (Below.refl _ _)
      have HIO : Hid (∀ V, DevHere w D d V → Calls Try.prog 37 #[.agg #[.int .i64 x.plan.sectors, .int .i64 x.plan.size, .int .i64 x.plan.regions, .int .i64 x.plan.rs, .int .i64 x.plan.log, .int .i64 x.plan.depth, .int .i64 x.plan.memory, .int .u64 (U x.plan.seed)], .pointer (some ⟨D, 0, none⟩)] V fun e W' => e = .returned (.bool (x.plan.ofDev d)) ∧ Below V.heap.size V W') := fun V hv => isOf_any hv x.plan
      have HTU := Lib.hid (fun V => turn_any x.gen (by omega) V)
      cases hof : x.plan.ofDev d with
      | false =>
        have HRES : Hid (inHead d i = HeadP.zero ∧ inErr d i = 5) := by
          have hn : ¬ inGood d i := fun hh => by have := hh.2.2.1; rw [HLG.out.1, HX.out, hof] at this; cases this
          exact ⟨(HBAD.out hn).1, (HBAD.out hn).2.1 (by first | rfl | trivial)⟩
        rw [hof] at HIO
        clear hof hg hxg
        go_upto_region 6 with (first
          | (go_at_call 37; (with_reducible refine (HIO.out _ HD5.out).mono ?_); rintro e w6 ⟨rfl, hb⟩; have HZ6 := Lib.hid ((hb.block _ (blk_lt HZ5.out)).trans HZ5.out); have HB6 := Lib.hid (HB5.out.trans (hb.mono HB5.out.size)); have HX6 := Lib.hid ((hb.block _ (blk_lt HX5.out)).trans HX5.out); have d8 : w6.cell? ⟨w4.heap.size, 8, none⟩ = some (.int .i64 x.gen) := blk_cell HX6.out 8; clear hb))
        refine wp_region_list ?_
        refine wpList_plain rfl fun KK hKK => ?_
        go_simp
        refine hKK _ _ ?_
        clear hKK KK
        refine wpList_store_row (o := ⟨none, _, _, _, _, _⟩) rfl 35 (.tmp 4) (.tmp 44) rfl W.heap.size HeadP.zero.cells rfl rfl 35 HeadP.zero.cells HZ6.out (kh_sz _) rfl (kh_one _) ?_
        go_wp2
        have hend : (w6.setRow W.heap.size HeadP.zero.cells).heap[W.heap.size]? = some (.cells HeadP.zero.cells 35 (0, 0)) := setRow_heap _ _ _ _ _ _ HZ6.out
        exact bodyPost_ret (v := .tuple #[.agg HeadP.zero.cells, .int .i64 5]) (headIn_res _ W.heap.size _ _ _ hend rfl rfl) rfl (HFIN.out _ _ _ HB6.out HRES.out.1 HRES.out.2)
      | true =>
        rw [hof] at HIO
        by_cases ht : x.gen % 2 = i
        · have HRES : Hid (inHead d i = x ∧ inErr d i = 0) := by
            have hn : inGood d i := ⟨HLG.out.2, by rw [HLG.out.1]; exact hg, by rw [HLG.out.1, HX.out]; exact hof, by rw [HLG.out.1, HX.out]; exact ht⟩
            refine ⟨?_, ?_⟩
            · unfold inHead; rw [if_pos hn, HLG.out.1, HX.out]
            · unfold inErr; rw [if_pos HLG.out.2, if_pos hn]
          rw [ht] at HTU
          clear hof hg hxg ht
          go_upto_region 7 with (first
            | (go_at_call 37; (with_reducible refine (HIO.out _ HD5.out).mono ?_); rintro e w6 ⟨rfl, hb⟩; have HZ6 := Lib.hid ((hb.block _ (blk_lt HZ5.out)).trans HZ5.out); have HB6 := Lib.hid (HB5.out.trans (hb.mono HB5.out.size)); have HX6 := Lib.hid ((hb.block _ (blk_lt HX5.out)).trans HX5.out); have d8 : w6.cell? ⟨w4.heap.size, 8, none⟩ = some (.int .i64 x.gen) := blk_cell HX6.out 8; clear hb)
            | (go_at_call 38; (with_reducible refine (HTU.out _).mono ?_); rintro e w7 ⟨rfl, rfl⟩))
          refine wp_region_list ?_
          refine wpList_load_row (o := ⟨some 45, _, _, _, _, _⟩) rfl 35 (.tmp 8) rfl w4.heap.size rfl 35 x.cells (0, 0) _ HX6.out Try.underlying35 rfl (kh_sz _) ?_
          refine wpList_store_row (o := ⟨none, _, _, _, _, _⟩) rfl 35 (.tmp 4) (.tmp 45) rfl W.heap.size x.cells rfl rfl 35 HeadP.zero.cells HZ6.out (kh_sz _) rfl (kh_one _) ?_
          go_wp2
          have hend : (w6.setRow W.heap.size x.cells).heap[W.heap.size]? = some (.cells x.cells 35 (0, 0)) := setRow_heap _ _ _ _ _ _ HZ6.out
          exact bodyPost_ret (v := .tuple #[.agg x.cells, .int .i64 0]) (headIn_res _ W.heap.size _ _ _ hend rfl rfl) rfl (HFIN.out _ _ _ HB6.out HRES.out.1 HRES.out.2)
        · have HRES : Hid (inHead d i = HeadP.zero ∧ inErr d i = 5) := by
            have hn : ¬ inGood d i := fun hh => ht (by have := hh.2.2.2; rwa [HLG.out.1, HX.out] at this)
            exact ⟨(HBAD.out hn).1, (HBAD.out hn).2.1 (by first | rfl | trivial)⟩
          have e1 : (x.gen % 2 != (i : Int)) = true := by simpa using ht
          clear hof hg hxg ht
          go_upto_region 6 with (first
            | (go_at_call 37; (with_reducible refine (HIO.out _ HD5.out).mono ?_); rintro e w6 ⟨rfl, hb⟩; have HZ6 := Lib.hid ((hb.block _ (blk_lt HZ5.out)).trans HZ5.out); have HB6 := Lib.hid (HB5.out.trans (hb.mono HB5.out.size)); have HX6 := Lib.hid ((hb.block _ (blk_lt HX5.out)).trans HX5.out); have d8 : w6.cell? ⟨w4.heap.size, 8, none⟩ = some (.int .i64 x.gen) := blk_cell HX6.out 8; clear hb)
            | (go_at_call 38; (with_reducible refine (HTU.out _).mono ?_); rintro e w7 ⟨rfl, rfl⟩))
          refine wp_region_list ?_
          refine wpList_plain rfl fun KK hKK => ?_
          go_simp
          refine hKK _ _ ?_
          clear hKK KK
          refine wpList_store_row (o := ⟨none, _, _, _, _, _⟩) rfl 35 (.tmp 4) (.tmp 44) rfl W.heap.size HeadP.zero.cells rfl rfl 35 HeadP.zero.cells HZ6.out (kh_sz _) rfl (kh_one _) ?_
          go_wp2
          have hend : (w6.setRow W.heap.size HeadP.zero.cells).heap[W.heap.size]? = some (.cells HeadP.zero.cells 35 (0, 0)) := setRow_heap _ _ _ _ _ _ HZ6.out
          exact bodyPost_ret (v := .tuple #[.agg HeadP.zero.cells, .int .i64 5]) (headIn_res _ W.heap.size _ _ _ hend rfl rfl) rfl (HFIN.out _ _ _ HB6.out HRES.out.1 HRES.out.2)
    · have her : er = 5 := by rw [← HER.out]; exact if_neg hg
      have HRES : Hid (inHead d i = HeadP.zero ∧ inErr d i = 5) := by
        have hn : ¬ inGood d i := fun hh => hg (by have := hh.2.1; rwa [HLG.out.1] at this)
        exact ⟨(HBAD.out hn).1, (HBAD.out hn).2.1 (by first | rfl | trivial)⟩
      subst her
      clear hg
      go_upto_region 6 with (fail)
      refine wp_region_list ?_
      refine wpList_plain rfl fun KK hKK => ?_
      go_simp
      refine hKK _ _ ?_
      clear hKK KK
      refine wpList_store_row (o := ⟨none, _, _, _, _, _⟩) rfl 35 (.tmp 4) (.tmp 44) rfl W.heap.size HeadP.zero.cells rfl rfl 35 HeadP.zero.cells HZ5.out (kh_sz _) rfl (kh_one _) ?_
      go_wp2
      have hend : (w5.setRow W.heap.size HeadP.zero.cells).heap[W.heap.size]? = some (.cells HeadP.zero.cells 35 (0, 0)) := setRow_heap _ _ _ _ _ _ HZ5.out
      exact bodyPost_ret (v := .tuple #[.agg HeadP.zero.cells, .int .i64 5]) (headIn_res _ W.heap.size _ _ _ hend rfl rfl) rfl (HFIN.out _ _ _ HB5.out HRES.out.1 HRES.out.2)
  · have e0 : (G != 0) = true := by simpa using h0
    have HRES : Hid (inHead d i = HeadP.zero ∧ inErr d i = G) := by
      have hn : ¬ inGood d i := fun hh => h0 (by have := hh.1; rwa [HLG.out.2] at this)
      exact ⟨(HBAD.out hn).1, (HBAD.out hn).2.2 h0⟩
    clear h0
    go_enter Try.func67, Try.ntmps67
    go_upto_region 1 with (fail)
    change (Code.region _ _ _).wp _ _ _ (W.alloc (.cells HeadP.zero.cells 35))
    have HD0 := Lib.hid (HH.out.on HB0.out)
    generalize W.alloc (.cells HeadP.zero.cells 35) = w0 at *
    go_upto_region 2 with (first
      | (go_at_call 80; (with_reducible refine (HGE.out _ HD0.out).mono ?_); rintro e w2 ⟨hdx, u, rfl, hu, hb⟩; clear hdx; have HU := Lib.hid hu; have HB2 := Lib.hid hb; clear hu hb)
      | (refine wpList_store_row (o := ⟨none, _, _, _, _, _⟩) rfl 96 (.tmp 6) (.tmp 14) rfl w2.heap.size (L.cells u) rfl rfl 96 (LeafP.zero.cells (.slice none 0 0)) (heap_alloc_new _ _) (leaf_sz _ _) rfl ?_ ?_; exact leaf_one_by HU.out))
    change (Code.region _ _ _).wp _ _ _ ((w2.alloc (.cells (LeafP.zero.cells (.slice none 0 0)) 96)).setRow w2.heap.size (L.cells u))
    have hb3 : Below w2.heap.size w2 ((w2.alloc (.cells (LeafP.zero.cells (.slice none 0 0)) 96)).setRow w2.heap.size (L.cells u)) := below_setRow ((Below.refl _ _).alloc (Nat.le_refl _) _) (Nat.le_refl _) _
    have hl3 : ((w2.alloc (.cells (LeafP.zero.cells (.slice none 0 0)) 96)).setRow w2.heap.size (L.cells u)).heap[w2.heap.size]? = some (.cells (L.cells u) 96 (0, 0)) := setRow_heap _ _ _ _ _ _ (heap_alloc_new _ _)
    generalize (w2.alloc (.cells (LeafP.zero.cells (.slice none 0 0)) 96)).setRow w2.heap.size (L.cells u) = w3 at hb3 hl3 ⊢
    have hB3 : Below W.heap.size W w3 := HB0.out.trans ((HB2.out.trans (hb3.mono HB2.out.size)).mono HB0.out.size)
    have HZ3 : Hid (w3.heap[W.heap.size]? = some (.cells HeadP.zero.cells 35 (0, 0))) := ((HB2.out.trans (hb3.mono HB2.out.size)).block _ (blk_lt HZ0.out)).trans HZ0.out
    have HB3 := Lib.hid hB3
    have HU3 := Lib.hid ((HU.out.below hb3).mono hb3.size)
    have c2 : w3.cell? ⟨w2.heap.size, 2, none⟩ = some (.int .i64 L.stamp) := blk_cell hl3 2
    have c3 : w3.cell? ⟨w2.heap.size, 3, none⟩ = some u := blk_cell hl3 3
    clear hb3 hl3 hB3 HU HB2 HZ0 HB0 HD0 HGE
    go_wp2_with (first
      | (refine wpList_store_row (o := ⟨none, _, _, _, _, _⟩) rfl 35 (.tmp 4) (.tmp 18) rfl W.heap.size HeadP.zero.cells rfl rfl 35 HeadP.zero.cells HZ3.out (kh_sz _) rfl ?_ ?_; exact kh_one _))
    have hend : (w3.setRow W.heap.size HeadP.zero.cells).heap[W.heap.size]? = some (.cells HeadP.zero.cells 35 (0, 0)) := setRow_heap _ _ _ _ _ _ HZ3.out
    exact bodyPost_ret (v := .tuple #[.agg HeadP.zero.cells, .int .i64 G]) (headIn_res _ W.heap.size _ _ _ hend rfl rfl) rfl (HFIN.out _ _ _ HB3.out HRES.out.1 HRES.out.2)

end Go.Proofs.Ytfdipeaddofjaaa

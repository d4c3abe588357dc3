/-
  SuperPacks: the load of any head, or why it may not be; which head any bytes are.
  Conditions: none.
-/
import Derived.Test.YtfdipeaddofjaaaSup16
import Derived.Test.YtfdipeaddofjaaaSRef2
import Derived.Test.YtfdipeaddofjaaaOpenBn
import Derived.Test.YtfdipeaddofjaaaJQ
import Derived.Deep.RegionHeldLaw
import Derived.Laws.StructEq
import Derived.BigRegionIn
namespace Go.Proofs.Ytfdipeaddofjaaa
open Go.ChangeShapes Go.WideShapes Go.ChangeAt Go.RowKit Go.Deep

theorem kx_sz (x : HeadP) : (Try.prog.info? 26).map (·.size) = some x.cells.size := by show _ = some 15; kernel_rfl
section
variable (n : Nat)
theorem int_in (a : Int) (W : World) : (Op.equalIn (n + 1) 3 (.int .i64 a) (.int .i64 a)).run Try.prog W = .ok true W := by
  rw [run_equalIn_int W n 3 .i64 _ a a Try.underlying3, beq_self_eq_true]
theorem u64_in (a : Int) (W : World) : (Op.equalIn (n + 1) 22 (.int .u64 a) (.int .u64 a)).run Try.prog W = .ok true W := by
  rw [run_equalIn_int W n 22 .u64 _ a a Try.underlying22, beq_self_eq_true]
set_option maxRecDepth 100000 in
theorem ref_in (a b : Int) (W : World) : (Op.equalIn (n + 2) 33 (.agg #[.int .i64 a, .int .i64 b]) (.agg #[.int .i64 a, .int .i64 b])).run Try.prog W = .ok true W := by
  rw [show n + 2 = (n + 1) + 1 from rfl, run_equalIn_struct _ _ _ _ _ (by kernel_rfl) (by kernel_rfl)]
  have h3 := fun (a : Int) (W : World) => int_in n a W
  simp [Program.fieldsOf, Try.underlying33, Op.eqFields, part, h3]
set_option maxRecDepth 100000 in
theorem plan_in (a0 a1 a2 a3 a4 a5 a6 a7 : Int) (W : World) : (Op.equalIn (n + 2) 31 (.agg #[.int .i64 a0, .int .i64 a1, .int .i64 a2, .int .i64 a3, .int .i64 a4, .int .i64 a5, .int .i64 a6, .int .u64 a7]) (.agg #[.int .i64 a0, .int .i64 a1, .int .i64 a2, .int .i64 a3, .int .i64 a4, .int .i64 a5, .int .i64 a6, .int .u64 a7])).run Try.prog W = .ok true W := by
  rw [show n + 2 = (n + 1) + 1 from rfl, run_equalIn_struct _ _ _ _ _ (by kernel_rfl) (by kernel_rfl)]
  have h3 := fun (a : Int) (W : World) => int_in n a W
  have h22 := fun (a : Int) (W : World) => u64_in n a W
  simp [Program.fieldsOf, Try.underlying31, Op.eqFields, part, h3, h22]
end
set_option maxRecDepth 100000 in
theorem head_eql (a0 a1 a2 a3 a4 a5 a6 a7 a8 a9 a10 a11 a12 a13 a14 : Int) (V : World) : (binOp .eql 35 (.agg #[.int .i64 a0, .int .i64 a1, .int .i64 a2, .int .i64 a3, .int .i64 a4, .int .i64 a5, .int .i64 a6, .int .u64 a7, .int .i64 a8, .int .i64 a9, .int .i64 a10, .int .i64 a11, .int .i64 a12, .int .i64 a13, .int .i64 a14]) (.agg #[.int .i64 a0, .int .i64 a1, .int .i64 a2, .int .i64 a3, .int .i64 a4, .int .i64 a5, .int .i64 a6, .int .u64 a7, .int .i64 a8, .int .i64 a9, .int .i64 a10, .int .i64 a11, .int .i64 a12, .int .i64 a13, .int .i64 a14])).run Try.prog V = .ok (.bool true) V := by
  rw [run_eql_struct, show (10000 : Nat) = 9999 + 1 from rfl, run_equalIn_struct _ _ _ _ _ (by kernel_rfl) (by kernel_rfl)]
  have h3 := fun (a : Int) (W : World) => int_in 9998 a W
  have hp := fun (a0 a1 a2 a3 a4 a5 a6 a7 : Int) (W : World) => plan_in 9997 a0 a1 a2 a3 a4 a5 a6 a7 W
  have hr := fun (a b : Int) (W : World) => ref_in 9997 a b W
  simp only [Nat.reduceAdd] at h3 hp hr
  simp [Program.fieldsOf, Try.underlying35, Op.eqFields, part, h3, hp, hr]
theorem head_guard (a0 a1 a2 a3 a4 a5 a6 a7 a8 a9 a10 a11 a12 a13 a14 : Int) (x y : Operand) (V : World) : (eqGuard .eql 35 x y (.agg #[.int .i64 a0, .int .i64 a1, .int .i64 a2, .int .i64 a3, .int .i64 a4, .int .i64 a5, .int .i64 a6, .int .u64 a7, .int .i64 a8, .int .i64 a9, .int .i64 a10, .int .i64 a11, .int .i64 a12, .int .i64 a13, .int .i64 a14]) (.agg #[.int .i64 a0, .int .i64 a1, .int .i64 a2, .int .i64 a3, .int .i64 a4, .int .i64 a5, .int .i64 a6, .int .u64 a7, .int .i64 a8, .int .i64 a9, .int .i64 a10, .int .i64 a11, .int .i64 a12, .int .i64 a13, .int .i64 a14])).run Try.prog V = .ok () V := run_eqGuard_agg _ _ _ _ _ _ _ (by kernel_rfl)


theorem own_bytesS {w : World} {b : Nat} {v : Value} {n : Nat} {bs : List (BitVec 8)} (h : w.ownsRow b 5 1 v n (cellsOf bs)) (e : n = bs.length) : BytesAt w.heap.size w v bs := by
  subst e
  exact BytesAt.of_owns h
theorem z5_1 (V : World) (c : Obj) : ((V.alloc c).alloc (.cells #[.int .i64 0, .int .i64 0, .int .i64 0, .int .i64 0, .int .i64 0, .int .i64 0, .int .i64 0, .int .u64 0, .int .i64 0, .int .i64 0, .int .i64 0, .int .i64 0, .int .i64 0, .int .i64 0, .int .i64 0] 35)).drew.heap[V.heap.size + 1]? = some (.cells #[.int .i64 0, .int .i64 0, .int .i64 0, .int .i64 0, .int .i64 0, .int .i64 0, .int .i64 0, .int .u64 0, .int .i64 0, .int .i64 0, .int .i64 0, .int .i64 0, .int .i64 0, .int .i64 0, .int .i64 0] 35 (0, 0)) := by
  have := heap_alloc_new (V.alloc c) (.cells #[.int .i64 0, .int .i64 0, .int .i64 0, .int .i64 0, .int .i64 0, .int .i64 0, .int .i64 0, .int .u64 0, .int .i64 0, .int .i64 0, .int .i64 0, .int .i64 0, .int .i64 0, .int .i64 0, .int .i64 0] 35)
  have e : (V.alloc c).heap.size = V.heap.size + 1 := by simp
  rw [e] at this
  exact this
theorem z5_2 (V : World) (c : Obj) : ((V.alloc (.cells #[.int .i64 0, .int .i64 0, .int .i64 0, .int .i64 0, .int .i64 0, .int .i64 0, .int .i64 0, .int .u64 0, .int .i64 0, .int .i64 0, .int .i64 0, .int .i64 0, .int .i64 0, .int .i64 0, .int .i64 0] 35)).alloc c).drew.heap[V.heap.size]? = some (.cells #[.int .i64 0, .int .i64 0, .int .i64 0, .int .i64 0, .int .i64 0, .int .i64 0, .int .i64 0, .int .u64 0, .int .i64 0, .int .i64 0, .int .i64 0, .int .i64 0, .int .i64 0, .int .i64 0, .int .i64 0] 35 (0, 0)) := blk_alloc (heap_alloc_new _ _) _
/-- What the region of Unpack leaves. -/
def Unp5 (V : World) (hc : Array Value) (er : Int) (s9 s10 : Value) (wx : World) : Prop := ∃ Q, s9 = .pointer (some ⟨Q, 0, none⟩) ∧ s10 = .int .i64 er ∧ wx.heap[Q]? = some (.cells hc 35 (0, 0)) ∧ Below V.heap.size V wx
section
attribute [-go_sem] run_eql_struct run_eqGuard_agg
attribute [local go_sem] head_eql head_guard
set_option maxRecDepth 100000 in
set_option maxHeartbeats 8000000 in
theorem superPacks_walk (x : HeadP) (v : Value) (bs : List (BitVec 8)) (w : World) (hq : x.I) (hv : BytesAt w.heap.size w v bs) : Calls Try.prog 3 #[.agg x.cells, v] w (Good w) := by
  have hX : (w.alloc (.cells x.cells 26)).heap[w.heap.size]? = some (.cells x.cells 26 (0, 0)) := heap_alloc_new _ _
  have HB := Lib.hid (show Below w.heap.size w (w.alloc (.cells x.cells 26)) from (Below.refl _ _).alloc (Nat.le_refl _) _)
  obtain ⟨w0, hw0⟩ : ∃ w0, w.alloc (.cells x.cells 26) = w0 := ⟨_, rfl⟩
  rw [hw0] at hX HB
  obtain ⟨X, hXe⟩ : ∃ X, w.heap.size = X := ⟨_, rfl⟩
  have HXE := Lib.hid hXe
  rw [hXe] at hX
  have HX := Lib.hid hX
  have HV := Lib.hid hv
  obtain ⟨a, cap, rfl, hcap, _⟩ := id hv
  clear hv hX hXe
  by_cases hl : bs.length ≤ 200
  · have hl1 : (bs.length : Int) ≤ 200 := by omega
    have HLEN := Lib.hid hl
    have HOF := Lib.hid (of_any x)
    have HPK := Lib.hid (spack_any x hq.wf)
    have HRP := Lib.hid (srefPack_any x)
    have HUN : Hid (∀ (u : Value) (W : World), BytesAt W.heap.size W u bs → Calls Try.prog 8 #[.int .i64 x.gen, u] W (SUnp x.gen bs W)) := fun u W h => sunp_any x.gen u bs W h (by omega)
    have HRU : Hid (∀ W, Below w.heap.size w W → Calls Try.prog 9 #[.int .i64 x.gen, .slice a bs.length cap] W (SUnp x.gen bs W)) := fun W hW => srefUnpack_any x.gen _ bs w.heap.size W (HV.out.below hW) hW.size (by omega)
    have HBYT : Hid (∀ W, Below w.heap.size w W → BytesAt w.heap.size W (.slice a bs.length cap) bs) := fun W hW => HV.out.below hW
    obtain ⟨h, hh⟩ : ∃ h, headOf x.gen bs = h := ⟨_, rfl⟩
    obtain ⟨er, her⟩ : ∃ er, headErr x.gen bs = er := ⟨_, rfl⟩
    obtain ⟨ld, hld⟩ : ∃ l, x.load = l := ⟨_, rfl⟩
    obtain ⟨pe, hpe⟩ : ∃ e, x.err = e := ⟨_, rfl⟩
    unfold SUnp at HUN HRU
    unfold SPacked at HPK HRP
    simp only [hh, her] at HUN HRU
    simp only [hld, hpe] at HPK HRP
    clear hh her hld hpe hl hq
    obtain ⟨i0, hi, hz0, hz1, hz2⟩ := info_parts Try.infoU8
    go_enter Try.func3, Try.ntmps3
    go_upto_region 1 with (fail)
    rw [HXE.out]
    clear hw0
    go_upto_region 5 with (first
      | (refine wpList_load_row (o := ⟨some 17, _, _, _, _, _⟩) rfl 26 (.tmp 2) rfl X rfl 26 x.cells (0, 0) _ HX.out Try.underlying26 rfl (kx_sz _) ?_)
      | (go_at_call 6; (with_reducible refine (HOF.out _).mono ?_); rintro e w1 ⟨rfl, hb1⟩; have HB1 := Lib.hid (HB.out.trans (hb1.mono HB.out.size)); have HX1 := Lib.hid ((hb1.block _ (blk_lt HX.out)).trans HX.out); clear hb1)
      | (go_at_call 5; (with_reducible refine (HPK.out _).mono ?_); rintro e w2 ⟨u, rfl, hu2, hb2⟩; have HU2 := Lib.hid (BytesAt.of_owns hu2); have HB2 := Lib.hid (HB1.out.trans (hb2.mono HB1.out.size)); have HX2 := Lib.hid ((hb2.block _ (blk_lt HX1.out)).trans HX1.out); clear hu2 hb2)
      | (refine wpList_load_row (o := ⟨some 23, _, _, _, _, _⟩) rfl 26 (.tmp 2) rfl X rfl 26 x.cells (0, 0) _ HX2.out Try.underlying26 rfl (kx_sz _) ?_)
      | (go_at_call 7; (with_reducible refine (HRP.out _).mono ?_); rintro e w3 ⟨u', rfl, hu3, hb3⟩; have HU3 := Lib.hid (BytesAt.of_owns hu3); have HU23 := Lib.hid (HU2.out.below hb3); have HSZ := Lib.hid hb3.size; have HB3 := Lib.hid (HB2.out.trans (hb3.mono HB2.out.size)); have HX3 := Lib.hid ((hb3.block _ (blk_lt HX2.out)).trans HX2.out); clear hu3 hb3))
    clear HB1 HX1 HB2 HX2 HU2 HPK HRP HX HB
    have HXL := Lib.hid (blk_lt HX3.out)
    obtain ⟨hc, hhc⟩ : ∃ c, h.cells = c := ⟨_, rfl⟩
    have HHC := Lib.hid hhc
    have hone : hc.all (·.oneCell') = true := by rw [← hhc]; exact kh_one h
    have hsz : hc.size = 15 := by rw [← hhc]; rfl
    rw [hhc] at HUN
    have HKEEP : Hid (∀ W, Below w3.heap.size w3 W → W.cell? ⟨X, 8, none⟩ = some (.int .i64 x.gen) ∧ Below w3.heap.size w3 W) := fun W hW => ⟨blk_cell ((hW.block _ HXL.out).trans HX3.out) 8, hW⟩
    have HST : Hid (∀ (W : World) (g : Nat), W.heap[g]? = some (.cells #[.int .i64 0, .int .i64 0, .int .i64 0, .int .i64 0, .int .i64 0, .int .i64 0, .int .i64 0, .int .u64 0, .int .i64 0, .int .i64 0, .int .i64 0, .int .i64 0, .int .i64 0, .int .i64 0, .int .i64 0] 35 (0, 0)) → (storeCells ⟨g, 0, none⟩ hc.toList).run Try.prog W = .ok () (W.setRow g hc)) := fun W g hg => store_cells_row hg (by rw [hsz]; rfl) hone
    have HD0 : Hid (Below w3.heap.size w3 w3.drew) := (Below.refl _ _).drew
    have HA0 : Hid (∀ (W : World) (c : Obj), Below w3.heap.size w3 W → Below w3.heap.size w3 (W.alloc c)) := fun W c hW => hW.alloc hW.size c
    have HW3 : Hid (∀ W, Below w3.heap.size w3 W → BytesAt w.heap.size W (.slice a bs.length cap) bs) := fun W hW => HBYT.out W (HB3.out.trans (hW.mono HB3.out.size))
    have HL1 : Hid (∀ c : Obj, Below w3.heap.size w3 (w3.alloc c).drew) := fun c => ((Below.refl w3.heap.size w3).alloc (Nat.le_refl _) c).drew
    have HL2 : Hid (∀ c d : Obj, Below w3.heap.size w3 ((w3.alloc c).alloc d).drew) := fun c d => (HA0.out _ d (HA0.out _ c (Below.refl _ _))).drew
    clear hhc
    go_cut [9, 10] (fun s9 s10 wx => Unp5 w3 hc er s9 s10 wx)
    case first =>
      go_region_held_law (fun W => W.cell? ⟨X, 8, none⟩ = some (.int .i64 x.gen) ∧ Below w3.heap.size w3 W)
        (first | assumption | exact HKEEP.out _ HB5.out | exact HKEEP.out _ HD0.out | exact HKEEP.out _ (HL1.out _) | exact HKEEP.out _ (HL2.out _ _) | exact HKEEP.out _ (HA0.out _ _ HB4.out) | exact HKEEP.out _ (HA0.out _ _ HB4.out).drew | exact HKEEP.out _ (HA0.out _ _ HB5.out) | exact HKEEP.out _ (HA0.out _ _ HB5.out).drew | exact HKEEP.out _ (below_setRow HB5.out (by have := HB5.out.size; have := HB4.out.size; omega) _) | exact HKEEP.out _ (below_setRow (HA0.out _ _ HB5.out) (by have := HB5.out.size; omega) _))
        (first
          | (refine step_append_bytes (by rfl) (.tmp 30) (.tmp 31) (by rfl) (by rfl) w3.heap.size i0 hi hz0 hz1 hz2 (.slice (some ⟨w3.heap.size, 0, none⟩) 0 0) (by rfl) [] (ownsRow_below (own_empty w3 w3.heap.size (Nat.le_refl _)) (Below.refl _ _).drew) (.slice a bs.length cap) (by rfl) w.heap.size bs (HW3.out _ (HL1.out _)) (by have := HLEN.out; simp; omega) (HL1.out _).size ?_; intro v4 w4 n4 HN4 hown4 hg4 hat4; have hB4 : Below w3.heap.size w3 w4 := (HL1.out _).grown hg4 (HL1.out _).size (fun k e => (World.ownsRow.lt (ownsRow_below (own_empty w3 w3.heap.size (Nat.le_refl _)) (Below.refl _ _).drew) k e).1); have HB4 := Lib.hid hB4; have hS4 := HKEEP.out _ hB4; have hu4 := own_bytesS hown4 HN4.out; obtain ⟨a4, c4, rfl⟩ := owns_slice hown4; have HUB := Lib.hid (fun (W : World) (hW : Below w4.heap.size w4 W) => HUN.out (.slice a4 n4 c4) W ((hu4.below hW).mono hW.size)); clear hown4 hg4 hat4 hB4 hu4)
          | (refine step_append_bytes (by rfl) (.tmp 30) (.tmp 31) (by rfl) (by rfl) w3.heap.size i0 hi hz0 hz1 hz2 (.slice (some ⟨w3.heap.size, 0, none⟩) 0 0) (by rfl) [] (ownsRow_below ((own_empty w3 w3.heap.size (Nat.le_refl _)).alloc (.cells #[.int .i64 0, .int .i64 0, .int .i64 0, .int .i64 0, .int .i64 0, .int .i64 0, .int .i64 0, .int .u64 0, .int .i64 0, .int .i64 0, .int .i64 0, .int .i64 0, .int .i64 0, .int .i64 0, .int .i64 0] 35)) (Below.refl _ _).drew) (.slice a bs.length cap) (by rfl) w.heap.size bs (HW3.out _ (HL2.out _ _)) (by have := HLEN.out; simp; omega) (HL2.out _ _).size ?_; intro v4 w4 n4 HN4 hown4 hg4 hat4; have hB4 : Below w3.heap.size w3 w4 := (HL2.out _ _).grown hg4 (HL2.out _ _).size (fun k e => (World.ownsRow.lt (ownsRow_below ((own_empty w3 w3.heap.size (Nat.le_refl _)).alloc (.cells #[.int .i64 0, .int .i64 0, .int .i64 0, .int .i64 0, .int .i64 0, .int .i64 0, .int .i64 0, .int .u64 0, .int .i64 0, .int .i64 0, .int .i64 0, .int .i64 0, .int .i64 0, .int .i64 0, .int .i64 0] 35)) (Below.refl _ _).drew) k e).1); have HB4 := Lib.hid hB4; have hS4 := HKEEP.out _ hB4; have hu4 := own_bytesS hown4 HN4.out; obtain ⟨a4, c4, rfl⟩ := owns_slice hown4; have HUB := Lib.hid (fun (W : World) (hW : Below w4.heap.size w4 W) => HUN.out (.slice a4 n4 c4) W ((hu4.below hW).mono hW.size)); have HZ4 : Hid (w4.heap[w3.heap.size + 1]? = some (.cells #[.int .i64 0, .int .i64 0, .int .i64 0, .int .i64 0, .int .i64 0, .int .i64 0, .int .i64 0, .int .u64 0, .int .i64 0, .int .i64 0, .int .i64 0, .int .i64 0, .int .i64 0, .int .i64 0, .int .i64 0] 35 (0, 0))) := (hg4.block _ (blk_lt (z5_1 w3 _)) (fun e => own_ne (ownsRow_below ((own_empty w3 w3.heap.size (Nat.le_refl _)).alloc (.cells #[.int .i64 0, .int .i64 0, .int .i64 0, .int .i64 0, .int .i64 0, .int .i64 0, .int .i64 0, .int .u64 0, .int .i64 0, .int .i64 0, .int .i64 0, .int .i64 0, .int .i64 0, .int .i64 0, .int .i64 0] 35)) (Below.refl _ _).drew) (z5_1 w3 _) (by decide) e.symm)).trans (z5_1 w3 _); clear hown4 hg4 hat4 hB4 hu4)
          | (refine step_append_bytes (by rfl) (.tmp 30) (.tmp 31) (by rfl) (by rfl) w3.heap.size i0 hi hz0 hz1 hz2 (.slice (some ⟨w3.heap.size + 1, 0, none⟩) 0 0) (by rfl) [] (ownsRow_below (own_empty_at (w3.alloc (.cells #[.int .i64 0, .int .i64 0, .int .i64 0, .int .i64 0, .int .i64 0, .int .i64 0, .int .i64 0, .int .u64 0, .int .i64 0, .int .i64 0, .int .i64 0, .int .i64 0, .int .i64 0, .int .i64 0, .int .i64 0] 35)) w3.heap.size (w3.heap.size + 1) (by simp) (by omega)) (Below.refl _ _).drew) (.slice a bs.length cap) (by rfl) w.heap.size bs (HW3.out _ (HL2.out _ _)) (by have := HLEN.out; simp; omega) (HL2.out _ _).size ?_; intro v4 w4 n4 HN4 hown4 hg4 hat4; have hB4 : Below w3.heap.size w3 w4 := (HL2.out _ _).grown hg4 (HL2.out _ _).size (fun k e => (World.ownsRow.lt (ownsRow_below (own_empty_at (w3.alloc (.cells #[.int .i64 0, .int .i64 0, .int .i64 0, .int .i64 0, .int .i64 0, .int .i64 0, .int .i64 0, .int .u64 0, .int .i64 0, .int .i64 0, .int .i64 0, .int .i64 0, .int .i64 0, .int .i64 0, .int .i64 0] 35)) w3.heap.size (w3.heap.size + 1) (by simp) (by omega)) (Below.refl _ _).drew) k e).1); have HB4 := Lib.hid hB4; have hS4 := HKEEP.out _ hB4; have hu4 := own_bytesS hown4 HN4.out; obtain ⟨a4, c4, rfl⟩ := owns_slice hown4; have HUB := Lib.hid (fun (W : World) (hW : Below w4.heap.size w4 W) => HUN.out (.slice a4 n4 c4) W ((hu4.below hW).mono hW.size)); have HZ4 : Hid (w4.heap[w3.heap.size]? = some (.cells #[.int .i64 0, .int .i64 0, .int .i64 0, .int .i64 0, .int .i64 0, .int .i64 0, .int .i64 0, .int .u64 0, .int .i64 0, .int .i64 0, .int .i64 0, .int .i64 0, .int .i64 0, .int .i64 0, .int .i64 0] 35 (0, 0))) := (hg4.block _ (blk_lt (z5_2 w3 _)) (fun e => own_ne (ownsRow_below (own_empty_at (w3.alloc (.cells #[.int .i64 0, .int .i64 0, .int .i64 0, .int .i64 0, .int .i64 0, .int .i64 0, .int .i64 0, .int .u64 0, .int .i64 0, .int .i64 0, .int .i64 0, .int .i64 0, .int .i64 0, .int .i64 0, .int .i64 0] 35)) w3.heap.size (w3.heap.size + 1) (by simp) (by omega)) (Below.refl _ _).drew) (z5_2 w3 _) (by decide) e.symm)).trans (z5_2 w3 _); clear hown4 hg4 hat4 hB4 hu4)
          | (go_at_call 8; (with_reducible refine (HUB.out _ (by first | exact Below.refl _ _ | exact (Below.refl _ _).drew | exact (Below.refl _ _).alloc (Nat.le_refl _) _ | exact ((Below.refl _ _).alloc (Nat.le_refl _) _).drew)).mono ?_); rintro e w5 ⟨rfl, hb5⟩; (first | (have HZ5 := Lib.hid ((hb5.block _ (blk_lt HZ4.out)).trans HZ4.out); have hst := HST.out _ _ HZ5.out; have HB5 := Lib.hid (HB4.out.trans (hb5.mono HB4.out.size))) | (have HZ5 : Hid (w5.heap[w4.heap.size]? = some (.cells #[.int .i64 0, .int .i64 0, .int .i64 0, .int .i64 0, .int .i64 0, .int .i64 0, .int .i64 0, .int .u64 0, .int .i64 0, .int .i64 0, .int .i64 0, .int .i64 0, .int .i64 0, .int .i64 0, .int .i64 0] 35 (0, 0))) := (hb5.block _ (blk_lt (heap_alloc_new w4 (.cells #[.int .i64 0, .int .i64 0, .int .i64 0, .int .i64 0, .int .i64 0, .int .i64 0, .int .i64 0, .int .u64 0, .int .i64 0, .int .i64 0, .int .i64 0, .int .i64 0, .int .i64 0, .int .i64 0, .int .i64 0] 35)))).trans (heap_alloc_new w4 _); have hst := HST.out _ _ HZ5.out; have HB5 := Lib.hid ((HA0.out _ _ HB4.out).trans (hb5.mono (HA0.out _ _ HB4.out).size))) | (have hst := HST.out _ _ (heap_alloc_new w5 (.cells #[.int .i64 0, .int .i64 0, .int .i64 0, .int .i64 0, .int .i64 0, .int .i64 0, .int .i64 0, .int .u64 0, .int .i64 0, .int .i64 0, .int .i64 0, .int .i64 0, .int .i64 0, .int .i64 0, .int .i64 0] 35)); have HB5 := Lib.hid (HB4.out.trans (hb5.mono HB4.out.size)))); have hS5 := HKEEP.out _ HB5.out; clear hb5))
      all_goals (go_wp2_with fail)
      all_goals go_meet
      all_goals first | exact ⟨_, rfl, rfl, setRow_heap _ _ _ _ _ _ HZ5.out, below_setRow HB5.out (by have := HB4.out.size; omega) _⟩ | exact ⟨_, rfl, rfl, setRow_heap _ _ _ _ _ _ (heap_alloc_new w5 _), below_setRow (HA0.out _ _ HB5.out) HB5.out.size _⟩ | trace_state
    case rest =>
      obtain ⟨Q, rfl, rfl, hQ, hb4⟩ := hcut
      have c8 := (HKEEP.out _ hb4).1
      have HB4 := Lib.hid (HB3.out.trans (hb4.mono HB3.out.size))
      have HB34 := Lib.hid hb4
      rw [← HHC.out] at hQ
      have HQ := Lib.hid hQ
      have HLU : Hid (∀ W, Below w3.heap.size w3 W → (convert 27 9 u).run Try.prog W = .ok (.string (strB ld)) W ∧ (convert 27 9 u').run Try.prog W = .ok (.string (strB ld)) W) := fun W hW => ⟨conv_str ((HU23.out.mono (Nat.le_trans (HSZ.out) (Nat.le_refl _))).below hW), conv_str (HU3.out.below hW)⟩
      clear hQ hb4 HST HD0 HA0 HW3 HL1 HL2 HKEEP hone hsz HUN HHC
      go_upto_region 7 with (first
        | (go_at_call 9; (with_reducible refine (HRU.out _ HB4.out).mono ?_); rintro e w6 ⟨rfl, hb6⟩; have HB6 := Lib.hid (HB4.out.trans (hb6.mono HB4.out.size)); have HB36 := Lib.hid (HB34.out.trans (hb6.mono HB34.out.size)); have HQ6 := Lib.hid ((hb6.block _ (blk_lt HQ.out)).trans HQ.out); clear hb6)
        | (refine wpList_store_row (o := ⟨none, _, _, _, _, _⟩) rfl 26 (.tmp 11) (.tmp 41) rfl w6.heap.size h.cells rfl rfl 26 HeadP.zero.cells (heap_alloc_new _ _) (khd_sz _) rfl ?_ ?_; exact kh_one _))
      have hY : ((w6.alloc (.cells HeadP.zero.cells 26)).setRow w6.heap.size h.cells).heap[w6.heap.size]? = some (.cells h.cells 26 (0, 0)) := setRow_heap _ _ _ _ _ _ (heap_alloc_new _ _)
      have hbl := blk_lt HQ6.out
      have hQ : ((w6.alloc (.cells HeadP.zero.cells 26)).setRow w6.heap.size h.cells).heap[Q]? = some (.cells h.cells 35 (0, 0)) := by
        rw [setRow_other (by omega), Below.heap_alloc _ _ _ (by omega)]
        exact HQ6.out
      have hbw : Below w6.heap.size w6 ((w6.alloc (.cells HeadP.zero.cells 26)).setRow w6.heap.size h.cells) := below_setRow ((Below.refl _ _).alloc (Nat.le_refl _) _) (Nat.le_refl _) _
      change (Code.region _ _ _).wp _ _ _ ((w6.alloc (.cells HeadP.zero.cells 26)).setRow w6.heap.size h.cells)
      generalize (w6.alloc (.cells HeadP.zero.cells 26)).setRow w6.heap.size h.cells = V at hY hQ hbw ⊢
      have HBV := Lib.hid (HB6.out.trans (hbw.mono HB6.out.size))
      have hb3V := HB36.out.trans (hbw.mono HB36.out.size)
      obtain ⟨Y, hYe⟩ : ∃ Y, w6.heap.size = Y := ⟨_, rfl⟩
      rw [hYe] at hY ⊢
      have cu : ∀ p : After V, (convert 27 9 u).run Try.prog p.v = .ok (.string (strB ld)) p.v := fun p => (HLU.out p.v (hb3V.trans (p.h.mono hb3V.size))).1
      have cv : ∀ p : After V, (convert 27 9 u').run Try.prog p.v = .ok (.string (strB ld)) p.v := fun p => (HLU.out p.v (hb3V.trans (p.h.mono hb3V.size))).2
      have hq1 : ((strB ld).toList == (strB ld).toList) = true := by rw [strB_beq]; simp
      have hq2 : (pe == pe) = true := by simp
      have hq3 : (er == er) = true := by simp
      obtain ⟨ca0, ca1, ca2, ca3, ca4, ca5, ca6, ca7, ca8, ca9, ca10, ca11, ca12, ca13, ca14⟩ : ((∀ p : After V, p.v.cell? ⟨Q, 0, none⟩ = some (.int .i64 h.plan.sectors)) ∧ (∀ p : After V, p.v.cell? ⟨Q, 1, none⟩ = some (.int .i64 h.plan.size)) ∧ (∀ p : After V, p.v.cell? ⟨Q, 2, none⟩ = some (.int .i64 h.plan.regions)) ∧ (∀ p : After V, p.v.cell? ⟨Q, 3, none⟩ = some (.int .i64 h.plan.rs)) ∧ (∀ p : After V, p.v.cell? ⟨Q, 4, none⟩ = some (.int .i64 h.plan.log)) ∧ (∀ p : After V, p.v.cell? ⟨Q, 5, none⟩ = some (.int .i64 h.plan.depth)) ∧ (∀ p : After V, p.v.cell? ⟨Q, 6, none⟩ = some (.int .i64 h.plan.memory)) ∧ (∀ p : After V, p.v.cell? ⟨Q, 7, none⟩ = some (.int .u64 (U h.plan.seed))) ∧ (∀ p : After V, p.v.cell? ⟨Q, 8, none⟩ = some (.int .i64 h.gen)) ∧ (∀ p : After V, p.v.cell? ⟨Q, 9, none⟩ = some (.int .i64 h.page)) ∧ (∀ p : After V, p.v.cell? ⟨Q, 10, none⟩ = some (.int .i64 h.stamp)) ∧ (∀ p : After V, p.v.cell? ⟨Q, 11, none⟩ = some (.int .i64 h.depth)) ∧ (∀ p : After V, p.v.cell? ⟨Q, 12, none⟩ = some (.int .i64 h.log)) ∧ (∀ p : After V, p.v.cell? ⟨Q, 13, none⟩ = some (.int .i64 h.region)) ∧ (∀ p : After V, p.v.cell? ⟨Q, 14, none⟩ = some (.int .i64 h.time))) := ⟨after_cell (blk_cell hQ 0), after_cell (blk_cell hQ 1), after_cell (blk_cell hQ 2), after_cell (blk_cell hQ 3), after_cell (blk_cell hQ 4), after_cell (blk_cell hQ 5), after_cell (blk_cell hQ 6), after_cell (blk_cell hQ 7), after_cell (blk_cell hQ 8), after_cell (blk_cell hQ 9), after_cell (blk_cell hQ 10), after_cell (blk_cell hQ 11), after_cell (blk_cell hQ 12), after_cell (blk_cell hQ 13), after_cell (blk_cell hQ 14)⟩
      obtain ⟨cb0, cb1, cb2, cb3, cb4, cb5, cb6, cb7, cb8, cb9, cb10, cb11, cb12, cb13, cb14⟩ : ((∀ p : After V, p.v.cell? ⟨Y, 0, none⟩ = some (.int .i64 h.plan.sectors)) ∧ (∀ p : After V, p.v.cell? ⟨Y, 1, none⟩ = some (.int .i64 h.plan.size)) ∧ (∀ p : After V, p.v.cell? ⟨Y, 2, none⟩ = some (.int .i64 h.plan.regions)) ∧ (∀ p : After V, p.v.cell? ⟨Y, 3, none⟩ = some (.int .i64 h.plan.rs)) ∧ (∀ p : After V, p.v.cell? ⟨Y, 4, none⟩ = some (.int .i64 h.plan.log)) ∧ (∀ p : After V, p.v.cell? ⟨Y, 5, none⟩ = some (.int .i64 h.plan.depth)) ∧ (∀ p : After V, p.v.cell? ⟨Y, 6, none⟩ = some (.int .i64 h.plan.memory)) ∧ (∀ p : After V, p.v.cell? ⟨Y, 7, none⟩ = some (.int .u64 (U h.plan.seed))) ∧ (∀ p : After V, p.v.cell? ⟨Y, 8, none⟩ = some (.int .i64 h.gen)) ∧ (∀ p : After V, p.v.cell? ⟨Y, 9, none⟩ = some (.int .i64 h.page)) ∧ (∀ p : After V, p.v.cell? ⟨Y, 10, none⟩ = some (.int .i64 h.stamp)) ∧ (∀ p : After V, p.v.cell? ⟨Y, 11, none⟩ = some (.int .i64 h.depth)) ∧ (∀ p : After V, p.v.cell? ⟨Y, 12, none⟩ = some (.int .i64 h.log)) ∧ (∀ p : After V, p.v.cell? ⟨Y, 13, none⟩ = some (.int .i64 h.region)) ∧ (∀ p : After V, p.v.cell? ⟨Y, 14, none⟩ = some (.int .i64 h.time))) := ⟨after_cell (blk_cell hY 0), after_cell (blk_cell hY 1), after_cell (blk_cell hY 2), after_cell (blk_cell hY 3), after_cell (blk_cell hY 4), after_cell (blk_cell hY 5), after_cell (blk_cell hY 6), after_cell (blk_cell hY 7), after_cell (blk_cell hY 8), after_cell (blk_cell hY 9), after_cell (blk_cell hY 10), after_cell (blk_cell hY 11), after_cell (blk_cell hY 12), after_cell (blk_cell hY 13), after_cell (blk_cell hY 14)⟩
      have HC : Hid (h.cells = #[.int .i64 h.plan.sectors, .int .i64 h.plan.size, .int .i64 h.plan.regions, .int .i64 h.plan.rs, .int .i64 h.plan.log, .int .i64 h.plan.depth, .int .i64 h.plan.memory, .int .u64 (U h.plan.seed), .int .i64 h.gen, .int .i64 h.page, .int .i64 h.stamp, .int .i64 h.depth, .int .i64 h.log, .int .i64 h.region, .int .i64 h.time]) := rfl
      have HOFH := Lib.hid (of_any h)
      rw [HC.out] at HOFH
      have HAW := Lib.hid awake10
      clear hY hQ hbw hbl hYe HC HOF HRU HB4 HB34 HQ HB6 HB36 HQ6 HLU HU3 HU23 HX3 HB3 HSZ HV HBYT HXL c8 hb3V
      refine wp_region_after (by kernel_rfl) (by kernel_rfl) ?_
      repeat (go_big_quiet_step ((first | (go_at_call 6; with_reducible exact after_call (HOFH.out _)) | (go_at_call 10; with_reducible exact after_call (HAW.out _)))))
      refine wpQuiet_nil ?_
      rintro W9 ⟨⟨_, hW9⟩, rfl⟩
      have HW9 := Lib.hid (HBV.out.trans (hW9.mono HBV.out.size))
      clear hW9 cu cv ca0 ca1 ca2 ca3 ca4 ca5 ca6 ca7 ca8 ca9 ca10 ca11 ca12 ca13 ca14 cb0 cb1 cb2 cb3 cb4 cb5 cb6 cb7 cb8 cb9 cb10 cb11 cb12 cb13 cb14
      go_wp2
      go_ret
      exact ⟨rfl, HW9.out⟩
  · have hl1 : 200 < (bs.length : Int) := by omega
    go_enter Try.func3, Try.ntmps3
    go_upto_region 1 with (fail)
    clear hw0
    go_wp2
    go_ret
    exact ⟨rfl, HB.out⟩
end
set_option maxRecDepth 100000 in
theorem superPacks_lifted (os : Os) (started : os.Started) (H : Type) (enc : TypeId × Value → H) :
    ReturnsInHanded {} Try.checked os 3 .any (Rows.superPacksSpec.pre6 enc Try.prog Try.f3 Rows.superPacksRow.domain false) (Rows.superPacksSpec.post enc Try.prog Try.f3 false true false false) :=
  law_lifted 3 Try.f3 Rows.superPacksSpec Try.func3 (by kernel_rfl) rfl rfl
    (fun ds h => by match ds, h with | [_, _], _ => rfl) (by kernel_rfl) os started
    (ChangeSpec.witness6 (enc := enc) (C := Try.checked) false ⟨#[], #[.agg #[.int .i64 0, .int .i64 0, .int .i64 0, .int .i64 0, .int .i64 0, .int .i64 0, .int .i64 0, .int .u64 0, .int .i64 0, .int .i64 0, .int .i64 0, .int .i64 0, .int .i64 0, .int .i64 0, .int .i64 0], .slice none 0 0], []⟩ 8 (by kernel_rfl) (by kernel_rfl) (by kernel_rfl) (by kernel_rfl))
    fun W args ds ps hval hA => by
      rw [Try.params3] at hA hval
      obtain ⟨v0, vs0, d0, ds0, p0, q0, hargs, rfl, rfl, h0, r0⟩ := trodAll_cons hA
      obtain ⟨v1, vs1, d1, ds1, p1, q1, rfl, rfl, rfl, h1, r1⟩ := trodAll_cons r0
      obtain ⟨rfl, rfl, rfl⟩ := trodAll_nil r1
      obtain rfl : args = #[v0, v1] := by cases args; simp_all
      obtain ⟨b0, o0⟩ := hval 0 _ v0 rfl rfl
      obtain ⟨b1, o1⟩ := hval 1 _ v1 rfl rfl
      obtain ⟨x0, rfl, hq0⟩ := open_head o0 h0
      obtain ⟨bs1, hb1, hm1⟩ := open_bytes o1 h1
      exact superPacks_walk x0 _ bs1 W hq0 hb1

/-- The statement. -/
theorem superPacks_holds : Rows.SuperPacksSaid :=
  OpenClaim.holds_of_wide 3 Try.f3 rfl rfl rfl rfl rfl rfl rfl ⟨rfl, rfl, rfl, rfl, rfl⟩ rfl rfl rfl rfl rfl (by kernel_rfl) Try.func3 (by kernel_rfl)
    (of_decide_eq_true (by kernel_rfl)) (by unfold Func.isWrapper; first | (rw [if_pos (by decide +kernel)]; kernel_rfl) | (rw [if_neg (by decide +kernel)]; exact ⟨rfl, rfl⟩))
    (fun os started H enc _ => superPacks_lifted os started H enc)
#print axioms superPacks_holds
end Go.Proofs.Ytfdipeaddofjaaa

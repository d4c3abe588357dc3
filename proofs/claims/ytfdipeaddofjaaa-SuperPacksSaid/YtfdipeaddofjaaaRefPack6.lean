/-
  The document's answer for a plan's bytes: sgraffitoref06.Pack.
  Conditions: none.
-/
import Derived.Test.YtfdipeaddofjaaaPlanPack
import Derived.Test.YtfdipeaddofjaaaRef03
import Derived.Test.YtfdipeaddofjaaaJP2
namespace Go.Proofs.Ytfdipeaddofjaaa
open Go.RowKit

def PAt (w0 : World) (v : Value) (row : List (BitVec 8)) (W : World) : Prop := W.ownsRow w0.heap.size 5 1 v row.length (cellsOf row) ∧ Below w0.heap.size w0 W
theorem PAt.behind {w0 W W' : World} {v : Value} {row : List (BitVec 8)} (h : PAt w0 v row W) (hb : Below W.heap.size W W') : PAt w0 v row W' :=
  ⟨(Moves.of_below (S := fun _ => False) hb).row h.1 (fun _ _ h => h), h.2.trans (hb.mono h.2.size)⟩
theorem PAt.app {w0 W w1 : World} {v v1 : Value} {row bs : List (BitVec 8)} {n : Nat} (h : PAt w0 v row W) (hn : n = (row ++ bs).length) (ho : w1.ownsRow w0.heap.size 5 1 v1 n (cellsOf (row ++ bs))) (hg : W.grownBy w1 v.ownBlock) : PAt w0 v1 (row ++ bs) w1 := by
  subst hn
  exact ⟨ho, h.2.grown hg h.2.size (fun k e => (h.1.lt k e).1)⟩
theorem refNumP (i : Int) (k : Nat) (hk : mayB k = true) (W : World) : Calls Try.prog 30 #[.int .u64 (IntKind.u64.wrap i), .int .i64 k] W fun e w' => ∃ u, e = .returned u ∧ BytesAt w'.heap.size w' u (leB k (BitVec.ofInt 64 i)) ∧ Below W.heap.size W w' := by
  rw [wrap_u64_mod]
  refine (refNumber_yes (BitVec.ofInt 64 i) k hk W).mono ?_
  rintro e w' ⟨u, he, hu, hb⟩
  exact ⟨u, he, BytesAt.of_owns (by rw [leB_len]; exact hu), hb⟩
theorem refNumQ (x : BitVec 64) (k : Nat) (hk : mayB k = true) (W : World) : Calls Try.prog 30 #[.int .u64 (U x), .int .i64 k] W fun e w' => ∃ u, e = .returned u ∧ BytesAt w'.heap.size w' u (leB k x) ∧ Below W.heap.size W w' := by
  refine (refNumber_yes x k hk W).mono ?_
  rintro e w' ⟨u, he, hu, hb⟩
  exact ⟨u, he, BytesAt.of_owns (by rw [leB_len]; exact hu), hb⟩
theorem planC_cells {w0 W : World} {X : Nat} {p : PlanP} {t : TypeId} (h : w0.heap[X]? = some (.cells p.cells t (0, 0))) (hb : Below w0.heap.size w0 W) :
    W.cell? ⟨X, 0, none⟩ = some (.int .i64 p.sectors) ∧ W.cell? ⟨X, 1, none⟩ = some (.int .i64 p.size) ∧ W.cell? ⟨X, 2, none⟩ = some (.int .i64 p.regions) ∧ W.cell? ⟨X, 3, none⟩ = some (.int .i64 p.rs) ∧ W.cell? ⟨X, 4, none⟩ = some (.int .i64 p.log) ∧ W.cell? ⟨X, 5, none⟩ = some (.int .i64 p.depth) ∧ W.cell? ⟨X, 6, none⟩ = some (.int .i64 p.memory) ∧ W.cell? ⟨X, 7, none⟩ = some (.int .u64 (U p.seed)) := by
  have h1 := (hb.block _ (blk_lt h)).trans h
  exact ⟨blk_cell h1 0, blk_cell h1 1, blk_cell h1 2, blk_cell h1 3, blk_cell h1 4, blk_cell h1 5, blk_cell h1 6, blk_cell h1 7⟩

set_option maxRecDepth 100000 in
set_option maxHeartbeats 8000000 in
theorem refPack_any (p : PlanP) (w : World) : Calls Try.prog 29 #[.agg p.cells] w fun e w' => ∃ u, e = .returned u ∧ w'.ownsRow w.heap.size 5 1 u p.bytes.length (cellsOf p.bytes) ∧ Below w.heap.size w w' := by
  have HB0 := Lib.hid ((Below.refl w.heap.size w).alloc (Nat.le_refl _) (.cells p.cells 24))
  have hX : (w.alloc (.cells p.cells 24)).heap[w.heap.size]? = some (.cells p.cells 24 (0, 0)) := heap_alloc_new _ _
  have HD : Hid (p.cells = #[.int .i64 p.sectors, .int .i64 p.size, .int .i64 p.regions, .int .i64 p.rs, .int .i64 p.log, .int .i64 p.depth, .int .i64 p.memory, .int .u64 (U p.seed)]) := rfl
  have HFORM : Hid ([] ++ leB 4 (BitVec.ofInt 64 p.sectors) ++ leB 4 (BitVec.ofInt 64 p.size) ++ leB 2 (BitVec.ofInt 64 p.regions) ++ leB 2 (BitVec.ofInt 64 p.rs) ++ leB 2 (BitVec.ofInt 64 p.log) ++ leB 2 (BitVec.ofInt 64 p.depth) ++ leB 2 (BitVec.ofInt 64 p.memory) ++ leB 8 p.seed = p.bytes) := by
    unfold Hid PlanP.bytes PlanP.parts
    simp [List.append_assoc]
  obtain ⟨w0, hw0⟩ : ∃ w0, w.alloc (.cells p.cells 24) = w0 := ⟨_, rfl⟩
  obtain ⟨X, hXe⟩ : ∃ X, w.heap.size = X := ⟨_, rfl⟩
  rw [hw0, hXe] at hX
  rw [hw0] at HB0
  have HX := Lib.hid hX
  have HXE := Lib.hid hXe
  obtain ⟨d0, d1, d2, d3, d4, d5, d6, d7⟩ := planC_cells hX (Below.refl w0.heap.size w0)
  obtain ⟨i0, hi, hz0, hz1, hz2⟩ := info_parts Try.infoU8
  have HR0 : Hid (PAt w0 (.slice none 0 0) [] w0) := ⟨World.ownsRow_nil _ _ _ _, Below.refl _ _⟩
  have HN := Lib.hid (fun (i : Int) W => (show Calls Try.prog 30 #[.int .u64 (IntKind.u64.wrap i), .int .i64 4] W (fun e w' => ∃ u, e = .returned u ∧ BytesAt w'.heap.size w' u (leB 4 (BitVec.ofInt 64 i)) ∧ Below W.heap.size W w') from refNumP i 4 rfl W))
  have HM := Lib.hid (fun (i : Int) W => (show Calls Try.prog 30 #[.int .u64 (IntKind.u64.wrap i), .int .i64 2] W (fun e w' => ∃ u, e = .returned u ∧ BytesAt w'.heap.size w' u (leB 2 (BitVec.ofInt 64 i)) ∧ Below W.heap.size W w') from refNumP i 2 rfl W))
  have HQ := Lib.hid (fun (x : BitVec 64) W => (show Calls Try.prog 30 #[.int .u64 (U x), .int .i64 8] W (fun e w' => ∃ u, e = .returned u ∧ BytesAt w'.heap.size w' u (leB 8 x) ∧ Below W.heap.size W w') from refNumQ x 8 rfl W))
  rw [HD.out] at hw0 ⊢
  clear hX hXe
  go_enter Try.func29, Try.ntmps29
  go_upto_region 1 with (fail)
  rw [HXE.out]
  clear hw0
  go_wp2_with (first
    | (at_builtin; (refine wpList_append_bytes rfl (.tmp 46) (.tmp 49) rfl rfl w0.heap.size i0 hi hz0 hz1 hz2 _ rfl _ HR15.out.1 _ rfl _ _ HU15.out (by simp [leB_len]) HR15.out.2.size ?_); intro v16 w16 n16 hn hown hg _; have HR16 := Lib.hid (PAt.app HR15.out hn.out hown hg); obtain ⟨d0, d1, d2, d3, d4, d5, d6, d7⟩ := planC_cells HX.out HR16.out.2; clear hn hown hg)
    | (at_builtin; (refine wpList_append_bytes rfl (.tmp 40) (.tmp 44) rfl rfl w0.heap.size i0 hi hz0 hz1 hz2 _ rfl _ HR13.out.1 _ rfl _ _ HU13.out (by simp [leB_len]) HR13.out.2.size ?_); intro v14 w14 n14 hn hown hg _; have HR14 := Lib.hid (PAt.app HR13.out hn.out hown hg); obtain ⟨d0, d1, d2, d3, d4, d5, d6, d7⟩ := planC_cells HX.out HR14.out.2; clear hn hown hg)
    | (at_builtin; (refine wpList_append_bytes rfl (.tmp 34) (.tmp 38) rfl rfl w0.heap.size i0 hi hz0 hz1 hz2 _ rfl _ HR11.out.1 _ rfl _ _ HU11.out (by simp [leB_len]) HR11.out.2.size ?_); intro v12 w12 n12 hn hown hg _; have HR12 := Lib.hid (PAt.app HR11.out hn.out hown hg); obtain ⟨d0, d1, d2, d3, d4, d5, d6, d7⟩ := planC_cells HX.out HR12.out.2; clear hn hown hg)
    | (at_builtin; (refine wpList_append_bytes rfl (.tmp 28) (.tmp 32) rfl rfl w0.heap.size i0 hi hz0 hz1 hz2 _ rfl _ HR9.out.1 _ rfl _ _ HU9.out (by simp [leB_len]) HR9.out.2.size ?_); intro v10 w10 n10 hn hown hg _; have HR10 := Lib.hid (PAt.app HR9.out hn.out hown hg); obtain ⟨d0, d1, d2, d3, d4, d5, d6, d7⟩ := planC_cells HX.out HR10.out.2; clear hn hown hg)
    | (at_builtin; (refine wpList_append_bytes rfl (.tmp 22) (.tmp 26) rfl rfl w0.heap.size i0 hi hz0 hz1 hz2 _ rfl _ HR7.out.1 _ rfl _ _ HU7.out (by simp [leB_len]) HR7.out.2.size ?_); intro v8 w8 n8 hn hown hg _; have HR8 := Lib.hid (PAt.app HR7.out hn.out hown hg); obtain ⟨d0, d1, d2, d3, d4, d5, d6, d7⟩ := planC_cells HX.out HR8.out.2; clear hn hown hg)
    | (at_builtin; (refine wpList_append_bytes rfl (.tmp 16) (.tmp 20) rfl rfl w0.heap.size i0 hi hz0 hz1 hz2 _ rfl _ HR5.out.1 _ rfl _ _ HU5.out (by simp [leB_len]) HR5.out.2.size ?_); intro v6 w6 n6 hn hown hg _; have HR6 := Lib.hid (PAt.app HR5.out hn.out hown hg); obtain ⟨d0, d1, d2, d3, d4, d5, d6, d7⟩ := planC_cells HX.out HR6.out.2; clear hn hown hg)
    | (at_builtin; (refine wpList_append_bytes rfl (.tmp 10) (.tmp 14) rfl rfl w0.heap.size i0 hi hz0 hz1 hz2 _ rfl _ HR3.out.1 _ rfl _ _ HU3.out (by simp [leB_len]) HR3.out.2.size ?_); intro v4 w4 n4 hn hown hg _; have HR4 := Lib.hid (PAt.app HR3.out hn.out hown hg); obtain ⟨d0, d1, d2, d3, d4, d5, d6, d7⟩ := planC_cells HX.out HR4.out.2; clear hn hown hg)
    | (at_builtin; (refine wpList_append_bytes rfl (.tmp 4) (.tmp 8) rfl rfl w0.heap.size i0 hi hz0 hz1 hz2 _ rfl _ HR1.out.1 _ rfl _ _ HU1.out (by simp [leB_len]) HR1.out.2.size ?_); intro v2 w2 n2 hn hown hg _; have HR2 := Lib.hid (PAt.app HR1.out hn.out hown hg); obtain ⟨d0, d1, d2, d3, d4, d5, d6, d7⟩ := planC_cells HX.out HR2.out.2; clear hn hown hg)
    | (go_at_call 30; (with_reducible refine (HQ.out _ _).mono ?_); rintro e w15 ⟨u15, rfl, hu, hb⟩; have HU15 := Lib.hid hu; have HR15 := Lib.hid (HR14.out.behind hb); obtain ⟨d0, d1, d2, d3, d4, d5, d6, d7⟩ := planC_cells HX.out HR15.out.2; clear hu hb)
    | (go_at_call 30; (with_reducible refine (HM.out _ _).mono ?_); rintro e w13 ⟨u13, rfl, hu, hb⟩; have HU13 := Lib.hid hu; have HR13 := Lib.hid (HR12.out.behind hb); obtain ⟨d0, d1, d2, d3, d4, d5, d6, d7⟩ := planC_cells HX.out HR13.out.2; clear hu hb)
    | (go_at_call 30; (with_reducible refine (HM.out _ _).mono ?_); rintro e w11 ⟨u11, rfl, hu, hb⟩; have HU11 := Lib.hid hu; have HR11 := Lib.hid (HR10.out.behind hb); obtain ⟨d0, d1, d2, d3, d4, d5, d6, d7⟩ := planC_cells HX.out HR11.out.2; clear hu hb)
    | (go_at_call 30; (with_reducible refine (HM.out _ _).mono ?_); rintro e w9 ⟨u9, rfl, hu, hb⟩; have HU9 := Lib.hid hu; have HR9 := Lib.hid (HR8.out.behind hb); obtain ⟨d0, d1, d2, d3, d4, d5, d6, d7⟩ := planC_cells HX.out HR9.out.2; clear hu hb)
    | (go_at_call 30; (with_reducible refine (HM.out _ _).mono ?_); rintro e w7 ⟨u7, rfl, hu, hb⟩; have HU7 := Lib.hid hu; have HR7 := Lib.hid (HR6.out.behind hb); obtain ⟨d0, d1, d2, d3, d4, d5, d6, d7⟩ := planC_cells HX.out HR7.out.2; clear hu hb)
    | (go_at_call 30; (with_reducible refine (HM.out _ _).mono ?_); rintro e w5 ⟨u5, rfl, hu, hb⟩; have HU5 := Lib.hid hu; have HR5 := Lib.hid (HR4.out.behind hb); obtain ⟨d0, d1, d2, d3, d4, d5, d6, d7⟩ := planC_cells HX.out HR5.out.2; clear hu hb)
    | (go_at_call 30; (with_reducible refine (HN.out _ _).mono ?_); rintro e w3 ⟨u3, rfl, hu, hb⟩; have HU3 := Lib.hid hu; have HR3 := Lib.hid (HR2.out.behind hb); obtain ⟨d0, d1, d2, d3, d4, d5, d6, d7⟩ := planC_cells HX.out HR3.out.2; clear hu hb)
    | (go_at_call 30; (with_reducible refine (HN.out _ _).mono ?_); rintro e w1 ⟨u1, rfl, hu, hb⟩; have HU1 := Lib.hid hu; have HR1 := Lib.hid (HR0.out.behind hb); obtain ⟨d0, d1, d2, d3, d4, d5, d6, d7⟩ := planC_cells HX.out HR1.out.2; clear hu hb))
  go_ret
  have h16 := HR16.out
  rw [HFORM.out] at h16
  refine ⟨_, rfl, ?_, HB0.out.trans (h16.2.mono HB0.out.size)⟩
  exact (by
    obtain ⟨h1, h2⟩ := h16.1
    refine ⟨h1, ?_⟩
    rcases h2 with h2 | ⟨g, cap, cur, r1, r2, r3, r4⟩
    · exact .inl h2
    · exact .inr ⟨g, cap, cur, r1, Nat.le_trans HB0.out.size r2, r3, r4⟩)
end Go.Proofs.Ytfdipeaddofjaaa

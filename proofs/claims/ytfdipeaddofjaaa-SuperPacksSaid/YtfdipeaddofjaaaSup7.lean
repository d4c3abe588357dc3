/-
  super.greatestFirst: heads sorted by their generations, the greatest first (of two at most).
  Conditions: none.
-/
import Derived.Test.YtfdipeaddofjaaaSup6
import Derived.Test.YtfdipeaddofjaaaSortLay
import Derived.Deep.RegionHeld3
namespace Go.Proofs.Ytfdipeaddofjaaa
open Go.RowKit Go.Shelf

/-! Worlds with blocks behind -/
def Gr (W V : World) : Prop := ∃ q os, V = Go.Sort.grow (W.drewN q) os
theorem Gr.refl (W : World) : Gr W W := ⟨0, #[], by simp [World.drewN]⟩
theorem Gr.alloc {W V : World} (h : Gr W V) (o : Obj) : Gr W (V.alloc o) := by
  obtain ⟨q, os, rfl⟩ := h
  exact ⟨q, os ++ #[o], by rw [Go.Sort.alloc_eq_grow, Go.Sort.grow_grow]⟩
theorem Gr.drew {W V : World} (h : Gr W V) : Gr W V.drew := by
  obtain ⟨q, os, rfl⟩ := h
  exact ⟨q + 1, os, rfl⟩
theorem Gr.blk {W V : World} (h : Gr W V) {g : Nat} {o : Obj} (hg : W.heap[g]? = some o) : V.heap[g]? = some o := by
  obtain ⟨q, os, rfl⟩ := h
  rw [Go.Sort.heap_grow_old _ _ (show g < (W.drewN q).heap.size from (Array.getElem?_eq_some_iff.1 hg).1)]
  exact hg
theorem gen_any (x : HeadP) (V : World) : Calls Try.prog 48 #[.agg x.cells] V fun e w' => e = .returned (.int .i64 x.gen) ∧ w' = V.alloc (.cells x.cells 35) := by
  have HC : Hid (x.cells = #[.int .i64 x.plan.sectors, .int .i64 x.plan.size, .int .i64 x.plan.regions, .int .i64 x.plan.rs, .int .i64 x.plan.log, .int .i64 x.plan.depth, .int .i64 x.plan.memory, .int .u64 (U x.plan.seed), .int .i64 x.gen, .int .i64 x.page, .int .i64 x.stamp, .int .i64 x.depth, .int .i64 x.log, .int .i64 x.region, .int .i64 x.time]) := rfl
  rw [HC.out]
  go_enter Try.func48, Try.ntmps48
  go_wp2
  go_ret
  exact ⟨rfl, rfl⟩
theorem cmpInt_any (a b : Int) (W : World) : Calls Try.prog 70 #[.int .i64 a, .int .i64 b] W fun e w' => e = .returned (.int .i64 (Lib.compareInt a b)) ∧ w' = W := AnyG.cmp_Compare_int cmpInt a b W

set_option maxRecDepth 100000 in
set_option maxHeartbeats 8000000 in
theorem clos_any (x y : HeadP) (Nb : Nat) (t : TypeId) (W : World) (hN : W.heap[Nb]? = some (.cells #[.func (.func 48) #[] #[]] t (0, 0))) :
    Calls Try.prog 69 #[.agg x.cells, .agg y.cells, .pointer (some ⟨Nb, 0, none⟩)] W fun e w' => e = .returned (.int .i64 (Lib.compareInt y.gen x.gen)) ∧ ∃ q os', w' = Go.Sort.grow (W.drewN q) os' := by
  obtain ⟨W2, hW2⟩ : ∃ W2, (W.alloc (.cells x.cells 35)).alloc (.cells y.cells 35) = W2 := ⟨_, rfl⟩
  have hx : W2.heap[W.heap.size]? = some (.cells x.cells 35 (0, 0)) := by rw [← hW2]; exact blk_alloc (heap_alloc_new _ _) _
  have hy : W2.heap[W.heap.size + 1]? = some (.cells y.cells 35 (0, 0)) := by
    rw [← hW2]
    have := heap_alloc_new (W.alloc (.cells x.cells 35)) (.cells y.cells 35)
    simpa using this
  have hn : W2.heap[Nb]? = some (.cells #[.func (.func 48) #[] #[]] t (0, 0)) := by rw [← hW2]; exact blk_alloc (blk_alloc hN _) _
  have HG0 := Lib.hid (show Gr W W2 from by rw [← hW2]; exact ((Gr.refl W).alloc _).alloc _)
  have HSC : Hid (∀ V, Gr W2 V → V.cell? ⟨W.heap.size, 0, none⟩ = some (.int .i64 x.plan.sectors) ∧ V.cell? ⟨W.heap.size, 1, none⟩ = some (.int .i64 x.plan.size) ∧ V.cell? ⟨W.heap.size, 2, none⟩ = some (.int .i64 x.plan.regions) ∧ V.cell? ⟨W.heap.size, 3, none⟩ = some (.int .i64 x.plan.rs) ∧ V.cell? ⟨W.heap.size, 4, none⟩ = some (.int .i64 x.plan.log) ∧ V.cell? ⟨W.heap.size, 5, none⟩ = some (.int .i64 x.plan.depth) ∧ V.cell? ⟨W.heap.size, 6, none⟩ = some (.int .i64 x.plan.memory) ∧ V.cell? ⟨W.heap.size, 7, none⟩ = some (.int .u64 (U x.plan.seed)) ∧ V.cell? ⟨W.heap.size, 8, none⟩ = some (.int .i64 x.gen) ∧ V.cell? ⟨W.heap.size, 9, none⟩ = some (.int .i64 x.page) ∧ V.cell? ⟨W.heap.size, 10, none⟩ = some (.int .i64 x.stamp) ∧ V.cell? ⟨W.heap.size, 11, none⟩ = some (.int .i64 x.depth) ∧ V.cell? ⟨W.heap.size, 12, none⟩ = some (.int .i64 x.log) ∧ V.cell? ⟨W.heap.size, 13, none⟩ = some (.int .i64 x.region) ∧ V.cell? ⟨W.heap.size, 14, none⟩ = some (.int .i64 x.time) ∧ V.cell? ⟨W.heap.size + 1, 0, none⟩ = some (.int .i64 y.plan.sectors) ∧ V.cell? ⟨W.heap.size + 1, 1, none⟩ = some (.int .i64 y.plan.size) ∧ V.cell? ⟨W.heap.size + 1, 2, none⟩ = some (.int .i64 y.plan.regions) ∧ V.cell? ⟨W.heap.size + 1, 3, none⟩ = some (.int .i64 y.plan.rs) ∧ V.cell? ⟨W.heap.size + 1, 4, none⟩ = some (.int .i64 y.plan.log) ∧ V.cell? ⟨W.heap.size + 1, 5, none⟩ = some (.int .i64 y.plan.depth) ∧ V.cell? ⟨W.heap.size + 1, 6, none⟩ = some (.int .i64 y.plan.memory) ∧ V.cell? ⟨W.heap.size + 1, 7, none⟩ = some (.int .u64 (U y.plan.seed)) ∧ V.cell? ⟨W.heap.size + 1, 8, none⟩ = some (.int .i64 y.gen) ∧ V.cell? ⟨W.heap.size + 1, 9, none⟩ = some (.int .i64 y.page) ∧ V.cell? ⟨W.heap.size + 1, 10, none⟩ = some (.int .i64 y.stamp) ∧ V.cell? ⟨W.heap.size + 1, 11, none⟩ = some (.int .i64 y.depth) ∧ V.cell? ⟨W.heap.size + 1, 12, none⟩ = some (.int .i64 y.log) ∧ V.cell? ⟨W.heap.size + 1, 13, none⟩ = some (.int .i64 y.region) ∧ V.cell? ⟨W.heap.size + 1, 14, none⟩ = some (.int .i64 y.time) ∧ V.cell? ⟨Nb, 0, none⟩ = some (.func (.func 48) #[] #[])) := fun V h => by
    obtain ⟨a0, a1, a2, a3, a4, a5, a6, a7, a8, a9, a10, a11, a12, a13, a14⟩ := head_all (h.blk hx) (Below.refl _ _)
    obtain ⟨b0, b1, b2, b3, b4, b5, b6, b7, b8, b9, b10, b11, b12, b13, b14⟩ := head_all (h.blk hy) (Below.refl _ _)
    exact ⟨a0, a1, a2, a3, a4, a5, a6, a7, a8, a9, a10, a11, a12, a13, a14, b0, b1, b2, b3, b4, b5, b6, b7, b8, b9, b10, b11, b12, b13, b14, blk_cell (h.blk hn) 0⟩
  have HGX : Hid (∀ V, Calls Try.prog 48 #[.agg #[.int .i64 x.plan.sectors, .int .i64 x.plan.size, .int .i64 x.plan.regions, .int .i64 x.plan.rs, .int .i64 x.plan.log, .int .i64 x.plan.depth, .int .i64 x.plan.memory, .int .u64 (U x.plan.seed), .int .i64 x.gen, .int .i64 x.page, .int .i64 x.stamp, .int .i64 x.depth, .int .i64 x.log, .int .i64 x.region, .int .i64 x.time]] V fun e w' => e = .returned (.int .i64 x.gen) ∧ w' = V.alloc (.cells x.cells 35)) := fun V => gen_any x V
  have HGY : Hid (∀ V, Calls Try.prog 48 #[.agg #[.int .i64 y.plan.sectors, .int .i64 y.plan.size, .int .i64 y.plan.regions, .int .i64 y.plan.rs, .int .i64 y.plan.log, .int .i64 y.plan.depth, .int .i64 y.plan.memory, .int .u64 (U y.plan.seed), .int .i64 y.gen, .int .i64 y.page, .int .i64 y.stamp, .int .i64 y.depth, .int .i64 y.log, .int .i64 y.region, .int .i64 y.time]] V fun e w' => e = .returned (.int .i64 y.gen) ∧ w' = V.alloc (.cells y.cells 35)) := fun V => gen_any y V
  have HCM := Lib.hid (fun V => cmpInt_any y.gen x.gen V)
  have HTR : Hid (∀ V, Gr W2 V → Gr W V) := by
    rintro V ⟨q, os, rfl⟩
    obtain ⟨q2, os2, e⟩ := HG0.out
    rw [e]
    exact ⟨q2 + q, os2 ++ os, by rw [← Go.Sort.grow_grow]; congr 1; simp [World.drewN, Go.Sort.grow, Nat.add_assoc]⟩
  clear hx hy hn hN
  go_enter Try.func69, Try.ntmps69
  go_upto_region 1 with (fail)
  clear hW2
  have HG := Lib.hid ((Gr.refl W2).drew)
  go_region_held3 (fun V => V.cell? ⟨W.heap.size, 0, none⟩ = some (.int .i64 x.plan.sectors) ∧ V.cell? ⟨W.heap.size, 1, none⟩ = some (.int .i64 x.plan.size) ∧ V.cell? ⟨W.heap.size, 2, none⟩ = some (.int .i64 x.plan.regions) ∧ V.cell? ⟨W.heap.size, 3, none⟩ = some (.int .i64 x.plan.rs) ∧ V.cell? ⟨W.heap.size, 4, none⟩ = some (.int .i64 x.plan.log) ∧ V.cell? ⟨W.heap.size, 5, none⟩ = some (.int .i64 x.plan.depth) ∧ V.cell? ⟨W.heap.size, 6, none⟩ = some (.int .i64 x.plan.memory) ∧ V.cell? ⟨W.heap.size, 7, none⟩ = some (.int .u64 (U x.plan.seed)) ∧ V.cell? ⟨W.heap.size, 8, none⟩ = some (.int .i64 x.gen) ∧ V.cell? ⟨W.heap.size, 9, none⟩ = some (.int .i64 x.page) ∧ V.cell? ⟨W.heap.size, 10, none⟩ = some (.int .i64 x.stamp) ∧ V.cell? ⟨W.heap.size, 11, none⟩ = some (.int .i64 x.depth) ∧ V.cell? ⟨W.heap.size, 12, none⟩ = some (.int .i64 x.log) ∧ V.cell? ⟨W.heap.size, 13, none⟩ = some (.int .i64 x.region) ∧ V.cell? ⟨W.heap.size, 14, none⟩ = some (.int .i64 x.time) ∧ V.cell? ⟨W.heap.size + 1, 0, none⟩ = some (.int .i64 y.plan.sectors) ∧ V.cell? ⟨W.heap.size + 1, 1, none⟩ = some (.int .i64 y.plan.size) ∧ V.cell? ⟨W.heap.size + 1, 2, none⟩ = some (.int .i64 y.plan.regions) ∧ V.cell? ⟨W.heap.size + 1, 3, none⟩ = some (.int .i64 y.plan.rs) ∧ V.cell? ⟨W.heap.size + 1, 4, none⟩ = some (.int .i64 y.plan.log) ∧ V.cell? ⟨W.heap.size + 1, 5, none⟩ = some (.int .i64 y.plan.depth) ∧ V.cell? ⟨W.heap.size + 1, 6, none⟩ = some (.int .i64 y.plan.memory) ∧ V.cell? ⟨W.heap.size + 1, 7, none⟩ = some (.int .u64 (U y.plan.seed)) ∧ V.cell? ⟨W.heap.size + 1, 8, none⟩ = some (.int .i64 y.gen) ∧ V.cell? ⟨W.heap.size + 1, 9, none⟩ = some (.int .i64 y.page) ∧ V.cell? ⟨W.heap.size + 1, 10, none⟩ = some (.int .i64 y.stamp) ∧ V.cell? ⟨W.heap.size + 1, 11, none⟩ = some (.int .i64 y.depth) ∧ V.cell? ⟨W.heap.size + 1, 12, none⟩ = some (.int .i64 y.log) ∧ V.cell? ⟨W.heap.size + 1, 13, none⟩ = some (.int .i64 y.region) ∧ V.cell? ⟨W.heap.size + 1, 14, none⟩ = some (.int .i64 y.time) ∧ V.cell? ⟨Nb, 0, none⟩ = some (.func (.func 48) #[] #[]))
    (exact HSC.out _ HG.out)
    (first
      | (go_at_call 48; (with_reducible refine (HGX.out _).mono ?_); rintro e w3 ⟨rfl, hw⟩; have HG2 := Lib.hid (show Gr W2 w3 from by rw [hw]; exact HG.out.alloc _); clear HG hw; have HG := HG2; clear HG2)
      | (go_at_call 48; (with_reducible refine (HGY.out _).mono ?_); rintro e w3 ⟨rfl, hw⟩; have HG2 := Lib.hid (show Gr W2 w3 from by rw [hw]; exact HG.out.alloc _); clear HG hw; have HG := HG2; clear HG2)
      | (go_at_call 70; (with_reducible refine (HCM.out _).mono ?_); rintro e w3 ⟨rfl, rfl⟩))
  all_goals go_wp2
  all_goals go_ret
  all_goals exact ⟨rfl, HTR.out _ HG.out⟩
end Go.Proofs.Ytfdipeaddofjaaa

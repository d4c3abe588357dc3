/-
  leaf.Get, super.headIn of no device.
  Conditions: none.
-/
import Derived.Test.YthdnpomfjhehkaaSup5
namespace Go.Proofs.Ythdnpomfjhehkaa
open Go.RowKit
attribute [-go_sem] Instr.build Instr.fill

theorem asked_nil5 (n : Int) (w : World) : Calls Try.prog 64 #[.pointer none, .int .i64 n] w fun e w' => e = .returned (.int .i64 1) ∧ w = w' := by
  have hr : ∀ W, Calls Try.prog 30 #[.pointer none] W fun e w' => e = .returned (.int .i64 1) ∧ W = w' := fun W => by
    go_enter Try.func30, Try.ntmps30
    go_wp2
    go_ret
    exact ⟨rfl, rfl⟩
  go_enter Try.func64, Try.ntmps64
  go_wp2_with (go_at_call 30; (with_reducible refine (hr _).mono ?_); rintro e w' ⟨rfl, rfl⟩)
  go_ret
  exact ⟨rfl, rfl⟩
theorem read_nil5 (n : Int) (w : World) : Calls Try.prog 72 #[.pointer none, .int .i64 n] w fun e w' => e = .returned (.tuple #[.slice none 0 0, .int .i64 1]) ∧ w = w' := by
  have ha := fun W => asked_nil5 n W
  go_enter Try.func72, Try.ntmps72
  go_wp2_with (go_at_call 64; (with_reducible refine (ha _).mono ?_); rintro e w' ⟨rfl, rfl⟩)
  go_ret2
  exact ⟨rfl, rfl⟩
theorem build_leaf0 (W : World) : (Instr.build 86 #[]).run Try.prog W = .ok (.agg (LeafP.zero.cells (.slice none 0 0))) W := run_build W _ _ _ (by kernel_rfl)
section
attribute [local go_sem] build_leaf0
set_option maxRecDepth 100000 in
set_option maxHeartbeats 1000000 in
theorem get_nilS (at_ k p : Int) (w : World) : Calls Try.prog 65 #[.pointer none, .int .i64 at_, .int .i64 k, .int .i64 p] w fun e w' => e = .returned (.tuple #[.agg (LeafP.zero.cells (.slice none 0 0)), .int .i64 1]) ∧ Below w.heap.size w w' := by
  have HZ : Hid ((w.alloc (.cells (LeafP.zero.cells (.slice none 0 0)) 86)).heap[w.heap.size]? = some (.cells (LeafP.zero.cells (.slice none 0 0)) 86 (0, 0))) := heap_alloc_new _ _
  have HB0 : Hid (Below w.heap.size w (w.alloc (.cells (LeafP.zero.cells (.slice none 0 0)) 86))) := (Below.refl _ _).alloc (Nat.le_refl _) _
  go_enter Try.func65, Try.ntmps65
  go_upto_region 1 with (fail)
  change (Code.region _ _ _).wp _ _ _ (w.alloc (.cells (LeafP.zero.cells (.slice none 0 0)) 86))
  generalize w.alloc (.cells (LeafP.zero.cells (.slice none 0 0)) 86) = w0 at HZ HB0 ⊢
  go_wp2_with (first
    | (go_at_call 72; (with_reducible refine (read_nil5 _ _).mono ?_); rintro e w1 ⟨rfl, rfl⟩)
    | (refine wpList_store_row (o := ⟨none, _, _, _, _, _⟩) rfl 86 (.tmp 8) (.tmp 21) rfl w.heap.size (LeafP.zero.cells (.slice none 0 0)) rfl rfl 86 (LeafP.zero.cells (.slice none 0 0)) HZ.out (leaf_sz _ _) rfl ?_ ?_; exact leaf_one _))
  have hend : (w0.setRow w.heap.size (LeafP.zero.cells (.slice none 0 0))).heap[w.heap.size]? = some (.cells (LeafP.zero.cells (.slice none 0 0)) 86 (0, 0)) := setRow_heap _ _ _ _ _ _ HZ.out
  exact bodyPost_ret (get_resD _ w.heap.size LeafP.zero _ 1 _ hend rfl rfl) rfl ⟨rfl, below_setRow HB0.out (Nat.le_refl _) _⟩
end
@[local go_sem] theorem build_zeroN (W : World) : (Instr.build 35 #[]).run Try.prog W = .ok (.agg HeadP.zero.cells) W := run_build W _ _ _ (by kernel_rfl)
set_option maxRecDepth 100000 in
set_option maxHeartbeats 4000000 in
theorem headIn_nil (i : Nat) (W : World) : Calls Try.prog 53 #[.pointer none, .int .i64 i] W fun e W' => e = .returned (.tuple #[.agg HeadP.zero.cells, .int .i64 1]) ∧ Below W.heap.size W W' := by
  have HZ0 : Hid ((W.alloc (.cells HeadP.zero.cells 35)).heap[W.heap.size]? = some (.cells HeadP.zero.cells 35 (0, 0))) := heap_alloc_new _ _
  have HB0 : Hid (Below W.heap.size W (W.alloc (.cells HeadP.zero.cells 35))) := (Below.refl _ _).alloc (Nat.le_refl _) _
  have HGE := Lib.hid (fun V => get_nilS (i : Int) 1 (i : Int) V)
  obtain ⟨L, hL⟩ : ∃ L, LeafP.zero.cells (.slice none 0 0) = L := ⟨_, rfl⟩
  have hlz : (Try.prog.info? 86).map (·.size) = some L.size := by rw [← hL]; exact leaf_sz _ _
  have hlo : L.all (·.oneCell') = true := by rw [← hL]; exact leaf_one _
  rw [hL] at HGE
  have HL := Lib.hid hL
  clear hL
  go_enter Try.func53, Try.ntmps53
  go_upto_region 1 with (fail)
  change (Code.region _ _ _).wp _ _ _ (W.alloc (.cells HeadP.zero.cells 35))
  generalize W.alloc (.cells HeadP.zero.cells 35) = w0 at *
  go_upto_region 2 with (first
    | (go_at_call 65; (with_reducible refine (HGE.out _).mono ?_); rintro e w2 ⟨rfl, hb⟩; have HB2 := Lib.hid hb; clear hb)
    | (refine wpList_store_row (o := ⟨none, _, _, _, _, _⟩) rfl 86 (.tmp 6) (.tmp 14) rfl w2.heap.size L rfl rfl 86 (LeafP.zero.cells (.slice none 0 0)) (heap_alloc_new _ _) hlz (by rw [HL.out]) ?_ ?_; exact hlo))
  change (Code.region _ _ _).wp _ _ _ ((w2.alloc (.cells (LeafP.zero.cells (.slice none 0 0)) 86)).setRow w2.heap.size L)
  have hb3 : Below w2.heap.size w2 ((w2.alloc (.cells (LeafP.zero.cells (.slice none 0 0)) 86)).setRow w2.heap.size L) := below_setRow ((Below.refl _ _).alloc (Nat.le_refl _) _) (Nat.le_refl _) _
  generalize (w2.alloc (.cells (LeafP.zero.cells (.slice none 0 0)) 86)).setRow w2.heap.size L = w3 at hb3 ⊢
  have HB3 := Lib.hid (HB0.out.trans ((HB2.out.trans (hb3.mono HB2.out.size)).mono HB0.out.size))
  have HZ3 : Hid (w3.heap[W.heap.size]? = some (.cells HeadP.zero.cells 35 (0, 0))) := ((HB2.out.trans (hb3.mono HB2.out.size)).block _ (blk_lt HZ0.out)).trans HZ0.out
  clear hb3
  go_wp2_with (first
    | (refine wpList_store_row (o := ⟨none, _, _, _, _, _⟩) rfl 35 (.tmp 4) (.tmp 18) rfl W.heap.size HeadP.zero.cells rfl rfl 35 HeadP.zero.cells HZ3.out (kh_sz _) rfl ?_ ?_; exact kh_one _))
  have hend : (w3.setRow W.heap.size HeadP.zero.cells).heap[W.heap.size]? = some (.cells HeadP.zero.cells 35 (0, 0)) := setRow_heap _ _ _ _ _ _ HZ3.out
  exact bodyPost_ret (v := .tuple #[.agg HeadP.zero.cells, .int .i64 1]) (headIn_res _ W.heap.size _ _ _ hend rfl rfl) rfl ⟨rfl, below_setRow HB3.out (Nat.le_refl _) _⟩
end Go.Proofs.Ythdnpomfjhehkaa

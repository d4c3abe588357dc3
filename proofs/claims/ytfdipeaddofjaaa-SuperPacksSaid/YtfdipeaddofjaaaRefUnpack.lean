/-
  sgraffitoref06.Unpack: the document's plan of some bytes.
  Conditions: none.
-/
import Derived.Test.YtfdipeaddofjaaaRefAt
import Derived.Test.YtfdipeaddofjaaaPlanUnpack
import Derived.Test.YtfdipeaddofjaaaRefFitBase
import Derived.StillTailTactics
namespace Go.Proofs.Ytfdipeaddofjaaa
open Go.RowKit

theorem refUnpack_res (w : World) (z : Nat) (x : PlanP) (n : Int) (a : Act) (h : w.heap[z]? = some (.cells x.cells 24 (0, 0))) (h2 : a.tmps.getD 2 undef = .pointer (some ⟨z, 0, none⟩)) (h3 : a.tmps.getD 3 undef = .int .i64 n) :
    (results Try.f35 a.tmps).run Try.prog w = .ok (.tuple #[.agg x.cells, .int .i64 n]) w := by
  have h2' : a.tmps[2]?.getD undef = .pointer (some ⟨z, 0, none⟩) := by simpa using h2
  have h3' : a.tmps[3]?.getD undef = .int .i64 n := by simpa using h3
  simp [results, Try.results35, h2', h3', asAddr, run_loadVar_row w z 24 24 x.cells (0, 0) _ h Try.underlying24 rfl (kr_sz x)]
set_option maxRecDepth 100000 in
set_option maxHeartbeats 4000000 in
theorem refUnpack_other (u : Value) (bs : List (BitVec 8)) (hlen : bs.length ≠ 26) (hl : bs.length ≤ 100) (n₀ : Nat) (w : World) (hu : BytesAt n₀ w u bs) : Calls Try.prog 35 #[u] w fun e w' => e = .returned (.tuple #[.agg PlanP.zero.cells, .int .i64 5]) ∧ Below w.heap.size w w' := by
  obtain ⟨a, cap, rfl, hcap, _⟩ := hu
  have l1 : ¬ ((bs.length : Int) = 26) := by omega
  have l2 : (bs.length : Int) ≤ 100 := by omega
  clear hlen
  go_enter Try.func35, Try.ntmps35
  go_wp2
  exact bodyPost_ret (v := .tuple #[.agg PlanP.zero.cells, .int .i64 5]) (refUnpack_res _ w.heap.size PlanP.zero 5 _ (heap_alloc_new _ _) rfl rfl) rfl ⟨rfl, (Below.refl _ w).alloc (Nat.le_refl _) _⟩
set_option maxRecDepth 100000 in
set_option maxHeartbeats 4000000 in
theorem unpack_other (u : Value) (bs : List (BitVec 8)) (hlen : bs.length ≠ 26) (hl : bs.length ≤ 100) (n₀ : Nat) (w : World) (hu : BytesAt n₀ w u bs) : Calls Try.prog 32 #[u] w fun e w' => e = .returned (.tuple #[.agg PlanP.zero.cells, .int .i64 5]) ∧ Below w.heap.size w w' := by
  obtain ⟨a, cap, rfl, hcap, _⟩ := hu
  have l1 : ¬ ((bs.length : Int) = 26) := by omega
  have l2 : (bs.length : Int) ≤ 100 := by omega
  clear hlen
  go_enter Try.func32, Try.ntmps32
  go_wp2
  exact bodyPost_ret (v := .tuple #[.agg PlanP.zero.cells, .int .i64 5]) (unp_res _ w.heap.size PlanP.zero 5 _ (heap_alloc_new _ _) rfl rfl) rfl ⟨rfl, (Below.refl _ w).alloc (Nat.le_refl _) _⟩

end Go.Proofs.Ytfdipeaddofjaaa

/-
  sgraffitoref06.Fit: the document's layout of any plan.
  Conditions: none.
-/
import Derived.Test.YtfdipeaddofjaaaJP2
import Derived.Deep.LoopGhost
namespace Go.Proofs.Ytfdipeaddofjaaa
open Go.RowKit

def pw (k : Nat) : Int := ((2 ^ k : Nat) : Int)
theorem pw_zero : pw 0 = 1 := rfl
theorem pw_succ (k : Nat) : pw k * 2 = pw (k + 1) := by unfold pw; rw [Nat.pow_succ]; omega
theorem pw_bound {k : Nat} (h : k ≤ 8) : 1 ≤ pw k ∧ pw k ≤ 256 := by
  have h2 : 2 ^ k ≤ 2 ^ 8 := Nat.pow_le_pow_right (by decide) h
  have h3 := Nat.two_pow_pos k
  unfold pw
  omega
theorem klr_sz (x : LayP) : (Try.prog.info? 71).map (·.size) = some x.cells.size := by show _ = some 8; kernel_rfl
theorem refFit_res (w : World) (z : Nat) (x : LayP) (n : Int) (a : Act) (h : w.heap[z]? = some (.cells x.cells 71 (0, 0))) (h2 : a.tmps.getD 2 undef = .pointer (some ⟨z, 0, none⟩)) (h3 : a.tmps.getD 3 undef = .int .i64 n) :
    (results Try.f28 a.tmps).run Try.prog w = .ok (.tuple #[.agg x.cells, .int .i64 n]) w := by
  have h2' : a.tmps[2]?.getD undef = .pointer (some ⟨z, 0, none⟩) := by simpa using h2
  have h3' : a.tmps[3]?.getD undef = .int .i64 n := by simpa using h3
  simp [results, Try.results28, h2', h3', asAddr, run_loadVar_row w z 71 71 x.cells (0, 0) _ h Try.underlying71 rfl (klr_sz x)]

/-- The first of the fourteen tests that holds. -/
theorem not_alone {p : PlanP} (h : ¬ p.Alone) : p.size < 96 ∨ (96 ≤ p.size ∧ 512 < p.size) ∨ ((96 ≤ p.size ∧ p.size ≤ 512) ∧ (p.sectors < 1 ∨ (1 ≤ p.sectors ∧ 16384 < p.sectors) ∨ ((1 ≤ p.sectors ∧ p.sectors ≤ 16384) ∧ (p.regions < 3 ∨ (3 ≤ p.regions ∧ 64 < p.regions) ∨ ((3 ≤ p.regions ∧ p.regions ≤ 64) ∧
    (p.rs < 1 ∨ (1 ≤ p.rs ∧ 32 < p.rs) ∨ ((1 ≤ p.rs ∧ p.rs ≤ 32) ∧ (p.log < 4 ∨ (4 ≤ p.log ∧ 256 < p.log) ∨ ((4 ≤ p.log ∧ p.log ≤ 256) ∧ (p.depth < 0 ∨ (0 ≤ p.depth ∧ 8 < p.depth) ∨ ((0 ≤ p.depth ∧ p.depth ≤ 8) ∧ (p.memory < 8 ∨ (8 ≤ p.memory ∧ 256 < p.memory))))))))))))) := by
  by_cases h1 : 96 ≤ p.size ∧ p.size ≤ 512
  · by_cases h2 : 1 ≤ p.sectors ∧ p.sectors ≤ 16384
    · by_cases h3 : 3 ≤ p.regions ∧ p.regions ≤ 64
      · by_cases h4 : 1 ≤ p.rs ∧ p.rs ≤ 32
        · by_cases h5 : 4 ≤ p.log ∧ p.log ≤ 256
          · by_cases h6 : 0 ≤ p.depth ∧ p.depth ≤ 8
            · by_cases h7 : 8 ≤ p.memory ∧ p.memory ≤ 256
              · exact absurd ⟨h1, h2, h3, h4, h5, h6, h7⟩ h
              · omega
            · omega
          · omega
        · omega
      · omega
    · omega
  · omega
theorem two_new (w : World) (o1 o2 : Obj) : ((w.alloc o1).alloc o2).heap[w.heap.size + 1]? = some o2 := by
  have := heap_alloc_new (w.alloc o1) o2
  rwa [show (w.alloc o1).heap.size = w.heap.size + 1 by simp] at this
end Go.Proofs.Ytfdipeaddofjaaa

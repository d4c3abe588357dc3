/-
  What a writer's calls do: wire.NewWriter, Number, Text, Raw, Full and Bytes, for any state of the writer.
  Conditions: none.
-/
import Derived.Test.YtgaabclgoolalaaMem
import Derived.WalkKit
import Derived.Deep.QuietTactic
import Derived.BigQuiet
namespace Go.Proofs.Ytgaabclgoolalaa
open Go.RowKit

/-- How many bytes a number may have. -/
def MayHave (k : Int) : Prop := k = 1 ∨ k = 2 ∨ k = 4 ∨ k = 8
instance (k : Int) : Decidable (MayHave k) := by unfold MayHave; infer_instance

/-- Is it among these? -/
def amongB (x : Int) (l : List Int) : Bool := l.any (· == x)

set_option maxHeartbeats 1000000 in
theorem among_any (x : Int) (l : List Int) (g : Nat) (w : World) (hl : l.length ≤ 65536) (hg : w.heap[g]? = some (.cells (l.map (Value.int .i64)).toArray 3 (0, 0))) :
    Calls Try.prog 41 #[.int .i64 x, .slice (some ⟨g, 0, none⟩) l.length l.length] w fun e w' => e = .returned (.bool (amongB x l)) ∧ w = w' := by
  have hl1 : (l.length : Int) ≤ 65536 := by omega
  have hcell : ∀ k, k < l.length → w.cell? ⟨g, k, none⟩ = some (.int .i64 (l[k]?.getD 0)) := fun k hk => by rw [blk_cell hg]; simp [hk]
  go_enter Try.func41, Try.ntmps41
  go_wp2
  go_loop [9] (fun i => ∃ k : Nat, k ≤ l.length ∧ i = .int .i64 k ∧ ∀ j, j < k → (l[j]?.getD 0 == x) = false) (fun i => l.length - (intOf i).toNat)
  case atStart => exact ⟨0, Nat.zero_le _, rfl, fun j hj => absurd hj (by omega)⟩
  case round =>
    obtain ⟨k, hk, rfl, hno⟩ := hrel
    by_cases hlt : k < l.length
    · have hc := hcell k hlt
      have HN := Lib.hid hno
      clear hno hcell
      have k0 : (0 : Int) ≤ k := by omega
      have k1 : (k : Int) < l.length := by omega
      have HA : (l[k]?.getD 0 == x) = true → Hid (amongB x l = true) := fun h => by
        unfold amongB Hid
        rw [List.any_eq_true]
        refine ⟨l[k], List.getElem_mem hlt, ?_⟩
        simpa [hlt] using h
      generalize hy : l[k]?.getD 0 = y at hc HA
      have HY := Lib.hid hy
      clear hy
      by_cases hxy : y = x
      · subst hxy
        have HA' := HA (by simp)
        clear HA
        go_wp2
        go_ret
        exact ⟨by rw [HA'.out]; rfl, rfl⟩
      · have e1 : (x == y) = false := by simpa using fun h => hxy h.symm
        clear HA
        go_wp2
        go_round
        case rel =>
          refine ⟨k + 1, by omega, by go_num, fun j hj => ?_⟩
          by_cases hjk : j = k
          · subst hjk; rw [HY.out]; simpa using hxy
          · exact HN.out j (by omega)
        case measure => simp [intOf]; omega
    · obtain rfl : k = l.length := by omega
      have hA : amongB x l = false := by
        unfold amongB
        rw [List.any_eq_false]
        intro y hy
        obtain ⟨j, hj, rfl⟩ := List.mem_iff_getElem.1 hy
        have := hno j hj
        simpa [hj] using this
      have HA := Lib.hid hA
      clear hA hno hcell
      go_wp2
      go_ret
      exact ⟨by rw [HA.out]; rfl, rfl⟩

def mayB (k : Int) : Bool := decide (k = 1 ∨ k = 2 ∨ k = 4 ∨ k = 8)
theorem among_may (k : Int) : amongB k [1, 2, 4, 8] = mayB k := by
  unfold amongB mayB
  rw [Bool.eq_iff_iff]
  simp
  omega

theorem may_any (k : Int) (w : World) : Calls Try.prog 32 #[.int .i64 k] w fun e w' => e = .returned (.bool (mayB k)) ∧ w' = w.alloc (.cells #[.int .i64 1, .int .i64 2, .int .i64 4, .int .i64 8] 3) := by
  have hc := among_any k [1, 2, 4, 8] w.heap.size (w.alloc (.cells #[.int .i64 1, .int .i64 2, .int .i64 4, .int .i64 8] 3)) (by simp) (heap_alloc_new _ _)
  rw [among_may] at hc
  go_enter Try.func32, Try.ntmps32
  go_wp2_with (go_at_call 41; refine hc.mono ?_; rintro e w' ⟨rfl, rfl⟩)
  go_ret
  exact ⟨rfl, rfl⟩

end Go.Proofs.Ytgaabclgoolalaa

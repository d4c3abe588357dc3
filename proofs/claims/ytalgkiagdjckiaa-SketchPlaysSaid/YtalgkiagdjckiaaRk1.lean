/-
  sgraffitoref23: Right, New.
  Conditions: none.
-/
import Derived.Test.YtalgkiagdjckiaaSk12
import Derived.Test.YtalgkiagdjckiaaInts
namespace Go.Proofs.Ytalgkiagdjckiaa
open Go.RowKit

theorem right_next (k : Nat) (h : k ≤ 12) : wrap64 (((2 ^ k : Nat) : Int) * 2) = ((2 ^ (k + 1) : Nat) : Int) := by
  have h := Nat.pow_le_pow_right (n := 2) (by decide) h
  rw [Nat.pow_succ 2 k]
  generalize 2 ^ k = M at *
  rw [IntWalk.wrap64_in _ ⟨by omega, by omega⟩]; omega
set_option maxRecDepth 100000 in
set_option maxHeartbeats 2000000 in
theorem right_yes (m : Nat) (h1 : 1 ≤ m) (h2 : m ≤ 12) (w : World) : Calls Try.prog 9 #[.int .i64 ((2 ^ m : Nat) : Int)] w fun e w' => e = .returned (.bool true) ∧ w = w' := by
  obtain ⟨X, hX⟩ : ∃ X : Int, ((2 ^ m : Nat) : Int) = X := ⟨_, rfl⟩
  rw [hX]
  have HX := Lib.hid hX
  clear hX
  go_enter Try.func9, Try.ntmps9
  go_wp2
  go_loopw [3] (fun v W => ∃ k : Nat, 1 ≤ k ∧ k ≤ m ∧ v = .int .i64 ((2 ^ k : Nat) : Int) ∧ W = w) (fun v _ => 5000 - (intOf v).toNat)
  case atStart => exact ⟨1, by decide, h1, rfl, rfl⟩
  case round =>
    obtain ⟨k, hk1, hk, rfl, rfl⟩ := hrel
    have hp := Nat.pow_le_pow_right (n := 2) (by decide) (show k ≤ 12 by omega)
    have b1 : ((2 ^ k : Nat) : Int) ≤ 4096 := by exact_mod_cast hp
    have HMV := Lib.hid (Nat.one_le_two_pow (n := k))
    by_cases hkm : k = m
    · subst hkm
      rw [HX.out] at b1 ⊢
      clear hp
      go_wp2
      go_ret
      exact ⟨rfl, rfl⟩
    · have hlt : 2 ^ k < 2 ^ m := Nat.pow_lt_pow_right (by decide) (by omega)
      have e1 := right_next k (by omega)
      have HN := Lib.hid (show 2 ^ (k + 1) = 2 * 2 ^ k by rw [Nat.pow_succ, Nat.mul_comm])
      have ne : (((2 ^ k : Nat) : Int) == X) = false := beq_eq_false_iff_ne.2 (by rw [← HX.out]; exact fun e => by have : 2 ^ k = 2 ^ m := by exact_mod_cast e
                                                                                                                   omega)
      clear hp hlt
      obtain ⟨M, hM⟩ : ∃ M : Nat, 2 ^ k = M := ⟨_, rfl⟩
      have HM := Lib.hid hM
      obtain ⟨M2, hM2⟩ : ∃ M : Nat, 2 ^ (k + 1) = M := ⟨_, rfl⟩
      have HM2 := Lib.hid hM2
      rw [hM] at b1 e1 ne HN HMV ⊢
      rw [hM2] at e1 HN
      clear hM hM2
      go_wp2
      go_roundw
      case rel => exact ⟨k + 1, by omega, by omega, by rw [HM2.out]; exact congrArg (Value.int .i64) (by have h5 := HN.out; clear e1; omega), trivial⟩
      case measure => have h5 := HN.out; have h6 := HMV.out; clear e1; simp only [intOf]; omega
set_option maxRecDepth 100000 in
set_option maxHeartbeats 2000000 in
theorem right_no {X : Int} (hX : ∀ m, 1 ≤ m → m ≤ 12 → ((2 ^ m : Nat) : Int) ≠ X) (w : World) : Calls Try.prog 9 #[.int .i64 X] w fun e w' => e = .returned (.bool false) ∧ w = w' := by
  have HX := Lib.hid hX
  clear hX
  go_enter Try.func9, Try.ntmps9
  go_wp2
  go_loopw [3] (fun v W => ∃ k : Nat, 1 ≤ k ∧ k ≤ 13 ∧ v = .int .i64 ((2 ^ k : Nat) : Int) ∧ W = w) (fun v _ => 10000 - (intOf v).toNat)
  case atStart => exact ⟨1, by decide, by decide, rfl, rfl⟩
  case round =>
    obtain ⟨k, hk1, hk, rfl, rfl⟩ := hrel
    by_cases hkm : k = 13
    · subst hkm
      go_wp2
      go_ret
      exact ⟨rfl, rfl⟩
    · have hp := Nat.pow_le_pow_right (n := 2) (by decide) (show k ≤ 12 by omega)
      have b1 : ((2 ^ k : Nat) : Int) ≤ 4096 := by exact_mod_cast hp
      have HMV := Lib.hid (Nat.one_le_two_pow (n := k))
      have e1 := right_next k (by omega)
      have HN := Lib.hid (show 2 ^ (k + 1) = 2 * 2 ^ k by rw [Nat.pow_succ, Nat.mul_comm])
      have ne : (((2 ^ k : Nat) : Int) == X) = false := beq_eq_false_iff_ne.2 (HX.out k hk1 (by omega))
      clear hp
      obtain ⟨M, hM⟩ : ∃ M : Nat, 2 ^ k = M := ⟨_, rfl⟩
      have HM := Lib.hid hM
      obtain ⟨M2, hM2⟩ : ∃ M : Nat, 2 ^ (k + 1) = M := ⟨_, rfl⟩
      have HM2 := Lib.hid hM2
      rw [hM] at b1 e1 ne HN HMV ⊢
      rw [hM2] at e1 HN
      clear hM hM2
      go_wp2
      go_roundw
      case rel => exact ⟨k + 1, by omega, by omega, by rw [HM2.out]; exact congrArg (Value.int .i64) (by have h5 := HN.out; clear e1; omega), trivial⟩
      case measure => have h5 := HN.out; have h6 := HMV.out; clear e1; simp only [intOf]; omega
/-- The cells of a sketch of the document's. -/
def rkC (N age : Int) (v : Value) : Array Value := #[.int .i64 N, .int .i64 age, v]
theorem rkC_sz (N age : Int) (v : Value) : (Try.prog.info? 30).map (·.size) = some (rkC N age v).size := by show _ = some 3; kernel_rfl
theorem rkC_one (N age : Int) (a : Option Addr) (n c : Nat) : (rkC N age (.slice a n c)).all (·.oneCell') = true := by simp [rkC, Value.oneCell']
theorem build_rk (W : World) (N : Int) (a : Option Addr) (n c : Nat) : (Instr.build 30 #[(0, .int .i64 N), (2, .slice a n c)]).run Try.prog W = .ok (.agg (rkC N 0 (.slice a n c))) W := run_build W _ _ _ (by kernel_rfl)
theorem build_rk0 (W : World) : (Instr.build 30 #[]).run Try.prog W = .ok (.agg (rkC 0 0 (.slice none 0 0))) W := run_build W _ _ _ (by kernel_rfl)
theorem rnew_res (w : World) (g : Nat) (N age : Int) (v : Value) (tmps : Array Value) (h2 : tmps.getD 2 undef = .pointer (some ⟨g, 0, none⟩)) (hg : w.heap[g]? = some (.cells (rkC N age v) 30 (0, 0))) :
    (results Try.f12 tmps).run Try.prog w = .ok (.agg (rkC N age v)) w := by
  have h2' : tmps[2]?.getD undef = .pointer (some ⟨g, 0, none⟩) := by simpa using h2
  simp [results, Try.results12, h2', asAddr, run_loadVar_row w g 30 30 (rkC N age v) (0, 0) _ hg Try.underlying30 rfl (rkC_sz N age v)]
theorem setRow_heap1 (w : World) (g : Nat) (cur cs : Array Value) (t : TypeId) (z : Nat × Nat) (h : w.heap[g]? = some (.cells cur t z)) : (w.setRow g cs).heap[g]? = some (.cells cs t z) := by
  simp [World.setRow, Array.getElem?_modify, h]
theorem setRow_other1 (w : World) (g k : Nat) (cs : Array Value) (h : k ≠ g) : (w.setRow g cs).heap[k]? = w.heap[k]? := by
  simp [World.setRow, Array.getElem?_modify]
  exact fun e => absurd e.symm h
theorem below_setRow1 {n : Nat} {a w : World} (h : Below n a w) {g : Nat} (hg : n ≤ g) (cs : Array Value) : Below n a (w.setRow g cs) :=
  ⟨h.os, h.tape, h.output, by have : (w.setRow g cs).heap.size = w.heap.size := by simp [World.setRow]
                              rw [this]; exact h.size, fun k hk => (setRow_other1 w g k cs (by omega)).trans (h.block k hk)⟩
section
attribute [-go_sem] Instr.build Instr.fill
attribute [local go_sem] build_rk build_rk0
set_option maxRecDepth 100000 in
set_option maxHeartbeats 2000000 in
theorem rnew_any {N : Nat} (hN : N ≤ 4096) (w : World) : Calls Try.prog 12 #[.int .i64 (N : Int)] w fun e w' => ∃ g, e = .returned (.agg (rkC N 0 (.slice (some ⟨g, 0, none⟩) (4 * N) (4 * N)))) ∧ w'.heap[g]? = some (.cells (ints (List.replicate (4 * N) 0)).toArray 3 (0, 0)) ∧ w.heap.size ≤ g ∧ Below w.heap.size w w' := by
  have e4 : wrap64 (4 * (N : Int)) = ((4 * N : Nat) : Int) := by rw [IntWalk.wrap64_in _ ⟨by omega, by omega⟩]; omega
  have mk := makeInts (4 * N) (by omega) (w.alloc (.cells (rkC 0 0 (.slice none 0 0)) 30))
  obtain ⟨T, hT⟩ : ∃ T, 4 * N = T := ⟨_, rfl⟩
  rw [hT] at e4 mk ⊢
  clear hN hT
  go_enter Try.func12, Try.ntmps12
  go_upto_region 1 with fail
  obtain ⟨w1, hw1⟩ : ∃ w1, w.alloc (.cells (rkC 0 0 (.slice none 0 0)) 30) = w1 := ⟨_, rfl⟩
  change Code.wp _ _ _ _ (w.alloc (.cells (rkC 0 0 (.slice none 0 0)) 30))
  have hb1 : w1.heap[w.heap.size]? = some (.cells (rkC 0 0 (.slice none 0 0)) 30 (0, 0)) := by rw [← hw1]; exact heap_alloc_new _ _
  have hz1 : w1.heap.size = w.heap.size + 1 := by rw [← hw1]; simp
  have hB1 : Below w.heap.size w w1 := by rw [← hw1]; exact (Below.refl _ w).alloc (Nat.le_refl _) _
  rw [hw1] at mk ⊢
  clear hw1
  have HB1 := Lib.hid hB1
  have HZ1 := Lib.hid hz1
  have hb2 : (w1.alloc (.cells (ints (List.replicate T 0)).toArray 3)).heap[w.heap.size]? = some (.cells (rkC 0 0 (.slice none 0 0)) 30 (0, 0)) := blk_alloc hb1 _
  have HB2 := Lib.hid hb2
  clear hB1 hz1 hb1 hb2
  go_wp2_with (refine wpList_store_row (o := ⟨none, _, _, _, _, _⟩) rfl 30 (.tmp 2) (.tmp 7) rfl w.heap.size (rkC N 0 (.slice (some ⟨w1.heap.size, 0, none⟩) T T)) rfl rfl 30 (rkC 0 0 (.slice none 0 0)) HB2.out (rkC_sz _ _ _) rfl ?_ ?_; exact rkC_one _ _ _ _ _)
  have hs : ((w1.alloc (.cells (ints (List.replicate T 0)).toArray 3)).setRow w.heap.size (rkC N 0 (.slice (some ⟨w1.heap.size, 0, none⟩) T T))).heap[w1.heap.size]? = some (.cells (ints (List.replicate T 0)).toArray 3 (0, 0)) := by
    rw [setRow_other1 _ _ _ _ (by have := HZ1.out; omega)]
    exact heap_alloc_new _ _
  have hbl : Below w.heap.size w ((w1.alloc (.cells (ints (List.replicate T 0)).toArray 3)).setRow w.heap.size (rkC N 0 (.slice (some ⟨w1.heap.size, 0, none⟩) T T))) := below_setRow1 (HB1.out.alloc (by have := HZ1.out; omega) _) (Nat.le_refl _) _
  exact bodyPost_ret (rnew_res _ w.heap.size N 0 _ _ rfl (setRow_heap1 _ _ _ _ _ _ HB2.out)) rfl ⟨w1.heap.size, rfl, hs, by have := HZ1.out; omega, hbl⟩
end
end Go.Proofs.Ytalgkiagdjckiaa

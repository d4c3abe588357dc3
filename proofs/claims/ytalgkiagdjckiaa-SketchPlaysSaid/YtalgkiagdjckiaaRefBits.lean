/-
  What the verifier's own rows of bits are: a number's bits, the number of bits, bits exclusive-or'd with themselves further down, and with others.
  Conditions: none.
-/
import Derived.Test.YtalgkiagdjckiaaMem
import Derived.Test.YtalgkiagdjckiaaMix
import Derived.Test.YtalgkiagdjckiaaRange
import Derived.Deep.WholeRow
import Derived.StillTailTactics
namespace Go.Proofs.Ytalgkiagdjckiaa
open Go.RowKit

/-- The cells of a row of bits: so many of one number's, then those of another. -/
def MA (k : Nat) (x y : BitVec 64) : Array Value := ((List.range 64).map fun i => Value.bool (if i < k then x.getLsbD i else y.getLsbD i)).toArray
/-- A number's bits. -/
def BA (x : BitVec 64) : Array Value := MA 0 x x
theorem MA_size (k : Nat) (x y : BitVec 64) : (MA k x y).size = 64 := by simp [MA]
theorem BA_size (x : BitVec 64) : (BA x).size = 64 := MA_size _ _ _
theorem MA_one (k : Nat) (x y : BitVec 64) : ∀ v ∈ (MA k x y).toList, v.oneCell' = true := by
  intro v hv
  simp only [MA, List.mem_map] at hv
  obtain ⟨i, _, rfl⟩ := hv
  rfl
theorem MA_get (k : Nat) (x y : BitVec 64) (i : Nat) (hi : i < 64) : (MA k x y)[i]? = some (.bool (if i < k then x.getLsbD i else y.getLsbD i)) := by simp [MA, hi]
theorem BA_get (x : BitVec 64) (i : Nat) (hi : i < 64) : (BA x)[i]? = some (.bool (x.getLsbD i)) := by rw [BA, MA_get _ _ _ _ hi]; simp
theorem MA_zero (x y : BitVec 64) : MA 0 x y = BA y := by simp [MA, BA]
theorem MA_end (k : Nat) (x y : BitVec 64) (h : ∀ i, k ≤ i → i < 64 → x.getLsbD i = y.getLsbD i) : MA k x y = BA x := by
  apply Array.ext
  · simp [MA, BA]
  · intro i h1 h2
    have hi : i < 64 := by rw [BA_size] at h2; exact h2
    simp only [MA, BA, List.getElem_toArray, List.getElem_map, List.getElem_range]
    by_cases hk : i < k
    · simp [hk]
    · simp [hk, h i (by omega) hi]
theorem MA_set (k : Nat) (x y : BitVec 64) : (MA k x y).setIfInBounds k (.bool (x.getLsbD k)) = MA (k + 1) x y := by
  apply Array.ext
  · simp [MA]
  · intro i h1 h2
    have hi : i < 64 := by rw [MA_size] at h2; exact h2
    rw [Array.getElem_setIfInBounds (by rw [MA_size]; exact hi)]
    simp only [MA, List.getElem_toArray, List.getElem_map, List.getElem_range]
    by_cases h : k = i
    · subst h; simp
    · rw [if_neg h]
      by_cases h3 : i < k
      · rw [if_pos h3, if_pos (by omega)]
      · rw [if_neg h3, if_neg (by omega)]

theorem bit_nat (x : BitVec 64) (k : Nat) : x.getLsbD k = decide (x.toNat / 2 ^ k % 2 = 1) := by
  unfold BitVec.getLsbD
  rw [Nat.testBit_eq_decide_div_mod_eq]
theorem shr_step (x : BitVec 64) (k : Nat) : U (x >>> k) / 2 = U (x >>> (k + 1)) := by
  rw [shr_U (x >>> k) 1 _ (by decide), BitVec.shiftRight_add]
theorem rem_bit (x : BitVec 64) (k : Nat) : (U (x >>> k) % 2 == 1) = x.getLsbD k := by
  rw [bit_nat]
  unfold U
  rw [BitVec.toNat_ushiftRight, Nat.shiftRight_eq_div_pow, Bool.eq_iff_iff]
  simp only [beq_iff_eq, decide_eq_true_eq]
  generalize x.toNat / 2 ^ k = q
  omega
theorem up_nat (x : BitVec 64) (k : Nat) : (x >>> k).toNat = 2 * (x >>> (k + 1)).toNat + (if x.getLsbD k then 1 else 0) := by
  rw [bit_nat, BitVec.toNat_ushiftRight, BitVec.toNat_ushiftRight, Nat.shiftRight_eq_div_pow, Nat.shiftRight_eq_div_pow, Nat.pow_succ, ← Nat.div_div_eq_div_mul]
  generalize x.toNat / 2 ^ k = q
  by_cases h : q % 2 = 1
  · simp [h]; omega
  · simp [h]; omega
theorem up_one (x : BitVec 64) (k : Nat) (h : x.getLsbD k = true) : IntKind.u64.wrap (U (x >>> (k + 1)) * 2) = U (x >>> (k + 1)) * 2 ∧ IntKind.u64.wrap (U (x >>> (k + 1)) * 2 + 1) = U (x >>> k) := by
  have h1 := up_nat x k
  rw [h, if_pos rfl] at h1
  have h2 : U (x >>> k) = U (x >>> (k + 1)) * 2 + 1 := by unfold U; omega
  have h3 := U_lt (x >>> k)
  have h4 := U_nonneg (x >>> (k + 1))
  refine ⟨?_, by rw [← h2]; exact wrap_u64_U _⟩
  rw [h2] at h3
  simp only [IntKind.wrap, IntKind.bits, IntKind.signed]
  simp
  omega
theorem up_none (x : BitVec 64) (k : Nat) (h : x.getLsbD k = false) : IntKind.u64.wrap (U (x >>> (k + 1)) * 2) = U (x >>> k) := by
  have h1 := up_nat x k
  rw [h, if_neg (by decide)] at h1
  have h2 : U (x >>> k) = U (x >>> (k + 1)) * 2 := by unfold U; omega
  rw [← h2]
  exact wrap_u64_U _

theorem zeroBits (w : World) : (zeroValue 69).run Try.prog w = .ok (.agg (BA 0#64)) w := by kernel_rfl
theorem infoBits : (Try.prog.info? 69).map (·.size) = some 64 := by kernel_rfl

set_option maxRecDepth 100000 in
set_option maxHeartbeats 1000000 in
theorem bitsOf_any (x : BitVec 64) (w : World) : Calls Try.prog 39 #[.int .u64 (U x)] w fun e w' => e = .returned (.agg (BA x)) ∧ Below w.heap.size w w' := by
  have hz := zeroBits
  go_enter Try.func39, Try.ntmps39
  go_wp2
  go_loopw [0, 4] (fun n i wr => ∃ k : Nat, k ≤ 64 ∧ i = .int .i64 k ∧ n = .int .u64 (U (x >>> k)) ∧ wr.heap[w.heap.size + 1]? = some (.cells (MA k x 0#64) 69 (0, 0)) ∧ wr.heap[w.heap.size]? = some (.cells (BA 0#64) 69 (0, 0)) ∧ Below w.heap.size w wr) (fun _ i _ => 64 - (intOf i).toNat)
  case atStart =>
    refine ⟨0, by omega, rfl, by simp, ?_, ?_, ((Below.refl _ _).alloc (Nat.le_refl _) _).alloc (by simp) _⟩
    · rw [MA_zero]
      exact heap_alloc2_new w _ _
    · exact heap_alloc2_old w _ _
  case round =>
    obtain ⟨k, hk, rfl, rfl, hT, hZ, hB⟩ := hrel
    by_cases hlt : k < 64
    · have c1 : wr.cell? ⟨w.heap.size + 1, k, none⟩ = some (.bool (if k < k then x.getLsbD k else (0#64).getLsbD k)) := by rw [cell_of_row _ _ _ _ _ _ hT, MA_get _ _ _ _ hlt]
      have f1 : wr.frozen? ⟨w.heap.size + 1, k, none⟩ = false := frozen_of_row _ _ _ _ _ hT
      have hr := rem_bit x k
      have HW := Lib.hid (MA_set k x 0#64)
      have HT := Lib.hid hT
      have HZ := Lib.hid hZ
      have b0 := U_nonneg (x >>> k)
      have b1 := U_lt (x >>> k)
      have HS := Lib.hid (shr_step x k)
      clear hT hZ
      generalize x.getLsbD k = bt at hr HW c1
      generalize U (x >>> k) = q at hr b0 b1 HS
      have k0 : (0 : Int) ≤ k := by omega
      have k1 : (k : Int) < 64 := by omega
      go_wp2
      go_roundw
      case rel =>
        refine ⟨k + 1, by omega, by go_num, by rw [HS.out], ?_, ?_, hB.setCell (p := ⟨w.heap.size + 1, _, none⟩) (by simp) _⟩
        · rw [heap_setCell_same _ _ _ _ _ _ HT.out, HW.out]
        · rw [heap_setCell_other _ _ _ _ (by simp)]; exact HZ.out
      case measure => simp [intOf]; omega
    · obtain rfl : k = 64 := by omega
      rw [MA_end 64 x 0#64 (fun i h1 h2 => by omega)] at hT
      have hst : (storeCells ⟨w.heap.size, 0, none⟩ (BA x).toList).run Try.prog wr = .ok () (wr.setRow w.heap.size (BA x)) := run_storeAll hZ (by rw [BA_size, BA_size]) (MA_one 0 x x)
      go_wp2_with (refine wpList_load_row rfl 69 _ rfl (w.heap.size + 1) rfl 69 _ _ _ hT Try.underlying69 rfl (by rw [BA_size]; exact infoBits) ?_)
      exact bodyPost_ret (results_cell_row rfl _ _ w.heap.size 69 (BA x) (0, 0) _ rfl (setRow_heap _ _ _ _ _ _ hZ) Try.underlying69 rfl (by rw [BA_size]; exact infoBits)) rfl ⟨rfl, below_setRow hB (Nat.le_refl _) _⟩

set_option maxRecDepth 100000 in
set_option maxHeartbeats 1000000 in
theorem bitsNumber_any (x : BitVec 64) (w : World) : Calls Try.prog 37 #[.agg (BA x)] w fun e w' => e = .returned (.int .u64 (U x)) ∧ Below w.heap.size w w' := by
  have H0 : Hid (x >>> 64 = 0#64) := by show _ = _; exact BitVec.ushiftRight_eq_zero (by decide)
  go_enter Try.func37, Try.ntmps37
  go_wp2
  go_loopw [3, 4] (fun n i wr => ∃ (m : Nat) (I : Int), m ≤ 64 ∧ I + 1 = m ∧ i = .int .i64 I ∧ n = .int .u64 (U (x >>> m)) ∧ wr.heap[w.heap.size]? = some (.cells (BA x) 69 (0, 0)) ∧ Below w.heap.size w wr) (fun _ i _ => (intOf i + 1).toNat)
  case atStart =>
    exact ⟨64, 63, by omega, by omega, rfl, by rw [H0.out]; rfl, heap_alloc_new w _, (Below.refl _ _).alloc (Nat.le_refl _) _⟩
  case round =>
    obtain ⟨m, I, hm, hI, rfl, rfl, hT, hB⟩ := hrel
    clear H0
    cases m with
    | zero =>
      obtain rfl : I = -1 := by omega
      have e : U (x >>> 0) = U x := by simp
      rw [e]
      clear e
      go_wp2
      go_ret
      exact ⟨rfl, hB⟩
    | succ j =>
      obtain rfl : I = (j : Int) := by omega
      have k0 : (0 : Int) ≤ j := by omega
      have k1 : (j : Int) < 64 := by omega
      have c1 : wr.cell? ⟨w.heap.size, j, none⟩ = some (.bool (x.getLsbD j)) := by rw [cell_of_row _ _ _ _ _ _ hT, BA_get _ _ (by omega)]
      have HT := Lib.hid hT
      clear hT
      cases hb : x.getLsbD j with
      | true =>
        obtain ⟨e1, e2⟩ := up_one x j hb
        rw [hb] at c1
        clear hb
        generalize U (x >>> (j + 1)) = q at e1 e2
        go_wp2
        go_roundw
        case rel => exact ⟨j, _, by omega, by omega, rfl, rfl, HT.out, hB⟩
        case measure => simp [intOf] <;> omega
      | false =>
        have e1 := up_none x j hb
        rw [hb] at c1
        clear hb
        generalize U (x >>> (j + 1)) = q at e1
        go_wp2
        go_roundw
        case rel => exact ⟨j, _, by omega, by omega, rfl, rfl, HT.out, hB⟩
        case measure => simp [intOf] <;> omega

theorem down_bit (x : BitVec 64) (p k : Nat) : (x ^^^ x >>> p).getLsbD k = (x.getLsbD k != x.getLsbD (k + p)) := by
  rw [BitVec.getLsbD_xor, BitVec.getLsbD_ushiftRight, Nat.add_comm]

theorem heap_alloc3_mid (w : World) (A B C : Obj) : (((w.alloc A).alloc B).alloc C).heap[w.heap.size + 1]? = some B := (Below.heap_alloc _ C _ (by simp)).trans (heap_alloc2_new w A B)
theorem heap_alloc3_old (w : World) (A B C : Obj) : (((w.alloc A).alloc B).alloc C).heap[w.heap.size]? = some A := (Below.heap_alloc _ C _ (by simp; omega)).trans (heap_alloc2_old w A B)
theorem heap_alloc3_new (w : World) (A B C : Obj) : (((w.alloc A).alloc B).alloc C).heap[w.heap.size + 2]? = some C := by
  have h := heap_alloc_new ((w.alloc A).alloc B) C
  simpa using h
theorem store3 (w : World) (A B : Obj) (c c' : Array Value) (t : TypeId) (h1 : c.size = c'.size) (h2 : ∀ v ∈ c'.toList, v.oneCell' = true) : (storeCells ⟨w.heap.size + 1 + 1, 0, none⟩ c'.toList).run Try.prog (((w.alloc A).alloc B).alloc (.cells c t)) = .ok () (((w.alloc A).alloc B).alloc (.cells c' t)) := by
  have h := World.setRow_alloc_new ((w.alloc A).alloc B) c c' t
  have e : ((w.alloc A).alloc B).heap.size = w.heap.size + 1 + 1 := by simp
  rw [e] at h
  rw [← h]
  exact run_storeAll (heap_alloc3_new w _ _ _) h1.symm h2

set_option maxRecDepth 100000 in
set_option maxHeartbeats 1000000 in
theorem bitsDown_any (x : BitVec 64) (p : Nat) (hp : p ≤ 64) (w : World) : Calls Try.prog 38 #[.agg (BA x), .int .i64 p] w fun e w' => e = .returned (.agg (BA (x ^^^ x >>> p))) ∧ Below w.heap.size w w' := by
  have hz := zeroBits
  have hst := store3 w (.cells (BA x) 69) (.cells (BA 0#64) 69) (BA 0#64) (BA x) 69 (by rw [BA_size, BA_size]) (MA_one 0 x x)
  obtain ⟨D, hD⟩ : ∃ D, D = x ^^^ x >>> p := ⟨_, rfl⟩
  have hbit := Lib.hid (fun k => (congrArg (fun d : BitVec 64 => d.getLsbD k) hD).trans (down_bit x p k))
  rw [← hD]
  clear hD
  go_enter Try.func38, Try.ntmps38
  go_wp2_with (refine wpList_load_row rfl 69 (.tmp 2) rfl w.heap.size rfl 69 (BA x) (0, 0) _ (heap_alloc2_old w _ _) Try.underlying69 rfl (by rw [BA_size]; exact infoBits) ?_)
  clear hst
  go_loopw [6] (fun i wr => ∃ k : Nat, k ≤ 64 ∧ i = .int .i64 k ∧ wr.heap[w.heap.size + 2]? = some (.cells (MA k D x) 69 (0, 0)) ∧ wr.heap[w.heap.size + 1]? = some (.cells (BA 0#64) 69 (0, 0)) ∧ wr.heap[w.heap.size]? = some (.cells (BA x) 69 (0, 0)) ∧ Below w.heap.size w wr) (fun i _ => 64 - (intOf i).toNat)
  case atStart =>
    refine ⟨0, by omega, rfl, ?_, ?_, ?_, (((Below.refl _ _).alloc (Nat.le_refl _) _).alloc (by simp) _).alloc (by simp; omega) _⟩
    · rw [MA_zero]
      exact heap_alloc3_new w _ _ _
    · exact heap_alloc3_mid w _ _ _
    · exact heap_alloc3_old w _ _ _
  case round =>
    obtain ⟨k, hk, rfl, hT, hZ, hX, hB⟩ := hrel
    have p0 : (p : Int) ≤ 64 := by omega
    have k0 : (0 : Int) ≤ k := by omega
    by_cases hlt : k + p < 64
    · have c1 : wr.cell? ⟨w.heap.size, k, none⟩ = some (.bool (x.getLsbD k)) := by rw [cell_of_row _ _ _ _ _ _ hX, BA_get _ _ (by omega)]
      have c2 : wr.cell? ⟨w.heap.size, k + p, none⟩ = some (.bool (x.getLsbD (k + p))) := by rw [cell_of_row _ _ _ _ _ _ hX, BA_get _ _ hlt]
      have c3 : wr.cell? ⟨w.heap.size + 2, k, none⟩ = some (.bool (if k < k then D.getLsbD k else x.getLsbD k)) := by rw [cell_of_row _ _ _ _ _ _ hT, MA_get _ _ _ _ (by omega)]
      have f1 : wr.frozen? ⟨w.heap.size + 2, k, none⟩ = false := frozen_of_row _ _ _ _ _ hT
      have HW := MA_set k D x
      rw [hbit.out k] at HW
      replace HW := Lib.hid HW
      have HT := Lib.hid hT
      have HX := Lib.hid hX
      have HZ := Lib.hid hZ
      clear hT hZ hX
      generalize x.getLsbD k = b1 at HW c1 c3
      generalize x.getLsbD (k + p) = b2 at HW c2
      generalize (if k < k then D.getLsbD k else b1) = b3 at c3
      have k1 : (k : Int) + p < 64 := by omega
      have k3 : (0 : Int) ≤ (k : Int) + p := by omega
      have k4 : ((k : Int) + p).toNat = k + p := by omega
      have k5 : IntKind.i64.wrap ((k : Int) + p) = (k : Int) + p := by simp only [IntKind.wrap, IntKind.bits, IntKind.signed]; simp; omega
      have k2 : (k : Int) < 64 := by omega
      go_wp2
      go_still_tail 10, (by kernel_rfl)
      change wpList _ _ _ _ _ wr.drew
      go_wp2
      go_roundw
      case rel =>
        refine ⟨k + 1, by omega, by go_num, ?_, ?_, ?_, hB.drew.setCell (p := ⟨w.heap.size + 2, _, none⟩) (by simp) _⟩
        · show (wr.setCell ⟨w.heap.size + 2, k, none⟩ (.bool (b1 != b2))).heap[w.heap.size + 2]? = _
          rw [heap_setCell_same _ _ _ _ _ _ HT.out, HW.out]
        · show (wr.setCell ⟨w.heap.size + 2, k, none⟩ (.bool (b1 != b2))).heap[w.heap.size + 1]? = _
          rw [heap_setCell_other _ _ _ _ (by simp)]; exact HZ.out
        · show (wr.setCell ⟨w.heap.size + 2, k, none⟩ (.bool (b1 != b2))).heap[w.heap.size]? = _
          rw [heap_setCell_other _ _ _ _ (by simp)]; exact HX.out
      case measure => simp [intOf]; omega
    · have hk1 : 64 < (k : Int) + p + 1 := by omega
      rw [MA_end k D x (fun i h1 h2 => by rw [hbit.out i, BitVec.getLsbD_of_ge x (i + p) (by omega)]; simp)] at hT
      have hst : (storeCells ⟨w.heap.size + 1, 0, none⟩ (BA D).toList).run Try.prog wr = .ok () (wr.setRow (w.heap.size + 1) (BA D)) := run_storeAll hZ (by rw [BA_size, BA_size]) (MA_one 0 D D)
      have k2 : ¬ ((k : Int) + p < 64) := by omega
      clear hX
      go_wp2_with (refine wpList_load_row rfl 69 _ rfl (w.heap.size + 2) rfl 69 _ _ _ hT Try.underlying69 rfl (by rw [BA_size]; exact infoBits) ?_)
      exact bodyPost_ret (results_cell_row rfl _ _ (w.heap.size + 1) 69 (BA D) (0, 0) _ rfl (setRow_heap _ _ _ _ _ _ hZ) Try.underlying69 rfl (by rw [BA_size]; exact infoBits)) rfl ⟨rfl, below_setRow hB (by omega) _⟩

end Go.Proofs.Ytalgkiagdjckiaa

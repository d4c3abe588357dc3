/-
  Proved: a plan that has a layout comes back from its bytes. Whatever plan comes in, the law PlanBack answers true and the argument reads as it did.
  Conditions: none.
-/
import Derived.Test.YthdclndpckojcaaPlanUnpack
import Derived.Laws.StructEq
import Derived.BigRegionIn
import Derived.Deep.RegionHeld3
namespace Go.Proofs.Ythdclndpckojcaa
open Go.ChangeShapes Go.WideShapes Go.ChangeAt Go.RowKit

theorem numOf_bytes (p : PlanP) (k : Nat) (hk : k < 8) : numOf p.bytes k = leOf (p.parts[k]?.getD []) := by
  have h8 : p.parts.length = 8 := rfl
  have e : p.bytes = p.row k ++ (p.parts[k]?.getD [] ++ (p.parts.drop (k + 1)).flatten) := by
    unfold PlanP.bytes PlanP.row
    rw [List.getElem?_eq_getElem (by omega), Option.getD_some, ← List.flatten_cons, ← List.drop_eq_getElem_cons (by omega), ← List.flatten_append, List.take_append_drop]
  have h1 := row_len p k (by omega)
  have h2 : (p.parts[k]?.getD []).length = wid k := by
    rcases (by omega : k = 0 ∨ k = 1 ∨ k = 2 ∨ k = 3 ∨ k = 4 ∨ k = 5 ∨ k = 6 ∨ k = 7) with rfl | rfl | rfl | rfl | rfl | rfl | rfl | rfl <;> simp [PlanP.parts, leB_len, wid]
  unfold numOf
  rw [e, ← h1, List.drop_left, ← h2, List.take_left]
theorem leOf_back (k : Nat) (hk : k ≤ 8) (x : BitVec 64) (h : x.toNat < 256 ^ k) : leOf (leB k x) = x := by
  apply BitVec.eq_of_toNat_eq
  rw [leOf_toNat _ (by rw [leB_len]; exact hk), leNat_leB, Nat.mod_eq_of_lt h]
theorem int_back (k : Nat) (hk : k ≤ 8) (n : Int) (h0 : 0 ≤ n) (h : n < 65536) (hp : 65536 ≤ 256 ^ k) : wrap64 (U (leOf (leB k (BitVec.ofInt 64 n)))) = n := by
  obtain ⟨m, rfl⟩ : ∃ m : Nat, n = m := ⟨n.toNat, by omega⟩
  have e : (BitVec.ofInt 64 (m : Int)).toNat = m := by
    rw [BitVec.ofInt_natCast, BitVec.toNat_ofNat]
    exact Nat.mod_eq_of_lt (by omega)
  have hlt : m < 256 ^ k := Nat.lt_of_lt_of_le (by omega) hp
  rw [leOf_back k hk _ (by rw [e]; exact hlt)]
  unfold U
  rw [e]
  exact IntWalk.wrap64_in _ ⟨by omega, by omega⟩
theorem bytes_back (p : PlanP) (h : p.Alone) : PlanP.ofBytes p.bytes = p := by
  have hs := h.sectors; have hz := h.size; have hr := h.regions; have hrs := h.rs; have hl := h.log; have hd := h.depth; have hm := h.memory
  unfold PlanP.ofBytes numInt
  rw [numOf_bytes p 0 (by decide), numOf_bytes p 1 (by decide), numOf_bytes p 2 (by decide), numOf_bytes p 3 (by decide), numOf_bytes p 4 (by decide), numOf_bytes p 5 (by decide), numOf_bytes p 6 (by decide), numOf_bytes p 7 (by decide)]
  show PlanP.mk (wrap64 (U (leOf (leB 4 (BitVec.ofInt 64 p.sectors))))) (wrap64 (U (leOf (leB 4 (BitVec.ofInt 64 p.size))))) (wrap64 (U (leOf (leB 2 (BitVec.ofInt 64 p.regions))))) (wrap64 (U (leOf (leB 2 (BitVec.ofInt 64 p.rs))))) (wrap64 (U (leOf (leB 2 (BitVec.ofInt 64 p.log))))) (wrap64 (U (leOf (leB 2 (BitVec.ofInt 64 p.depth))))) (wrap64 (U (leOf (leB 2 (BitVec.ofInt 64 p.memory))))) (leOf (leB 8 p.seed)) = p
  rw [int_back 4 (by decide) _ (by omega) (by omega) (by decide), int_back 4 (by decide) _ (by omega) (by omega) (by decide), int_back 2 (by decide) _ (by omega) (by omega) (by decide), int_back 2 (by decide) _ (by omega) (by omega) (by decide), int_back 2 (by decide) _ (by omega) (by omega) (by decide), int_back 2 (by decide) _ (by omega) (by omega) (by decide), int_back 2 (by decide) _ (by omega) (by omega) (by decide), leOf_back 8 (by decide) _ (by have := p.seed.isLt; omega)]

theorem bytes_len (p : PlanP) : p.bytes.length = 26 := row_len p 8 (by decide)
/-- Behind the call whose result is laid in a block of its own: all else is as it was. -/
theorem round_row {W w1 : World} (z cs : Array Value) (T : TypeId) {B : Nat} {bs : Array Value} {t : TypeId} (hB : W.heap[B]? = some (.cells bs t (0, 0))) (h : Below W.heap.size W w1) :
    ((w1.alloc (.cells z T)).setRow w1.heap.size cs).heap[B]? = some (.cells bs t (0, 0)) ∧ ((w1.alloc (.cells z T)).setRow w1.heap.size cs).heap[w1.heap.size]? = some (.cells cs T (0, 0)) ∧
      Below W.heap.size W ((w1.alloc (.cells z T)).setRow w1.heap.size cs) ∧ W.heap.size ≤ w1.heap.size ∧ B < w1.heap.size := by
  have l1 := h.size
  have lB := blk_lt hB
  refine ⟨?_, setRow_heap _ _ _ _ _ _ (heap_alloc_new _ _), ?_, by omega, by omega⟩
  · rw [setRow_other (by omega), Below.heap_alloc _ _ _ (by omega), h.block _ (by omega)]
    exact hB
  · exact below_setRow (h.alloc (by omega) _) (by omega) _

set_option maxRecDepth 100000 in
theorem plan_eql (a0 a1 a2 a3 a4 a5 a6 a7 : Int) (V : World) : (binOp .eql 30 (.agg #[.int .i64 a0, .int .i64 a1, .int .i64 a2, .int .i64 a3, .int .i64 a4, .int .i64 a5, .int .i64 a6, .int .u64 a7]) (.agg #[.int .i64 a0, .int .i64 a1, .int .i64 a2, .int .i64 a3, .int .i64 a4, .int .i64 a5, .int .i64 a6, .int .u64 a7])).run Try.prog V = .ok (.bool true) V := by
  rw [run_eql_struct, show (10000 : Nat) = 9999 + 1 from rfl, run_equalIn_struct _ _ _ _ _ (by kernel_rfl) (by kernel_rfl)]
  have h3 : ∀ (a : Int) (W : World), (Op.equalIn 9999 3 (.int .i64 a) (.int .i64 a)).run Try.prog W = .ok true W := fun a W => by
    rw [show (9999 : Nat) = 9998 + 1 from rfl, run_equalIn_int W 9998 3 .i64 _ a a Try.underlying3, beq_self_eq_true]
  have h22 : ∀ (a : Int) (W : World), (Op.equalIn 9999 22 (.int .u64 a) (.int .u64 a)).run Try.prog W = .ok true W := fun a W => by
    rw [show (9999 : Nat) = 9998 + 1 from rfl, run_equalIn_int W 9998 22 .u64 _ a a Try.underlying22, beq_self_eq_true]
  simp [Program.fieldsOf, Try.underlying30, Op.eqFields, part, h3, h22]
set_option maxRecDepth 100000 in
theorem plan_guard (a0 a1 a2 a3 a4 a5 a6 a7 : Int) (x y : Operand) (V : World) : (eqGuard .eql 30 x y (.agg #[.int .i64 a0, .int .i64 a1, .int .i64 a2, .int .i64 a3, .int .i64 a4, .int .i64 a5, .int .i64 a6, .int .u64 a7]) (.agg #[.int .i64 a0, .int .i64 a1, .int .i64 a2, .int .i64 a3, .int .i64 a4, .int .i64 a5, .int .i64 a6, .int .u64 a7])).run Try.prog V = .ok () V := run_eqGuard_agg _ _ _ _ _ _ _ (by kernel_rfl)
section
attribute [-go_sem] run_eql_struct run_eqGuard_agg
attribute [local go_sem] plan_eql plan_guard
end

end Go.Proofs.Ythdclndpckojcaa

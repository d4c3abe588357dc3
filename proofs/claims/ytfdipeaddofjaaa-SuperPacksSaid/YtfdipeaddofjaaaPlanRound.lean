/-
  A plan's bytes read back.
  Conditions: none.
-/
import Derived.Test.YtfdipeaddofjaaaPlanUnpack
namespace Go.Proofs.Ytfdipeaddofjaaa
open Go.RowKit

theorem numOf_bytes (p : PlanP) (k : Nat) (hk : k < 8) : numOf p.bytes k = leOf (p.parts[k]?.getD []) := by
  have h8 : p.parts.length = 8 := rfl
  have e : p.bytes = p.row k ++ (p.parts[k]?.getD [] ++ (p.parts.drop (k + 1)).flatten) := by
    unfold PlanP.bytes PlanP.row
    rw [List.getElem?_eq_getElem (by omega), Option.getD_some, ← List.flatten_cons, ← List.drop_eq_getElem_cons (by omega), ← List.flatten_append, List.take_append_drop]
  have h1 := row_len p k (by omega)
  have h2 : (p.parts[k]?.getD []).length = wid k := by
    rcases (by omega : k = 0 ∨ k = 1 ∨ k = 2 ∨ k = 3 ∨ k = 4 ∨ k = 5 ∨ k = 6 ∨ k = 7) with rfl | rfl | rfl | rfl | rfl | rfl | rfl | rfl <;> simp [PlanP.parts, leB_len, wid]
  unfold numOf
  rw [e, ← h1, List.drop_left, ← h2, List.take_left]
theorem leOf_back (k : Nat) (hk : k ≤ 8) (x : BitVec 64) (h : x.toNat < 256 ^ k) : leOf (leB k x) = x := by
  apply BitVec.eq_of_toNat_eq
  rw [leOf_toNat _ (by rw [leB_len]; exact hk), leNat_leB, Nat.mod_eq_of_lt h]
theorem int_back (k : Nat) (hk : k ≤ 8) (n : Int) (h0 : 0 ≤ n) (h : n < 65536) (hp : 65536 ≤ 256 ^ k) : wrap64 (U (leOf (leB k (BitVec.ofInt 64 n)))) = n := by
  obtain ⟨m, rfl⟩ : ∃ m : Nat, n = m := ⟨n.toNat, by omega⟩
  have e : (BitVec.ofInt 64 (m : Int)).toNat = m := by
    rw [BitVec.ofInt_natCast, BitVec.toNat_ofNat]
    exact Nat.mod_eq_of_lt (by omega)
  have hlt : m < 256 ^ k := Nat.lt_of_lt_of_le (by omega) hp
  rw [leOf_back k hk _ (by rw [e]; exact hlt)]
  unfold U
  rw [e]
  exact IntWalk.wrap64_in _ ⟨by omega, by omega⟩
theorem bytes_back (p : PlanP) (h : p.Alone) : PlanP.ofBytes p.bytes = p := by
  have hs := h.sectors; have hz := h.size; have hr := h.regions; have hrs := h.rs; have hl := h.log; have hd := h.depth; have hm := h.memory
  unfold PlanP.ofBytes numInt
  rw [numOf_bytes p 0 (by decide), numOf_bytes p 1 (by decide), numOf_bytes p 2 (by decide), numOf_bytes p 3 (by decide), numOf_bytes p 4 (by decide), numOf_bytes p 5 (by decide), numOf_bytes p 6 (by decide), numOf_bytes p 7 (by decide)]
  show PlanP.mk (wrap64 (U (leOf (leB 4 (BitVec.ofInt 64 p.sectors))))) (wrap64 (U (leOf (leB 4 (BitVec.ofInt 64 p.size))))) (wrap64 (U (leOf (leB 2 (BitVec.ofInt 64 p.regions))))) (wrap64 (U (leOf (leB 2 (BitVec.ofInt 64 p.rs))))) (wrap64 (U (leOf (leB 2 (BitVec.ofInt 64 p.log))))) (wrap64 (U (leOf (leB 2 (BitVec.ofInt 64 p.depth))))) (wrap64 (U (leOf (leB 2 (BitVec.ofInt 64 p.memory))))) (leOf (leB 8 p.seed)) = p
  rw [int_back 4 (by decide) _ (by omega) (by omega) (by decide), int_back 4 (by decide) _ (by omega) (by omega) (by decide), int_back 2 (by decide) _ (by omega) (by omega) (by decide), int_back 2 (by decide) _ (by omega) (by omega) (by decide), int_back 2 (by decide) _ (by omega) (by omega) (by decide), int_back 2 (by decide) _ (by omega) (by omega) (by decide), int_back 2 (by decide) _ (by omega) (by omega) (by decide), leOf_back 8 (by decide) _ (by have := p.seed.isLt; omega)]

end Go.Proofs.Ytfdipeaddofjaaa

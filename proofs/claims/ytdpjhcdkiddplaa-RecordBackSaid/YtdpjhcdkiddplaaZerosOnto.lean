/-
  append(b, make([]byte, k)...) onto a row that is owned.
  Conditions: none.
-/
import Derived.Test.YtdpjhcdkiddplaaMem
import Derived.Lib.AppendZerosOnto
namespace Go.Proofs.Ytdpjhcdkiddplaa
open Go.RowKit

theorem zeroCells_toList (k : Nat) : (Builtin.zeroCells #[Value.int .u8 0] k).toList = cellsOf (List.replicate k 0#8) := by
  apply List.ext_getElem
  · simp [Builtin.zeroCells, cellsOf]
  · intro i h1 h2
    simp [Builtin.zeroCells, cellsOf, Nat.mod_one]
    rfl
theorem run_append_zeros_onto {w : World} (base : Nat) (v : Value) (xs : List (BitVec 8)) (hown : w.ownsRow base 5 1 v xs.length (cellsOf xs)) (k : Nat) (hk : k ≤ 1000) (hlen : xs.length ≤ 1099511627776) (hb : base ≤ w.heap.size) (ty : TypeId) :
    ∃ v' w', (Builtin.append_ #[23, 3] ty #[v, .int .i64 k]).run Try.prog w = .ok v' w' ∧ w'.ownsRow base 5 1 v' (xs ++ List.replicate k 0#8).length (cellsOf (xs ++ List.replicate k 0#8)) ∧ w.grownBy w' v.ownBlock := by
  obtain ⟨i0, hi, hz0, hz1, hz2⟩ := info_parts Try.infoU8
  have ht := Try.underlying23
  have htn := Try.underlying3
  have hcl : cellsOf (xs ++ List.replicate k 0#8) = cellsOf xs ++ cellsOf (List.replicate k 0#8) := cellsOf_append _ _
  have hll : (xs ++ List.replicate k 0#8).length = xs.length + k := by simp
  by_cases h0 : k = 0
  · subst h0
    refine ⟨v, w, ?_, by simpa using hown, ⟨rfl, rfl, rfl, Nat.le_refl _, fun _ _ _ => rfl⟩⟩
    have hn : IntKind.i64.wrap 0 = 0 := by decide
    rcases hown.2 with ⟨rfl, h⟩ | ⟨g, cap, cur, rfl, hbg, hg, hnc, hcm, hcs, htake⟩
    · simp [Builtin.append_, run_underlying ht, run_underlying htn, sizeOf, typeInfo, hi, asInt, asIntOf, hn]
    · simp [Builtin.append_, run_underlying ht, run_underlying htn, sizeOf, typeInfo, hi, asInt, asIntOf, hn, hnc, storeCells]
  · have grown : ∀ (old : Nat) (row : Option Nat),
        (w.drew.alloc (.cells ((cellsOf xs).toArray ++ Builtin.zeroCells #[.int .u8 0] k ++ Builtin.zeroCells #[.int .u8 0] (grownCap w (xs.length + k) old 5 - (xs.length + k))) 5)).ownsRow base 5 1
          (.slice (some ⟨w.heap.size, 0, none⟩) (xs.length + k) (grownCap w (xs.length + k) old 5)) (xs ++ List.replicate k 0#8).length (cellsOf (xs ++ List.replicate k 0#8)) ∧
        w.grownBy (w.drew.alloc (.cells ((cellsOf xs).toArray ++ Builtin.zeroCells #[.int .u8 0] k ++ Builtin.zeroCells #[.int .u8 0] (grownCap w (xs.length + k) old 5 - (xs.length + k))) 5)) row := by
      intro old row
      have hge := grownCap_ge w (xs.length + k) old 5
      have hcm : grownCap w (xs.length + k) old 5 ≤ maxLen := grownCap_le_maxLen w (xs.length + k) old 5 (by unfold maxLen; omega)
      refine ⟨⟨by rw [cellsOf_len, Nat.mul_one], .inr ⟨w.heap.size, _, _, by rw [hll], hb, heap_alloc_new w.drew _, by rw [hll]; exact hge, hcm, ?_, ?_⟩⟩, ⟨rfl, rfl, rfl, by simp, fun j hj _ => Below.heap_alloc w.drew _ j hj⟩⟩
      · simp only [Array.size_append, List.size_toArray, size_zeroCells, cellsOf_len]
        simp
        omega
      · simp only [Array.toList_append, List.append_assoc]
        rw [← List.append_assoc, zeroCells_toList, ← hcl, Nat.mul_one, ← cellsOf_len]
        exact List.take_left
    rcases hown.2 with ⟨rfl, h⟩ | ⟨g, cap, cur, rfl, hbg, hg, hnc, hcm, hcs, htake⟩
    · have hx : xs = [] := List.eq_nil_of_length_eq_zero h
      subst hx
      have hr := Lib.run_append_nil_zeros (P := Try.prog) w 23 3 ty 5 i0 (.int .u8 0) .i64 _ ht htn hi hz0 k (by omega) (by omega) (by omega) (by rw [hz2]; omega)
      have hgr := grown 0 (Value.ownBlock (.slice none 0 0))
      simp only [List.length_nil, Nat.zero_add, List.nil_append, cellsOf_nil, Array.empty_append] at hgr ⊢
      exact ⟨_, _, hr, hgr.1, hgr.2⟩
    · have hw : IntKind.i64.wrap (k : Int) = k := IntWalk.i64_in _ ⟨by omega, by omega⟩
      by_cases hroom : xs.length + k ≤ cap
      · have hst := run_storeCells_at Try.prog g (xs.length * i0.size) 5 (cellsOf (List.replicate k 0#8)) 0 cur w hg (by rw [hz1, cellsOf_len, List.length_replicate, hcs]; omega) (cellsOf_one _)
        simp only [Nat.add_zero] at hst
        have hneg : ¬ ((k : Int) < 0) := by omega
        have h48i : ¬ (281474976710656 < (k : Int) * (i0.bytes : Int)) := by rw [hz2]; omega
        have hns : ¬ (k * i0.size = 0) := by rw [hz1]; omega
        have hr : (Builtin.append_ #[23, 3] ty #[.slice (some ⟨g, 0, none⟩) xs.length cap, .int .i64 k]).run Try.prog w = .ok (.slice (some ⟨g, 0, none⟩) (xs.length + k) cap) (w.setRow g (cur.toList.take (xs.length * i0.size) ++ cellsOf (List.replicate k 0#8) ++ cur.toList.drop (xs.length * i0.size + (cellsOf (List.replicate k 0#8)).length)).toArray) := by
          simp [Builtin.append_, run_underlying ht, run_underlying htn, sizeOf, typeInfo, zeroValue, hi, hz0, asInt, asIntOf, hw, hroom, hneg, h48i, hns, Addr.add_lit, Value.cells, zeroCells_toList, hst]
        refine ⟨_, _, hr, ⟨by rw [cellsOf_len, Nat.mul_one], .inr ⟨g, cap, _, by rw [hll], hbg, setRow_heap w g cur _ 5 _ hg, by rw [hll]; exact hroom, hcm, ?_, ?_⟩⟩, ⟨rfl, rfl, rfl, by simp, fun j _ hj => setRow_other w g j _ (fun e => hj (by simp [Value.ownBlock, e]))⟩⟩
        · simp only [List.size_toArray, List.length_append, List.length_take, List.length_drop, Array.length_toList, cellsOf_len, List.length_replicate, hz1]
          omega
        · rw [hz1, htake, ← hcl, Nat.mul_one]
          have : (xs ++ List.replicate k 0#8).length = (cellsOf (xs ++ List.replicate k 0#8)).length := (cellsOf_len _).symm
          rw [this]
          exact List.take_left
      · have holds : ∀ j u, (cellsOf xs)[j]? = some u → w.cell? ((⟨g, 0, none⟩ : Addr).add j) = some u := hown.cells (g := g) rfl
        have hfc := run_firstCells_some (P := Try.prog) w.drew i0.size xs.length ⟨g, 0, none⟩ xs.length cap (cellsOf xs) (by rw [hz1, cellsOf_len, Nat.mul_one]) holds
        have hr := Lib.run_append_grow_zeros (P := Try.prog) w 23 3 ty 5 i0 (.int .u8 0) .i64 _ ht htn hi hz0 (some ⟨g, 0, none⟩) xs.length cap (cellsOf xs) hfc k (by omega) (by omega) (by omega) (by omega) (by rw [hz2]; omega) (growslice_fits (by omega) (by rw [hz2]; omega))
        have hgr := grown cap (Value.ownBlock (.slice (some ⟨g, 0, none⟩) xs.length cap))
        exact ⟨_, _, hr, hgr.1, hgr.2⟩
end Go.Proofs.Ytdpjhcdkiddplaa

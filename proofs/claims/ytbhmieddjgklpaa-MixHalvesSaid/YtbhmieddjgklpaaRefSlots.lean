/-
  What the verifier's own Slots answers: a row of all numbers of depth bits whose highest bits are the prefix, or nothing.
  Conditions: none.
-/
import Derived.Test.YtbhmieddjgklpaaSlots
import Derived.Lib.Hide
namespace Go.Proofs.Ytbhmieddjgklpaa
open Go.RowKit

/-- The numbers below k whose quotient by L is p. -/
def quos (p L k : Nat) : List Int := ((List.range k).filter fun i => i / L == p).map fun i : Nat => (i : Int)
theorem quos_hit (p L k : Nat) (h : k / L = p) : quos p L (k + 1) = quos p L k ++ [(k : Int)] := by
  simp [quos, List.range_succ, List.filter_append, h]
theorem quos_miss (p L k : Nat) (h : k / L ≠ p) : quos p L (k + 1) = quos p L k := by
  simp [quos, List.range_succ, List.filter_append, h]
theorem quos_len (p L k : Nat) : (quos p L k).length ≤ k := by
  have := List.length_filter_le (fun i => i / L == p) (List.range k)
  simpa [quos] using this

set_option maxRecDepth 100000 in
set_option maxHeartbeats 1000000 in
theorem refSlots_any (p b d f : Nat) (hbd : b + f = d) (hd : d ≤ 20) (w : World) :
    Calls Try.prog 29 #[.int .i64 p, .int .i64 b, .int .i64 d] w fun e W' => ∃ v, e = .returned v ∧ W'.ownsRow w.heap.size 3 1 v (quos p (2 ^ f) (2 ^ d)).length ((quos p (2 ^ f) (2 ^ d)).map (Value.int .i64)) ∧ Below w.heap.size w W' := by
  obtain ⟨i0, hi, hz0, hz1, hz2⟩ := info_parts Try.infoInt
  have l1 : b ≤ d := by omega
  have l2 : (d : Int) ≤ 20 := by omega
  have e4 : (d : Int) - (b : Int) = (f : Int) := by omega
  have hfd : f ≤ d := by omega
  clear hbd
  go_enter Try.func29, Try.ntmps29
  go_wp2
  go_loop [8, 9, 10] (fun a l i => ∃ k P L : Nat, k ≤ d ∧ i = .int .i64 k ∧ Hid (P = 2 ^ k) ∧ a = .int .i64 P ∧ Hid (L = 2 ^ (min k f)) ∧ l = .int .i64 L) (fun _ _ i => d - (intOf i).toNat)
  case atStart => exact ⟨0, 1, 1, Nat.zero_le _, rfl, rfl, rfl, by show 1 = 2 ^ _; simp, rfl⟩
  case round =>
    obtain ⟨k, P, L, hk, rfl, HP, rfl, HL, rfl⟩ := hrel
    have bP : P ≤ 1048576 := by
      have := HP.out; have h2 : 2 ^ k ≤ 2 ^ 20 := Nat.pow_le_pow_right (by omega) (by omega); omega
    have bL : L ≤ 1048576 := by
      have := HL.out; have h2 : 2 ^ (min k f) ≤ 2 ^ 20 := Nat.pow_le_pow_right (by omega) (by omega); omega
    have bL0 : 1 ≤ L := by
      have := HL.out; have h2 : 0 < 2 ^ (min k f) := Nat.two_pow_pos _; omega
    by_cases hlt : k < d
    · by_cases hf : k < f
      · go_wp2
        go_round
        case rel => exact ⟨k + 1, P * 2, L * 2, by omega, by go_num, by have := HP.out; show _ = _; rw [this, Nat.pow_succ], by go_num, by have := HL.out; show _ = _; rw [this, ← Nat.pow_succ]; congr 1; omega, by go_num⟩
        case measure => simp [intOf]; omega
      · go_wp2
        go_round
        case rel => exact ⟨k + 1, P * 2, L, by omega, by go_num, by have := HP.out; show _ = _; rw [this, Nat.pow_succ], by go_num, by have := HL.out; show _ = _; rw [this]; congr 1; omega, rfl⟩
        case measure => simp [intOf]; omega
    · obtain rfl : k = d := by omega
      have HL' : Hid (L = 2 ^ f) := by have := HL.out; show _ = _; rw [this]; congr 1; omega
      clear HL
      go_wp2
      go_loopw [7, 11] (fun v i wr => ∃ j : Nat, j ≤ P ∧ i = .int .i64 j ∧ wr.ownsRow w.heap.size 3 1 v (quos p L j).length ((quos p L j).map (Value.int .i64)) ∧ Below w.heap.size w wr) (fun _ i _ => P - (intOf i).toNat)
      case atStart => exact ⟨0, Nat.zero_le _, rfl, World.ownsRow_nil _ _ _ _, Below.refl _ _⟩
      case round =>
        obtain ⟨j, hj, rfl, hown, hB⟩ := hrel
        have hql := quos_len p L j
        have e5 : wrap64 ((j : Int) / (L : Int)) = ((j / L : Nat) : Int) := by
          have h1 := Nat.div_le_self j L
          rw [← Int.natCast_ediv]
          generalize j / L = q at h1 ⊢
          exact IntWalk.wrap64_in _ ⟨by omega, by omega⟩
        by_cases hlt2 : j < P
        · by_cases hq : j / L = p
          · have hq1 : (wrap64 ((j : Int) / (L : Int)) == (p : Int)) = true := by rw [e5, hq]; simp
            clear e5
            have hq2 := Lib.hid (quos_hit p L j hq)
            clear hq
            have hBs := hB.size
            go_wp2_with (at_builtin; refine wpList_append_own _ rfl _ _ 45 rfl w.heap.size 3 i0 (.int .i64 0) 1 8 Try.underlying45 hi hz0 hz1 hz2 rfl (by decide) _ _ _ rfl (hown.alloc _) ⟨wr.heap.size, 0, none⟩ 1 1 [.int .i64 (j : Int)] rfl rfl (cell_one_new _ _ _) (by simp [Value.oneCell']) (by unfold maxLen; omega) (by omega) (by simp; omega) ?_; intro v' w1 hown' hgrow _)
            go_roundw
            case rel => exact ⟨j + 1, by omega, by go_num, by rw [hq2.out]; simpa using hown', (hB.alloc hBs _).grown hgrow (by simp; omega) (fun k e => (hown.lt k e).1)⟩
            case measure => simp [intOf]; omega
          · have hq1 : (wrap64 ((j : Int) / (L : Int)) == (p : Int)) = false := by rw [e5]; simpa using (by omega)
            clear e5
            have hq2 := Lib.hid (quos_miss p L j hq)
            clear hq
            go_wp2
            go_roundw
            case rel => exact ⟨j + 1, by omega, by go_num, by rw [hq2.out]; exact hown, hB⟩
            case measure => simp [intOf]; omega
        · obtain rfl : j = P := by omega
          clear e5
          go_wp2
          go_ret
          refine ⟨_, rfl, ?_, hB⟩
          rw [← HP.out, ← HL'.out]
          exact hown

set_option maxHeartbeats 1000000 in
theorem refSlots_out (p b d : Int) (h : b < 0 ∨ d < b ∨ 20 < d ∨ p < 0) (w : World) :
    Calls Try.prog 29 #[.int .i64 p, .int .i64 b, .int .i64 d] w fun e w' => e = .returned (.slice none 0 0) ∧ w = w' := by
  by_cases c1 : b < 0
  · go_enter Try.func29, Try.ntmps29
    go_wp2
    go_ret
    exact ⟨rfl, rfl⟩
  by_cases c2 : d < b
  · go_enter Try.func29, Try.ntmps29
    go_wp2
    go_ret
    exact ⟨rfl, rfl⟩
  by_cases c3 : 20 < d
  · go_enter Try.func29, Try.ntmps29
    go_wp2
    go_ret
    exact ⟨rfl, rfl⟩
  have c4 : p < 0 := by omega
  go_enter Try.func29, Try.ntmps29
  go_wp2
  go_ret
  exact ⟨rfl, rfl⟩

/-- A slice value that reads as these numbers. -/
def Ints (w : World) (v : Value) (xs : List Int) : Prop :=
  ∃ a cap, v = .slice a xs.length cap ∧ (xs = [] ∨ ∃ g off, a = some ⟨g, off, none⟩ ∧ ∀ j, j < xs.length → w.cell? ⟨g, off + j, none⟩ = some (.int .i64 (xs[j]?.getD 0)))
theorem Ints.of_owns {w : World} {base : Nat} {v : Value} {xs : List Int} (h : w.ownsRow base 3 1 v xs.length (xs.map (Value.int .i64))) : Ints w v xs := by
  have h0 := h
  rcases h.2 with ⟨rfl, h1⟩ | ⟨g, cap, cur, rfl, _⟩
  · obtain rfl : xs = [] := by simpa using h1
    exact ⟨none, 0, rfl, .inl rfl⟩
  · refine ⟨_, cap, rfl, .inr ⟨g, 0, rfl, fun j hj => ?_⟩⟩
    have := h0.cellAt j (by simpa using hj)
    rw [Nat.zero_add, this]
    simp [hj]
theorem Ints.below {B : Nat} {w w' : World} (hb : Below B w w') {v : Value} {xs : List Int} (h : Ints w v xs) (hB : w.heap.size ≤ B) : Ints w' v xs := by
  obtain ⟨a, cap, rfl, h⟩ := h
  refine ⟨a, cap, rfl, ?_⟩
  rcases h with h | ⟨g, off, rfl, hc⟩
  · exact .inl h
  · exact .inr ⟨g, off, rfl, fun j hj => (hb.cell (p := ⟨g, off + j, none⟩) (Nat.lt_of_lt_of_le (World.block_lt_of_cell? w _ (hc j hj)) hB)).trans (hc j hj)⟩

theorem quos_all (p M N : Nat) (hN : 0 < N) (hp : p < M) : quos p N (M * N) = upto (slotAt p N) N := by
  obtain ⟨r, rfl⟩ : ∃ r, M = p + 1 + r := ⟨M - (p + 1), by omega⟩
  have e : (p + 1 + r) * N = p * N + N + r * N := by rw [Nat.add_mul, Nat.add_mul, Nat.one_mul]
  unfold quos upto
  rw [e, List.range_add, List.range_add, List.filter_append, List.filter_append]
  have f1 : (List.range (p * N)).filter (fun i => i / N == p) = [] := by
    rw [List.filter_eq_nil_iff]
    intro i hi
    have : i < p * N := by simpa using hi
    have := (Nat.div_lt_iff_lt_mul hN).2 this
    simp; omega
  have f2 : ((List.range N).map (p * N + ·)).filter (fun i => i / N == p) = (List.range N).map (p * N + ·) := by
    rw [List.filter_eq_self]
    intro i hi
    obtain ⟨j, hj, rfl⟩ := List.mem_map.1 hi
    have hj : j < N := by simpa using hj
    have : (p * N + j) / N = p := by rw [Nat.mul_comm, Nat.mul_add_div hN, Nat.div_eq_of_lt hj, Nat.add_zero]
    simp [this]
  have f3 : ((List.range (r * N)).map (p * N + N + ·)).filter (fun i => i / N == p) = [] := by
    rw [List.filter_eq_nil_iff]
    intro i hi
    obtain ⟨j, hj, rfl⟩ := List.mem_map.1 hi
    have : (p * N + N + j) / N = p + 1 + j / N := by
      rw [show p * N + N + j = N * (p + 1) + j by rw [Nat.mul_comm p, Nat.mul_add, Nat.mul_one], Nat.mul_add_div hN]
    have h2 : (p * N + N + j) / N ≠ p := by
      rw [this]
      generalize j / N = q
      omega
    simpa using h2
  rw [f1, f2, f3]
  simp [slotAt]
theorem quos_none (p M N : Nat) (hp : M ≤ p) : quos p N (M * N) = [] := by
  unfold quos
  rw [List.map_eq_nil_iff, List.filter_eq_nil_iff]
  intro i hi
  have hi : i < M * N := by simpa using hi
  have hN : 0 < N := by
    rcases Nat.eq_zero_or_pos N with h | h
    · subst h; omega
    · exact h
  have := (Nat.div_lt_iff_lt_mul hN).2 hi
  simp; omega

end Go.Proofs.Ytbhmieddjgklpaa

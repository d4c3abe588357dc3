/-
  plan.Pack: the bytes of a plan.
  Conditions: none.
-/
import Derived.Test.YtfdipeaddofjaaaJP1
import Derived.Test.YtfdipeaddofjaaaJW
namespace Go.Proofs.Ytfdipeaddofjaaa
open Go.RowKit

/-- The bytes of a plan, part by part. -/
def PlanP.parts (p : PlanP) : List (List (BitVec 8)) := [leB 4 (BitVec.ofInt 64 p.sectors), leB 4 (BitVec.ofInt 64 p.size), leB 2 (BitVec.ofInt 64 p.regions), leB 2 (BitVec.ofInt 64 p.rs), leB 2 (BitVec.ofInt 64 p.log), leB 2 (BitVec.ofInt 64 p.depth), leB 2 (BitVec.ofInt 64 p.memory), leB 8 p.seed]
def PlanP.row (p : PlanP) (k : Nat) : List (BitVec 8) := (p.parts.take k).flatten
def PlanP.bytes (p : PlanP) : List (BitVec 8) := p.parts.flatten
theorem row_zero (p : PlanP) : p.row 0 = [] := rfl
theorem row_all (p : PlanP) : p.row 8 = p.bytes := rfl
theorem row_step (p : PlanP) (k : Nat) (hk : k < 8) : p.row (k + 1) = p.row k ++ p.parts[k]?.getD [] := by
  unfold PlanP.row
  have h8 : p.parts.length = 8 := rfl
  rw [List.take_succ_eq_append_getElem (by omega), List.flatten_append, List.getElem?_eq_getElem (by omega)]
  simp
def rowLen (k : Nat) : Nat := ([0, 4, 8, 10, 12, 14, 16, 18, 26] : List Nat)[k]?.getD 26
theorem row_len (p : PlanP) (k : Nat) (hk : k ≤ 8) : (p.row k).length = rowLen k := by
  match k, hk with
  | 0, _ => rfl
  | 1, _ => simp [PlanP.row, PlanP.parts, leB_len, rowLen]
  | 2, _ => simp [PlanP.row, PlanP.parts, leB_len, rowLen]
  | 3, _ => simp [PlanP.row, PlanP.parts, leB_len, rowLen]
  | 4, _ => simp [PlanP.row, PlanP.parts, leB_len, rowLen]
  | 5, _ => simp [PlanP.row, PlanP.parts, leB_len, rowLen]
  | 6, _ => simp [PlanP.row, PlanP.parts, leB_len, rowLen]
  | 7, _ => simp [PlanP.row, PlanP.parts, leB_len, rowLen]
  | 8, _ => simp [PlanP.row, PlanP.parts, leB_len, rowLen]

/-- A writer with room for the number. -/
def NumDid (n₀ B : Nat) (v : Value) (row : List (BitVec 8)) (w : World) (e : Ending) (w' : World) : Prop := e = .returned (.tuple #[]) ∧ ∃ v', WriterAt n₀ w' B v' row 26 false ∧ WStep B v v' w w'
theorem num_step {n₀ B : Nat} {v : Value} {row : List (BitVec 8)} {w : World} (hw : WriterAt n₀ w B v row 26 false) (x : BitVec 64) (k : Int) (hk : mayB k = true) (hlen : row.length + k.toNat ≤ 26) (hn : n₀ ≤ w.heap.size) :
    Calls Try.prog 25 #[.pointer (some ⟨B, 0, none⟩), .int .u64 (U x), .int .i64 k] w (NumDid n₀ B v (row ++ leB k.toNat x) w) := by
  refine (number_any n₀ B v row 26 false x k w hw (by decide) (by decide) (by omega) hn).mono ?_
  rintro e w' ⟨he, v', h1, h2⟩
  refine ⟨he, v', ?_, h2⟩
  have e1 : numB x k = some (leB k.toNat x) := by unfold numB; rw [if_pos hk]
  rw [e1] at h1
  have e2 : wRow row 26 false (some (leB k.toNat x)) = row ++ leB k.toNat x := by
    show (if false = true ∨ (26 : Int) < row.length + (leB k.toNat x).length then row else row ++ leB k.toNat x) = _
    rw [leB_len, if_neg (by simp; omega)]
  have e3 : wFull row 26 false (some (leB k.toNat x)) = false := by
    show (false || decide ((26 : Int) < row.length + (leB k.toNat x).length)) = _
    rw [leB_len, Bool.false_or, decide_eq_false_iff_not]
    omega
  rw [e2, e3] at h1
  exact h1
/-- What holds while numbers are written: the writer, the numbers, all else as it was. -/
def PackAt (w : World) (B g X : Nat) (cs xs : Array Value) (row : List (BitVec 8)) (W : World) : Prop := ∃ v, WriterAt w.heap.size W B v row 26 false ∧ W.heap[g]? = some (.cells cs 3 (0, 0)) ∧ W.heap[X]? = some (.cells xs 31 (0, 0)) ∧ Below w.heap.size w W
theorem below_wstep {n₀ B : Nat} {v v' : Value} {w W W' : World} {row : List (BitVec 8)} (hw : WriterAt n₀ W B v row 26 false) (hs : WStep B v v' W W') (hb : Below n₀ w W) (hB : n₀ ≤ B) (hn : n₀ ≤ W.heap.size) : Below n₀ w W' :=
  hb.trans (hs.moves.below (fun i hi => by
    rcases hi with rfl | hi
    · exact hB
    · exact (hw.own.lt i hi).1) hn)
theorem keep_wstep {n₀ B g : Nat} {v v' : Value} {W W' : World} {row : List (BitVec 8)} {cs : Array Value} {t : TypeId} (hw : WriterAt n₀ W B v row 26 false) (hs : WStep B v v' W W') (hg : W.heap[g]? = some (.cells cs t (0, 0))) (hB : g ≠ B) (ht : 5 ≠ t) : W'.heap[g]? = some (.cells cs t (0, 0)) :=
  (hs.moves.block g (blk_lt hg) (fun hi => by
    rcases hi with hi | hi
    · exact hB hi
    · exact own_ne hw.own hg ht hi)).trans hg

theorem own_base {w : World} {b b' : Nat} {e : TypeId} {size n : Nat} {v : Value} {xs : List Value} (h : w.ownsRow b e size v n xs) (hb : b' ≤ b) : w.ownsRow b' e size v n xs := by
  obtain ⟨h1, h2⟩ := h
  refine ⟨h1, ?_⟩
  rcases h2 with h2 | ⟨g, cap, cur, hv, hg, r⟩
  · exact .inl h2
  · exact .inr ⟨g, cap, cur, hv, Nat.le_trans hb hg, r⟩
theorem parts_lo (p : PlanP) (k : Nat) (hk : k < 2) : p.parts[k]?.getD [] = leB 4 (BitVec.ofInt 64 (([p.sectors, p.size] : List Int)[k]?.getD 0)) := by
  rcases (by omega : k = 0 ∨ k = 1) with rfl | rfl <;> rfl
theorem parts_mid (p : PlanP) (k : Nat) (hk : k < 5) : p.parts[k + 2]?.getD [] = leB 2 (BitVec.ofInt 64 (([p.regions, p.rs, p.log, p.depth, p.memory] : List Int)[k]?.getD 0)) := by
  rcases (by omega : k = 0 ∨ k = 1 ∨ k = 2 ∨ k = 3 ∨ k = 4) with rfl | rfl | rfl | rfl | rfl <;> rfl
theorem PackAt.step {w W : World} {B g X : Nat} {cs xs : Array Value} {row : List (BitVec 8)} (h : PackAt w B g X cs xs row W) (x : BitVec 64) (k : Int) (hk : mayB k = true) (hlen : row.length + k.toNat ≤ 26) (hB : w.heap.size ≤ B) (hgB : g ≠ B) (hXB : X ≠ B) :
    Calls Try.prog 25 #[.pointer (some ⟨B, 0, none⟩), .int .u64 (U x), .int .i64 k] W fun e w' => e = .returned (.tuple #[]) ∧ PackAt w B g X cs xs (row ++ leB k.toNat x) w' := by
  obtain ⟨v, hw, hg, hX, hb⟩ := h
  refine (num_step hw x k hk hlen hb.size).mono ?_
  rintro e w' ⟨he, v', h1, h2⟩
  exact ⟨he, v', h1, keep_wstep hw h2 hg hgB (by decide), keep_wstep hw h2 hX hXB (by decide), below_wstep hw h2 hb hB hb.size⟩

set_option maxRecDepth 100000 in
set_option maxHeartbeats 4000000 in
theorem pack_any (p : PlanP) (w : World) : Calls Try.prog 24 #[.agg p.cells] w fun e w' => ∃ u, e = .returned u ∧ w'.ownsRow w.heap.size 5 1 u p.bytes.length (cellsOf p.bytes) ∧ Below w.heap.size w w' := by
  have HLO := Lib.hid (parts_lo p)
  have HMID := Lib.hid (parts_mid p)
  have HC : Hid (p.cells = #[.int .i64 p.sectors, .int .i64 p.size, .int .i64 p.regions, .int .i64 p.rs, .int .i64 p.log, .int .i64 p.depth, .int .i64 p.memory, .int .u64 (U p.seed)]) := rfl
  rw [HC.out]
  go_enter Try.func24, Try.ntmps24
  go_wp2_with (go_at_call 22; (with_reducible refine (newWriter_any 26 _).mono ?_); rintro e w1 ⟨rfl, hw1⟩; obtain rfl := hw1)
  rw [← HC.out]
  have hstart : ∀ W1 W2 W3 : World, W1 = w.alloc (.cells p.cells 31) → W2 = W1.alloc (.cells #[.slice none 0 0, .int .i64 (max 26 0), .bool false] 122) → W3 = W2.alloc (.cells #[.int .i64 p.sectors, .int .i64 p.size] 3) →
      PackAt w (w.heap.size + 1) (w.heap.size + 1 + 1) w.heap.size #[.int .i64 p.sectors, .int .i64 p.size] p.cells (p.row 0) W3 := by
    rintro W1 W2 W3 h1 h2 h3
    have s1 : W1.heap.size = w.heap.size + 1 := by rw [h1]; simp
    have s2 : W2.heap.size = w.heap.size + 1 + 1 := by rw [h2]; simp [s1]
    refine ⟨.slice none 0 0, ⟨?_, World.ownsRow_nil _ _ _ _⟩, ?_, ?_, ?_⟩
    · rw [h3, Below.heap_alloc _ _ _ (by omega), h2, ← s1]; exact heap_alloc_new _ _
    · rw [h3, ← s2]; exact heap_alloc_new _ _
    · rw [h3, Below.heap_alloc _ _ _ (by omega), h2, Below.heap_alloc _ _ _ (by omega), h1]; exact heap_alloc_new _ _
    · rw [h3, h2, h1]; exact (((Below.refl _ w).alloc (Nat.le_refl _) _).alloc (by simp) _).alloc (by simp; omega) _
  have hs := hstart _ _ _ rfl rfl rfl
  have HS := Lib.hid hs
  clear hs hstart
  go_loopw [15] (fun iv wr => ∃ k : Nat, k ≤ 2 ∧ iv = .int .i64 k ∧ PackAt w (w.heap.size + 1) (w.heap.size + 1 + 1) w.heap.size #[.int .i64 p.sectors, .int .i64 p.size] p.cells (p.row k) wr) (fun iv _ => 2 - (intOf iv).toNat)
  case atStart => exact ⟨0, by omega, rfl, HS.out⟩
  case round =>
    obtain ⟨k, hk, rfl, hP⟩ := hrel
    by_cases hlt : k < 2
    · have k1 : (k : Int) < 2 := by omega
      obtain ⟨n, hn⟩ : ∃ n, ([p.sectors, p.size] : List Int)[k]?.getD 0 = n := ⟨_, rfl⟩
      have hc : wr.cell? ⟨w.heap.size + 1 + 1, k, none⟩ = some (.int .i64 n) := by
        obtain ⟨_, _, hg, _, _⟩ := hP
        rw [blk_cell hg, ← hn]
        rcases (by omega : k = 0 ∨ k = 1) with rfl | rfl <;> rfl
      have hrow := row_step p k (by omega)
      rw [HLO.out k hlt, hn] at hrow
      have hcv := wrap_u64_mod n
      have HST := Lib.hid (hP.step (BitVec.ofInt 64 n) 4 (by decide) (by rw [row_len p k (by omega)]; rcases (by omega : k = 0 ∨ k = 1) with rfl | rfl <;> decide) (by omega) (by omega) (by omega))
      rw [show ((4 : Int).toNat) = 4 from rfl, ← hrow] at HST
      clear hn hrow hP
      go_wp2_with (go_at_call 25; (with_reducible refine HST.out.mono ?_); rintro e w2 ⟨rfl, hp2⟩; have HP2 := Lib.hid hp2; clear hp2)
      go_roundw
      case rel => exact ⟨k + 1, by omega, by go_num, HP2.out⟩
      case measure => simp [intOf]; omega
    · obtain rfl : k = 2 := by omega
      clear HLO
      obtain ⟨v, hw, hg, hX, hb⟩ := hP
      have q2 : wr.cell? ⟨w.heap.size, 2, none⟩ = some (.int .i64 p.regions) := blk_cell hX 2
      have q3 : wr.cell? ⟨w.heap.size, 3, none⟩ = some (.int .i64 p.rs) := blk_cell hX 3
      have q4 : wr.cell? ⟨w.heap.size, 4, none⟩ = some (.int .i64 p.log) := blk_cell hX 4
      have q5 : wr.cell? ⟨w.heap.size, 5, none⟩ = some (.int .i64 p.depth) := blk_cell hX 5
      have q6 : wr.cell? ⟨w.heap.size, 6, none⟩ = some (.int .i64 p.memory) := blk_cell hX 6
      have HS2 : Hid (PackAt w (w.heap.size + 1) wr.heap.size w.heap.size #[.int .i64 p.regions, .int .i64 p.rs, .int .i64 p.log, .int .i64 p.depth, .int .i64 p.memory] p.cells (p.row 2) (wr.alloc (.cells #[.int .i64 p.regions, .int .i64 p.rs, .int .i64 p.log, .int .i64 p.depth, .int .i64 p.memory] 3))) :=
        ⟨v, hw.alloc _, heap_alloc_new _ _, blk_alloc hX _, hb.alloc hb.size _⟩
      have hgB : Hid (wr.heap.size ≠ w.heap.size + 1) := by have := blk_lt hw.blk; unfold Hid; omega
      clear hw hg hX hb
      go_wp2
      obtain ⟨g2, hg2⟩ : ∃ g2, wr.heap.size = g2 := ⟨_, rfl⟩
      rw [hg2] at HS2 hgB
      obtain ⟨wo, rfl⟩ : ∃ wo : World, wo = wr := ⟨_, rfl⟩
      rw [hg2]
      go_loopw [36] (fun iv wr => ∃ k : Nat, k ≤ 5 ∧ iv = .int .i64 k ∧ PackAt w (w.heap.size + 1) g2 w.heap.size #[.int .i64 p.regions, .int .i64 p.rs, .int .i64 p.log, .int .i64 p.depth, .int .i64 p.memory] p.cells (p.row (k + 2)) wr) (fun iv _ => 5 - (intOf iv).toNat)
      case atStart => exact ⟨0, by omega, rfl, HS2.out⟩
      case round =>
        obtain ⟨k, hk, rfl, hP⟩ := hrel
        by_cases hlt : k < 5
        · have k1 : (k : Int) < 5 := by omega
          obtain ⟨n, hn⟩ : ∃ n, ([p.regions, p.rs, p.log, p.depth, p.memory] : List Int)[k]?.getD 0 = n := ⟨_, rfl⟩
          have hc : wr.cell? ⟨g2, k, none⟩ = some (.int .i64 n) := by
            obtain ⟨_, _, hg, _, _⟩ := hP
            rw [blk_cell hg, ← hn]
            rcases (by omega : k = 0 ∨ k = 1 ∨ k = 2 ∨ k = 3 ∨ k = 4) with rfl | rfl | rfl | rfl | rfl <;> rfl
          have hrow := row_step p (k + 2) (by omega)
          rw [HMID.out k hlt, hn] at hrow
          have hcv := wrap_u64_mod n
          have HST := Lib.hid (hP.step (BitVec.ofInt 64 n) 2 (by decide) (by rw [row_len p (k + 2) (by omega)]; rcases (by omega : k = 0 ∨ k = 1 ∨ k = 2 ∨ k = 3 ∨ k = 4) with rfl | rfl | rfl | rfl | rfl <;> decide) (by omega) hgB.out (by omega))
          rw [show ((2 : Int).toNat) = 2 from rfl, ← hrow] at HST
          clear hn hrow hP
          go_wp2_with (go_at_call 25; (with_reducible refine HST.out.mono ?_); rintro e w2 ⟨rfl, hp2⟩; have HP2 := Lib.hid hp2; clear hp2)
          go_roundw
          case rel => (repeat apply Exists.intro); exact ⟨⟨k + 1, by omega, by go_num, by rw [show k + 1 + 2 = k + 2 + 1 by omega]; exact HP2.out⟩, rfl⟩
          case measure => simp [intOf]; omega
        · obtain rfl : k = 5 := by omega
          clear HMID
          have HST := Lib.hid (hP.step p.seed 8 (by decide) (by rw [row_len p (5 + 2) (by omega)]; decide) (by omega) hgB.out (by omega))
          rw [show ((8 : Int).toNat) = 8 from rfl, show p.row (5 + 2) ++ leB 8 p.seed = p.row 8 from (row_step p 7 (by omega)).symm, row_all] at HST
          obtain ⟨_, _, _, hX, _⟩ := hP
          have q7 : wr.cell? ⟨w.heap.size, 7, none⟩ = some (.int .u64 (U p.seed)) := blk_cell hX 7
          have hlen : Hid (p.bytes.length ≤ 1099511627776) := by unfold Hid; rw [← row_all, row_len p 8 (by omega)]; decide
          clear hX
          go_wp2_with (first
            | (go_at_call 25; (with_reducible refine HST.out.mono ?_); rintro e w2 ⟨rfl, v2, hw2, _, _, hb2⟩; have HBY := Lib.hid (bytes_any _ _ _ _ _ _ _ hw2 hlen.out); have HB2 := Lib.hid hb2; clear hw2 hb2)
            | (go_at_call 26; (with_reducible refine HBY.out.mono ?_); rintro e w3 ⟨u, rfl, hu, hb3⟩))
          go_ret
          exact ⟨_, rfl, own_base hu HB2.out.size, HB2.out.trans (hb3.mono HB2.out.size)⟩
end Go.Proofs.Ytfdipeaddofjaaa

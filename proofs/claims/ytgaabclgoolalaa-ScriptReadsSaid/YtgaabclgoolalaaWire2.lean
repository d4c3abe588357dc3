/-
  What a writer's takes and put do, and what slices.Clone of bytes does.
  Conditions: none.
-/
import Derived.Test.YtgaabclgoolalaaWire1
import Derived.Test.YtgaabclgoolalaaWireMath
import Derived.IntWalk
import Derived.OneCell
namespace Go.Proofs.Ytgaabclgoolalaa
open Go.RowKit

set_option maxHeartbeats 1000000 in
theorem takes_yes (B rl : Nat) (a : Option Addr) (cap : Nat) (limit more : Int) (full : Bool) (w : World) (hw : w.heap[B]? = some (.cells #[.slice a rl cap, .int .i64 limit, .bool full] 81 (0, 0)))
    (h0 : 0 ≤ limit) (h1 : limit ≤ 9223372036854775807) (hr : rl ≤ 1099511627776) (hm : more ≤ limit - rl) :
    Calls Try.prog 36 #[.pointer (some ⟨B, 0, none⟩), .bool true, .int .i64 more] w fun e w' => e = .returned (.bool (!full)) ∧ ∃ n, w' = w.drewN n := by
  have c0 : w.cell? ⟨B, 0, none⟩ = some (.slice a rl cap) := blk_cell hw 0
  have c1 : w.cell? ⟨B, 1, none⟩ = some (.int .i64 limit) := blk_cell hw 1
  have c2 : w.cell? ⟨B, 2, none⟩ = some (.bool full) := blk_cell hw 2
  have d1 : decide (limit - rl < more) = false := by simp; omega
  have r1 : (rl : Int) ≤ 1099511627776 := by omega
  have s1 : IntKind.i64.wrap (limit - (rl : Int)) = limit - rl := IntWalk.i64_in _ (by omega)
  clear hw
  go_enter Try.func36, Try.ntmps36
  go_wp2
  go_quiet (fail)
  go_wp2
  go_ret
  exact ⟨rfl, _, rfl⟩

set_option maxHeartbeats 1000000 in
theorem takes_more (B rl : Nat) (a : Option Addr) (cap : Nat) (limit more : Int) (full : Bool) (w : World) (hw : w.heap[B]? = some (.cells #[.slice a rl cap, .int .i64 limit, .bool full] 81 (0, 0)))
    (h0 : 0 ≤ limit) (h1 : limit ≤ 9223372036854775807) (hr : rl ≤ 1099511627776) (hm : limit - rl < more) :
    Calls Try.prog 36 #[.pointer (some ⟨B, 0, none⟩), .bool true, .int .i64 more] w fun e w' => e = .returned (.bool false) ∧ ∃ n, w' = (w.drewN n).setCell ⟨B, 2, none⟩ (.bool true) := by
  have c0 : w.cell? ⟨B, 0, none⟩ = some (.slice a rl cap) := blk_cell hw 0
  have c1 : w.cell? ⟨B, 1, none⟩ = some (.int .i64 limit) := blk_cell hw 1
  have c2 : w.cell? ⟨B, 2, none⟩ = some (.bool full) := blk_cell hw 2
  have f2 : w.frozen? ⟨B, 2, none⟩ = false := blk_frozen hw 2
  have d1 : decide (limit - rl < more) = true := by simp; omega
  have r1 : (rl : Int) ≤ 1099511627776 := by omega
  have s1 : IntKind.i64.wrap (limit - (rl : Int)) = limit - rl := IntWalk.i64_in _ (by omega)
  clear hw
  go_enter Try.func36, Try.ntmps36
  go_wp2
  go_quiet (fail)
  go_wp2
  go_ret
  exact ⟨rfl, _, rfl⟩

set_option maxHeartbeats 1000000 in
theorem takes_wrong (B rl : Nat) (a : Option Addr) (cap : Nat) (limit more : Int) (full : Bool) (w : World) (hw : w.heap[B]? = some (.cells #[.slice a rl cap, .int .i64 limit, .bool full] 81 (0, 0))) :
    Calls Try.prog 36 #[.pointer (some ⟨B, 0, none⟩), .bool false, .int .i64 more] w fun e w' => e = .returned (.bool false) ∧ ∃ n, w' = (w.drewN n).setCell ⟨B, 2, none⟩ (.bool true) := by
  have c0 : w.cell? ⟨B, 0, none⟩ = some (.slice a rl cap) := blk_cell hw 0
  have c1 : w.cell? ⟨B, 1, none⟩ = some (.int .i64 limit) := blk_cell hw 1
  have c2 : w.cell? ⟨B, 2, none⟩ = some (.bool full) := blk_cell hw 2
  have f2 : w.frozen? ⟨B, 2, none⟩ = false := blk_frozen hw 2
  clear hw
  go_enter Try.func36, Try.ntmps36
  go_wp2
  go_quiet (fail)
  go_wp2
  go_ret
  exact ⟨rfl, _, rfl⟩

theorem takes_nil (right : Bool) (more : Int) (w : World) : Calls Try.prog 36 #[.pointer none, .bool right, .int .i64 more] w fun e w' => e = .returned (.bool false) ∧ w' = w := by
  go_enter Try.func36, Try.ntmps36
  go_wp2
  go_ret
  exact ⟨rfl, rfl⟩

/-- A writer lies in block B: its row, its limit, whether it is full. -/
structure WriterAt (n₀ : Nat) (w : World) (B : Nat) (v : Value) (row : List (BitVec 8)) (limit : Int) (full : Bool) : Prop where
  blk : w.heap[B]? = some (.cells #[v, .int .i64 limit, .bool full] 81 (0, 0))
  own : w.ownsRow n₀ 5 1 v row.length (cellsOf row)
/-- What a writer's calls may write. -/
def wS (B : Nat) (v : Value) : Nat → Prop := fun k => k = B ∨ v.ownBlock = some k
/-- What a writer's call leaves: no other block that was there has turned; its row is where it was, or new. -/
structure WStep (B : Nat) (v v' : Value) (w w' : World) : Prop where
  moves : Moves (wS B v) w w'
  own : ∀ k, v'.ownBlock = some k → v.ownBlock = some k ∨ w.heap.size ≤ k
theorem WStep.refl (B : Nat) (v : Value) (w : World) : WStep B v v w w := ⟨Moves.refl _ _, fun _ h => .inl h⟩
theorem WStep.trans {B : Nat} {v v1 v2 : Value} {a b c : World} (h : WStep B v v1 a b) (k : WStep B v1 v2 b c) : WStep B v v2 a c := by
  refine ⟨h.moves.trans k.moves fun i hi hT => ?_, fun j hj => ?_⟩
  · rcases hT with rfl | hT
    · exact .inl rfl
    · rcases h.own i hT with h1 | h1
      · exact .inr h1
      · omega
  · rcases k.own j hj with h1 | h1
    · exact h.own j h1
    · exact .inr (Nat.le_trans h.moves.size h1)

theorem wrap8_64 (x : BitVec 64) : IntKind.u8.wrap (U x) = U (x.setWidth 8) := by
  unfold U
  rw [BitVec.toNat_setWidth]
  simp [IntKind.wrap, IntKind.bits, IntKind.signed]

set_option maxHeartbeats 2000000 in
theorem put_any (n₀ B : Nat) (v : Value) (row : List (BitVec 8)) (limit : Int) (full : Bool) (x : BitVec 64) (k : Nat) (w : World) (hw : WriterAt n₀ w B v row limit full) (hk : k ≤ 8) (hr : row.length ≤ 1099511627776) (hn : n₀ ≤ w.heap.size) :
    Calls Try.prog 37 #[.pointer (some ⟨B, 0, none⟩), .int .u64 (U x), .int .i64 k] w fun e w' => e = .returned (.tuple #[]) ∧ ∃ v', WriterAt n₀ w' B v' (row ++ leB k x) limit full ∧ WStep B v v' w w' := by
  obtain ⟨i0, hi, hz0, hz1, hz2⟩ := info_parts Try.infoU8
  have k1 : (k : Int) ≤ 8 := by omega
  go_enter Try.func37, Try.ntmps37
  go_wp2
  go_loopw [1, 7] (fun xv iv wr => ∃ (j : Nat) (v' : Value), j ≤ k ∧ iv = .int .i64 j ∧ xv = .int .u64 (U (x >>> (8 * j))) ∧ WriterAt n₀ wr B v' (row ++ leB j x) limit full ∧ WStep B v v' w wr) (fun _ iv _ => k - (intOf iv).toNat)
  case atStart => exact ⟨0, v, Nat.zero_le _, rfl, rfl, by simpa [leB] using hw, WStep.refl _ _ _⟩
  case round =>
    obtain ⟨j, v', hj, rfl, rfl, hA, hS⟩ := hrel
    by_cases hlt : j < k
    · obtain ⟨hblk, hown⟩ := hA
      have c0 : wr.cell? ⟨B, 0, none⟩ = some v' := blk_cell hblk 0
      have hne := own_ne hown hblk (by decide)
      have hnr := Nat.le_trans hn hS.moves.size
      have hlen : (row ++ leB j x).length ≤ 1099511627784 := by rw [List.length_append, leB_len]; omega
      have hwrap := wrap8_64 (x >>> (8 * j))
      have hshr := shr_U (x >>> (8 * j)) 8 256 (by decide)
      have HX : Hid ((x >>> (8 * j)) >>> 8 = x >>> (8 * (j + 1))) := by unfold Hid; rw [← BitVec.shiftRight_add]; congr 1
      have HL := Lib.hid (leB_succ j x)
      generalize x >>> (8 * j) = y at hwrap hshr HX HL
      obtain ⟨rj, hrj⟩ : ∃ rj, row ++ leB j x = rj := ⟨_, rfl⟩
      rw [hrj] at hown hlen
      have HR := Lib.hid hrj
      have HB := Lib.hid hblk
      have HO := Lib.hid hown
      clear hrj hblk hown
      have j1 : (j : Int) < k := by omega
      obtain ⟨r1, hr1⟩ : ∃ r1, rj ++ [y.setWidth 8] = r1 := ⟨_, rfl⟩
      have HR1 := Lib.hid hr1
      clear hr1
      go_wp2_with (at_builtin; go_must (refine wpList_append_bytes rfl (.tmp 13) (.tmp 16) rfl rfl n₀ i0 hi hz0 hz1 hz2 v' rfl rj (HO.out.alloc _) _ rfl _ [y.setWidth 8] (bytes_one _ _) (by simp; omega) (by simp; omega) ?_); intro v1 w1 n1 HN hown1 hgrow1 hat1; rw [HR1.out] at hown1; have hb1 := blk_keep (blk_alloc HB.out _) hgrow1 hne; obtain ⟨a1, cp1, rfl⟩ := owns_slice hown1; have f1 := blk_frozen hb1 0; have c1 := blk_cell hb1 0; have HB1 := Lib.hid hb1; clear hb1)
      go_roundw
      case rel =>
        have hS1 : WStep B v' _ wr (w1.setCell ⟨B, 0, none⟩ (.slice a1 n1 cp1)) := ⟨((((Moves.refl _ wr).alloc _).trans (Moves.of_grown hgrow1 (fun _ e => e)) (fun i _ e => .inr e))).setCell (p := ⟨B, 0, none⟩) (fun _ => .inl rfl) _, fun i hi => by
          rcases hat1 with e | e
          · exact .inl (e.symm.trans hi)
          · rw [e] at hi; right; simp at hi; omega⟩
        refine ⟨j + 1, _, by omega, by go_num, by rw [← HX.out], ⟨?_, ?_⟩, hS.trans hS1⟩
        · exact blk_set HB1.out 0 _
        · have en : n1 = r1.length := by have := HN.out; rw [HR1.out] at this; exact this
          clear HN
          subst en
          rw [HL.out, ← List.append_assoc, HR.out, HR1.out]
          exact ownsRow_setCell_other hown1 (fun e => by
            rcases hat1 with e' | e'
            · exact hne (e'.symm.trans e)
            · rw [e'] at e; have := blk_lt HB.out; simp at e; omega) _
      case measure => simp [intOf]; omega
    · obtain rfl : j = k := by omega
      go_wp2
      go_end0
      exact ⟨rfl, v', hA, hS⟩

end Go.Proofs.Ytgaabclgoolalaa

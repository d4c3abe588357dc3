/-
  Joined: WireMath, Wire1, Wire2, Wire3, Wire4, Wire5, Wire6, Wr.
  Conditions: none.
-/
import Derived.Test.YtiibpkncdflfcaaJA
import Derived.WalkKit
import Derived.Deep.QuietTactic
import Derived.BigQuiet
import Derived.IntWalk
import Derived.OneCell
import Derived.Outline
namespace Go.Proofs.Ytiibpkncdflfcaa

/-- A number's bytes, the lowest first. -/
def leB (k : Nat) (x : BitVec 64) : List (BitVec 8) := (List.range k).map fun i => (x >>> (8 * i)).setWidth 8
theorem leB_succ (k : Nat) (x : BitVec 64) : leB (k + 1) x = leB k x ++ [(x >>> (8 * k)).setWidth 8] := by simp [leB, List.range_succ]
theorem leB_len (k : Nat) (x : BitVec 64) : (leB k x).length = k := by simp [leB]

/-- The number of the first j of bytes, the lowest first. -/
def leAcc (bs : List (BitVec 8)) (j : Nat) : BitVec 64 := (List.range j).foldl (fun a i => a ||| ((bs[i]?.getD 0).setWidth 64) <<< (8 * i)) 0#64
theorem leAcc_succ (bs : List (BitVec 8)) (j : Nat) : leAcc bs (j + 1) = leAcc bs j ||| ((bs[j]?.getD 0).setWidth 64) <<< (8 * j) := by simp [leAcc, List.range_succ]
def leOf (bs : List (BitVec 8)) : BitVec 64 := leAcc bs bs.length


/-- The number of bytes, as a plain number. -/
def leNat : List (BitVec 8) → Nat
  | [] => 0
  | b :: bs => b.toNat + 256 * leNat bs
theorem leNat_append (xs ys : List (BitVec 8)) : leNat (xs ++ ys) = leNat xs + 256 ^ xs.length * leNat ys := by
  induction xs with
  | nil => simp [leNat]
  | cons b xs ih =>
    rw [List.cons_append, leNat, ih, leNat, List.length_cons, Nat.pow_succ, Nat.mul_add, Nat.mul_comm (256 ^ xs.length) 256, Nat.mul_assoc, Nat.add_assoc]
theorem leNat_lt (xs : List (BitVec 8)) : leNat xs < 256 ^ xs.length := by
  induction xs with
  | nil => simp [leNat]
  | cons b xs ih =>
    rw [leNat, List.length_cons, Nat.pow_succ]
    have := b.isLt
    omega
theorem leAcc_toNat (bs : List (BitVec 8)) (j : Nat) (hj : j ≤ bs.length) (h8 : j ≤ 8) : (leAcc bs j).toNat = leNat (bs.take j) := by
  induction j with
  | zero => simp [leAcc, leNat]
  | succ j ih =>
    have hlt : j < bs.length := by omega
    have e : bs.take (j + 1) = bs.take j ++ [bs[j]?.getD 0] := by
      rw [List.take_succ_eq_append_getElem hlt]
      simp [hlt]
    have hb := leNat_lt (bs.take j)
    have hlen : (bs.take j).length = j := by rw [List.length_take]; omega
    rw [hlen] at hb
    rw [leAcc_succ, e, leNat_append, BitVec.toNat_or, ih (by omega) (by omega), hlen]
    generalize bs[j]?.getD 0 = b
    have hb8 := b.isLt
    have hp : (256 : Nat) ^ j = 2 ^ (8 * j) := by rw [Nat.pow_mul]
    have hsh : ((b.setWidth 64) <<< (8 * j)).toNat = b.toNat <<< (8 * j) := by
      have hb64 : b.toNat % 2 ^ 64 = b.toNat := Nat.mod_eq_of_lt (by omega)
      rw [BitVec.toNat_shiftLeft, BitVec.toNat_setWidth, hb64, Nat.shiftLeft_eq]
      refine Nat.mod_eq_of_lt ?_
      calc b.toNat * 2 ^ (8 * j) < 2 ^ 8 * 2 ^ (8 * j) := Nat.mul_lt_mul_of_pos_right hb8 (Nat.two_pow_pos _)
        _ = 2 ^ (8 + 8 * j) := by rw [Nat.pow_add]
        _ ≤ 2 ^ 64 := Nat.pow_le_pow_right (by decide) (by omega)
    rw [hp] at hb ⊢
    rw [hsh, Nat.or_comm, ← Nat.shiftLeft_add_eq_or_of_lt hb, Nat.shiftLeft_eq]
    simp only [leNat, Nat.mul_zero, Nat.add_zero]
    rw [Nat.mul_comm, Nat.add_comm]
theorem leOf_toNat (bs : List (BitVec 8)) (h : bs.length ≤ 8) : (leOf bs).toNat = leNat bs := by
  unfold leOf
  rw [leAcc_toNat bs _ (Nat.le_refl _) h, List.take_length]
theorem leNat_leB (k : Nat) (x : BitVec 64) : leNat (leB k x) = x.toNat % 256 ^ k := by
  induction k with
  | zero => simp [leB, leNat, Nat.mod_one]
  | succ k ih =>
    rw [leB_succ, leNat_append, ih, leB_len]
    simp only [leNat, Nat.mul_zero, Nat.add_zero]
    have e : (256 : Nat) ^ k = 2 ^ (8 * k) := by rw [Nat.pow_mul]
    have e2 : (256 : Nat) ^ (k + 1) = 2 ^ (8 * k) * 256 := by rw [Nat.pow_succ, e]
    rw [BitVec.toNat_setWidth, BitVec.toNat_ushiftRight, Nat.shiftRight_eq_div_pow, e2, e, Nat.mod_mul]

/-- The number of bytes, from the last one on. -/
def refOf : List (BitVec 8) → BitVec 64
  | [] => 0#64
  | b :: bs => 256#64 * refOf bs + b.setWidth 64
theorem refOf_toNat (bs : List (BitVec 8)) : (refOf bs).toNat = leNat bs % 2 ^ 64 := by
  induction bs with
  | nil => simp [refOf, leNat]
  | cons b bs ih =>
    rw [refOf, leNat, BitVec.toNat_add, BitVec.toNat_mul, ih, BitVec.toNat_setWidth]
    have := b.isLt
    simp only [BitVec.toNat_ofNat]
    omega
theorem refOf_eq (bs : List (BitVec 8)) (h : bs.length ≤ 8) : refOf bs = leOf bs := by
  apply BitVec.eq_of_toNat_eq
  rw [refOf_toNat, leOf_toNat bs h]
  have h1 := leNat_lt bs
  have h2 : 256 ^ bs.length ≤ 256 ^ 8 := Nat.pow_le_pow_right (by decide) h
  exact Nat.mod_eq_of_lt (by omega)

end Go.Proofs.Ytiibpkncdflfcaa
namespace Go.Proofs.Ytiibpkncdflfcaa
open Go.RowKit

/-- How many bytes a number may have. -/
def MayHave (k : Int) : Prop := k = 1 ∨ k = 2 ∨ k = 4 ∨ k = 8
instance (k : Int) : Decidable (MayHave k) := by unfold MayHave; infer_instance

/-- Is it among these? -/
def amongB (x : Int) (l : List Int) : Bool := l.any (· == x)

set_option maxHeartbeats 1000000 in
theorem among_any (x : Int) (l : List Int) (g : Nat) (w : World) (hl : l.length ≤ 65536) (hg : w.heap[g]? = some (.cells (l.map (Value.int .i64)).toArray 3 (0, 0))) :
    Calls Try.prog 61 #[.int .i64 x, .slice (some ⟨g, 0, none⟩) l.length l.length] w fun e w' => e = .returned (.bool (amongB x l)) ∧ w = w' := by
  have hl1 : (l.length : Int) ≤ 65536 := by omega
  have hcell : ∀ k, k < l.length → w.cell? ⟨g, k, none⟩ = some (.int .i64 (l[k]?.getD 0)) := fun k hk => by rw [blk_cell hg]; simp [hk]
  go_enter Try.func61, Try.ntmps61
  go_wp2
  go_loop [9] (fun i => ∃ k : Nat, k ≤ l.length ∧ i = .int .i64 k ∧ ∀ j, j < k → (l[j]?.getD 0 == x) = false) (fun i => l.length - (intOf i).toNat)
  case atStart => exact ⟨0, Nat.zero_le _, rfl, fun j hj => absurd hj (by omega)⟩
  case round =>
    obtain ⟨k, hk, rfl, hno⟩ := hrel
    by_cases hlt : k < l.length
    · have hc := hcell k hlt
      have HN := Lib.hid hno
      clear hno hcell
      have k0 : (0 : Int) ≤ k := by omega
      have k1 : (k : Int) < l.length := by omega
      have HA : (l[k]?.getD 0 == x) = true → Hid (amongB x l = true) := fun h => by
        unfold amongB Hid
        rw [List.any_eq_true]
        refine ⟨l[k], List.getElem_mem hlt, ?_⟩
        simpa [hlt] using h
      generalize hy : l[k]?.getD 0 = y at hc HA
      have HY := Lib.hid hy
      clear hy
      by_cases hxy : y = x
      · subst hxy
        have HA' := HA (by simp)
        clear HA
        go_wp2
        go_ret
        exact ⟨by rw [HA'.out]; rfl, rfl⟩
      · have e1 : (x == y) = false := by simpa using fun h => hxy h.symm
        clear HA
        go_wp2
        go_round
        case rel =>
          refine ⟨k + 1, by omega, by go_num, fun j hj => ?_⟩
          by_cases hjk : j = k
          · subst hjk; rw [HY.out]; simpa using hxy
          · exact HN.out j (by omega)
        case measure => simp [intOf]; omega
    · obtain rfl : k = l.length := by omega
      have hA : amongB x l = false := by
        unfold amongB
        rw [List.any_eq_false]
        intro y hy
        obtain ⟨j, hj, rfl⟩ := List.mem_iff_getElem.1 hy
        have := hno j hj
        simpa [hj] using this
      have HA := Lib.hid hA
      clear hA hno hcell
      go_wp2
      go_ret
      exact ⟨by rw [HA.out]; rfl, rfl⟩

def mayB (k : Int) : Bool := decide (k = 1 ∨ k = 2 ∨ k = 4 ∨ k = 8)
theorem among_may (k : Int) : amongB k [1, 2, 4, 8] = mayB k := by
  unfold amongB mayB
  rw [Bool.eq_iff_iff]
  simp
  omega

theorem may_any (k : Int) (w : World) : Calls Try.prog 52 #[.int .i64 k] w fun e w' => e = .returned (.bool (mayB k)) ∧ w' = w.alloc (.cells #[.int .i64 1, .int .i64 2, .int .i64 4, .int .i64 8] 3) := by
  have hc := among_any k [1, 2, 4, 8] w.heap.size (w.alloc (.cells #[.int .i64 1, .int .i64 2, .int .i64 4, .int .i64 8] 3)) (by simp) (heap_alloc_new _ _)
  rw [among_may] at hc
  go_enter Try.func52, Try.ntmps52
  go_wp2_with (go_at_call 61; refine hc.mono ?_; rintro e w' ⟨rfl, rfl⟩)
  go_ret
  exact ⟨rfl, rfl⟩

end Go.Proofs.Ytiibpkncdflfcaa
namespace Go.Proofs.Ytiibpkncdflfcaa
open Go.RowKit

set_option maxHeartbeats 1000000 in
theorem takes_yes (B rl : Nat) (a : Option Addr) (cap : Nat) (limit more : Int) (full : Bool) (w : World) (hw : w.heap[B]? = some (.cells #[.slice a rl cap, .int .i64 limit, .bool full] 100 (0, 0)))
    (h0 : 0 ≤ limit) (h1 : limit ≤ 9223372036854775807) (hr : rl ≤ 1099511627776) (hm : more ≤ limit - rl) :
    Calls Try.prog 51 #[.pointer (some ⟨B, 0, none⟩), .bool true, .int .i64 more] w fun e w' => e = .returned (.bool (!full)) ∧ ∃ n, w' = w.drewN n := by
  have c0 : w.cell? ⟨B, 0, none⟩ = some (.slice a rl cap) := blk_cell hw 0
  have c1 : w.cell? ⟨B, 1, none⟩ = some (.int .i64 limit) := blk_cell hw 1
  have c2 : w.cell? ⟨B, 2, none⟩ = some (.bool full) := blk_cell hw 2
  have d1 : decide (limit - rl < more) = false := by simp; omega
  have r1 : (rl : Int) ≤ 1099511627776 := by omega
  have s1 : IntKind.i64.wrap (limit - (rl : Int)) = limit - rl := IntWalk.i64_in _ (by omega)
  clear hw
  go_enter Try.func51, Try.ntmps51
  go_wp2
  go_quiet (fail)
  go_wp2
  go_ret
  exact ⟨rfl, _, rfl⟩

set_option maxHeartbeats 1000000 in
theorem takes_more (B rl : Nat) (a : Option Addr) (cap : Nat) (limit more : Int) (full : Bool) (w : World) (hw : w.heap[B]? = some (.cells #[.slice a rl cap, .int .i64 limit, .bool full] 100 (0, 0)))
    (h0 : 0 ≤ limit) (h1 : limit ≤ 9223372036854775807) (hr : rl ≤ 1099511627776) (hm : limit - rl < more) :
    Calls Try.prog 51 #[.pointer (some ⟨B, 0, none⟩), .bool true, .int .i64 more] w fun e w' => e = .returned (.bool false) ∧ ∃ n, w' = (w.drewN n).setCell ⟨B, 2, none⟩ (.bool true) := by
  have c0 : w.cell? ⟨B, 0, none⟩ = some (.slice a rl cap) := blk_cell hw 0
  have c1 : w.cell? ⟨B, 1, none⟩ = some (.int .i64 limit) := blk_cell hw 1
  have c2 : w.cell? ⟨B, 2, none⟩ = some (.bool full) := blk_cell hw 2
  have f2 : w.frozen? ⟨B, 2, none⟩ = false := blk_frozen hw 2
  have d1 : decide (limit - rl < more) = true := by simp; omega
  have r1 : (rl : Int) ≤ 1099511627776 := by omega
  have s1 : IntKind.i64.wrap (limit - (rl : Int)) = limit - rl := IntWalk.i64_in _ (by omega)
  clear hw
  go_enter Try.func51, Try.ntmps51
  go_wp2
  go_quiet (fail)
  go_wp2
  go_ret
  exact ⟨rfl, _, rfl⟩

set_option maxHeartbeats 1000000 in
theorem takes_wrong (B rl : Nat) (a : Option Addr) (cap : Nat) (limit more : Int) (full : Bool) (w : World) (hw : w.heap[B]? = some (.cells #[.slice a rl cap, .int .i64 limit, .bool full] 100 (0, 0))) :
    Calls Try.prog 51 #[.pointer (some ⟨B, 0, none⟩), .bool false, .int .i64 more] w fun e w' => e = .returned (.bool false) ∧ ∃ n, w' = (w.drewN n).setCell ⟨B, 2, none⟩ (.bool true) := by
  have c0 : w.cell? ⟨B, 0, none⟩ = some (.slice a rl cap) := blk_cell hw 0
  have c1 : w.cell? ⟨B, 1, none⟩ = some (.int .i64 limit) := blk_cell hw 1
  have c2 : w.cell? ⟨B, 2, none⟩ = some (.bool full) := blk_cell hw 2
  have f2 : w.frozen? ⟨B, 2, none⟩ = false := blk_frozen hw 2
  clear hw
  go_enter Try.func51, Try.ntmps51
  go_wp2
  go_quiet (fail)
  go_wp2
  go_ret
  exact ⟨rfl, _, rfl⟩

theorem takes_nil (right : Bool) (more : Int) (w : World) : Calls Try.prog 51 #[.pointer none, .bool right, .int .i64 more] w fun e w' => e = .returned (.bool false) ∧ w' = w := by
  go_enter Try.func51, Try.ntmps51
  go_wp2
  go_ret
  exact ⟨rfl, rfl⟩

/-- A writer lies in block B: its row, its limit, whether it is full. -/
structure WriterAt (n₀ : Nat) (w : World) (B : Nat) (v : Value) (row : List (BitVec 8)) (limit : Int) (full : Bool) : Prop where
  blk : w.heap[B]? = some (.cells #[v, .int .i64 limit, .bool full] 100 (0, 0))
  own : w.ownsRow n₀ 5 1 v row.length (cellsOf row)
/-- What a writer's calls may write. -/
def wS (B : Nat) (v : Value) : Nat → Prop := fun k => k = B ∨ v.ownBlock = some k
/-- What a writer's call leaves: no other block that was there has turned; its row is where it was, or new. -/
structure WStep (B : Nat) (v v' : Value) (w w' : World) : Prop where
  moves : Moves (wS B v) w w'
  own : ∀ k, v'.ownBlock = some k → v.ownBlock = some k ∨ w.heap.size ≤ k
theorem WStep.refl (B : Nat) (v : Value) (w : World) : WStep B v v w w := ⟨Moves.refl _ _, fun _ h => .inl h⟩
theorem WStep.trans {B : Nat} {v v1 v2 : Value} {a b c : World} (h : WStep B v v1 a b) (k : WStep B v1 v2 b c) : WStep B v v2 a c := by
  refine ⟨h.moves.trans k.moves fun i hi hT => ?_, fun j hj => ?_⟩
  · rcases hT with rfl | hT
    · exact .inl rfl
    · rcases h.own i hT with h1 | h1
      · exact .inr h1
      · omega
  · rcases k.own j hj with h1 | h1
    · exact h.own j h1
    · exact .inr (Nat.le_trans h.moves.size h1)

theorem wrap8_64 (x : BitVec 64) : IntKind.u8.wrap (U x) = U (x.setWidth 8) := by
  unfold U
  rw [BitVec.toNat_setWidth]
  simp [IntKind.wrap, IntKind.bits, IntKind.signed]

set_option maxHeartbeats 2000000 in
theorem put_any (n₀ B : Nat) (v : Value) (row : List (BitVec 8)) (limit : Int) (full : Bool) (x : BitVec 64) (k : Nat) (w : World) (hw : WriterAt n₀ w B v row limit full) (hk : k ≤ 8) (hr : row.length ≤ 1099511627776) (hn : n₀ ≤ w.heap.size) :
    Calls Try.prog 53 #[.pointer (some ⟨B, 0, none⟩), .int .u64 (U x), .int .i64 k] w fun e w' => e = .returned (.tuple #[]) ∧ ∃ v', WriterAt n₀ w' B v' (row ++ leB k x) limit full ∧ WStep B v v' w w' := by
  obtain ⟨i0, hi, hz0, hz1, hz2⟩ := info_parts Try.infoU8
  have k1 : (k : Int) ≤ 8 := by omega
  go_enter Try.func53, Try.ntmps53
  go_wp2
  go_loopw [1, 7] (fun xv iv wr => ∃ (j : Nat) (v' : Value), j ≤ k ∧ iv = .int .i64 j ∧ xv = .int .u64 (U (x >>> (8 * j))) ∧ WriterAt n₀ wr B v' (row ++ leB j x) limit full ∧ WStep B v v' w wr) (fun _ iv _ => k - (intOf iv).toNat)
  case atStart => exact ⟨0, v, Nat.zero_le _, rfl, rfl, by simpa [leB] using hw, WStep.refl _ _ _⟩
  case round =>
    obtain ⟨j, v', hj, rfl, rfl, hA, hS⟩ := hrel
    by_cases hlt : j < k
    · obtain ⟨hblk, hown⟩ := hA
      have c0 : wr.cell? ⟨B, 0, none⟩ = some v' := blk_cell hblk 0
      have hne := own_ne hown hblk (by decide)
      have hnr := Nat.le_trans hn hS.moves.size
      have hlen : (row ++ leB j x).length ≤ 1099511627784 := by rw [List.length_append, leB_len]; omega
      have hwrap := wrap8_64 (x >>> (8 * j))
      have hshr := shr_U (x >>> (8 * j)) 8 256 (by decide)
      have HX : Hid ((x >>> (8 * j)) >>> 8 = x >>> (8 * (j + 1))) := by unfold Hid; rw [← BitVec.shiftRight_add]; congr 1
      have HL := Lib.hid (leB_succ j x)
      generalize x >>> (8 * j) = y at hwrap hshr HX HL
      obtain ⟨rj, hrj⟩ : ∃ rj, row ++ leB j x = rj := ⟨_, rfl⟩
      rw [hrj] at hown hlen
      have HR := Lib.hid hrj
      have HB := Lib.hid hblk
      have HO := Lib.hid hown
      clear hrj hblk hown
      have j1 : (j : Int) < k := by omega
      obtain ⟨r1, hr1⟩ : ∃ r1, rj ++ [y.setWidth 8] = r1 := ⟨_, rfl⟩
      have HR1 := Lib.hid hr1
      clear hr1
      go_wp2_with (at_builtin; go_must (refine wpList_append_bytes rfl (.tmp 13) (.tmp 16) rfl rfl n₀ i0 hi hz0 hz1 hz2 v' rfl rj (HO.out.alloc _) _ rfl _ [y.setWidth 8] (bytes_one _ _) (by simp; omega) (by simp; omega) ?_); intro v1 w1 n1 HN hown1 hgrow1 hat1; rw [HR1.out] at hown1; have hb1 := blk_keep (blk_alloc HB.out _) hgrow1 hne; obtain ⟨a1, cp1, rfl⟩ := owns_slice hown1; have f1 := blk_frozen hb1 0; have c1 := blk_cell hb1 0; have HB1 := Lib.hid hb1; clear hb1)
      go_roundw
      case rel =>
        have hS1 : WStep B v' _ wr (w1.setCell ⟨B, 0, none⟩ (.slice a1 n1 cp1)) := ⟨((((Moves.refl _ wr).alloc _).trans (Moves.of_grown hgrow1 (fun _ e => e)) (fun i _ e => .inr e))).setCell (p := ⟨B, 0, none⟩) (fun _ => .inl rfl) _, fun i hi => by
          rcases hat1 with e | e
          · exact .inl (e.symm.trans hi)
          · rw [e] at hi; right; simp at hi; omega⟩
        refine ⟨j + 1, _, by omega, by go_num, by rw [← HX.out], ⟨?_, ?_⟩, hS.trans hS1⟩
        · exact blk_set HB1.out 0 _
        · have en : n1 = r1.length := by have := HN.out; rw [HR1.out] at this; exact this
          clear HN
          subst en
          rw [HL.out, ← List.append_assoc, HR.out, HR1.out]
          exact ownsRow_setCell_other hown1 (fun e => by
            rcases hat1 with e' | e'
            · exact hne (e'.symm.trans e)
            · rw [e'] at e; have := blk_lt HB.out; simp at e; omega) _
      case measure => simp [intOf]; omega
    · obtain rfl : j = k := by omega
      go_wp2
      go_end0
      exact ⟨rfl, v', hA, hS⟩

end Go.Proofs.Ytiibpkncdflfcaa
namespace Go.Proofs.Ytiibpkncdflfcaa
open Go.RowKit

theorem newWriter_any (limit : Int) (w : World) :
    Calls Try.prog 40 #[.int .i64 limit] w fun e w' => e = .returned (.pointer (some ⟨w.heap.size, 0, none⟩)) ∧ w' = w.alloc (.cells #[.slice none 0 0, .int .i64 (max limit 0), .bool false] 100) := by
  go_enter Try.func40, Try.ntmps40
  go_wp2
  all_goals go_ret
  all_goals first
    | exact ⟨rfl, by rw [show max limit 0 = 0 by omega]⟩
    | exact ⟨rfl, by rw [show max limit 0 = limit by omega]⟩

/-- What a writer has behind bytes that are to be written ('none': what may not be). -/
def wRow (row : List (BitVec 8)) (limit : Int) (full : Bool) : Option (List (BitVec 8)) → List (BitVec 8)
  | none => row
  | some bs => if full = true ∨ limit < row.length + bs.length then row else row ++ bs
def wFull (row : List (BitVec 8)) (limit : Int) (full : Bool) : Option (List (BitVec 8)) → Bool
  | none => true
  | some bs => full || decide (limit < row.length + bs.length)
/-- What a call leaves of a writer. -/
def Wrote (n₀ B : Nat) (v : Value) (row : List (BitVec 8)) (limit : Int) (full : Bool) (x : Option (List (BitVec 8))) (w : World) (e : Ending) (w' : World) : Prop :=
  e = .returned (.tuple #[]) ∧ ∃ v', WriterAt n₀ w' B v' (wRow row limit full x) limit (wFull row limit full x) ∧ WStep B v v' w w'

theorem WriterAt.drewN {n₀ B : Nat} {w : World} {v : Value} {row : List (BitVec 8)} {limit : Int} {full : Bool} (h : WriterAt n₀ w B v row limit full) (k : Nat) : WriterAt n₀ (w.drewN k) B v row limit full := ⟨h.blk, h.own⟩
theorem WriterAt.ne {n₀ B : Nat} {w : World} {v : Value} {row : List (BitVec 8)} {limit : Int} {full : Bool} (h : WriterAt n₀ w B v row limit full) : v.ownBlock ≠ some B := own_ne h.own h.blk (by decide)
theorem WriterAt.fill {n₀ B : Nat} {w : World} {v : Value} {row : List (BitVec 8)} {limit : Int} {full : Bool} (h : WriterAt n₀ w B v row limit full) (k : Nat) :
    WriterAt n₀ ((w.drewN k).setCell ⟨B, 2, none⟩ (.bool true)) B v row limit true ∧ WStep B v v w ((w.drewN k).setCell ⟨B, 2, none⟩ (.bool true)) :=
  ⟨⟨blk_set (h.drewN k).blk 2 _, ownsRow_setCell_other (h.drewN k).own h.ne _⟩, ⟨((Moves.refl _ w).drewN k).setCell (p := ⟨B, 2, none⟩) (fun _ => .inl rfl) _, fun _ e => .inl e⟩⟩

theorem WriterAt.appended {n₀ B : Nat} {w w1 : World} {v v1 : Value} {row bs : List (BitVec 8)} {limit : Int} {full : Bool} (h : WriterAt n₀ w B v row limit full)
    (hown : w1.ownsRow n₀ 5 1 v1 (row ++ bs).length (cellsOf (row ++ bs))) (hgrow : w.grownBy w1 v.ownBlock) (hat : v1.ownBlock = v.ownBlock ∨ v1.ownBlock = some w.heap.size) :
    WriterAt n₀ (w1.setCell ⟨B, 0, none⟩ v1) B v1 (row ++ bs) limit full ∧ WStep B v v1 w (w1.setCell ⟨B, 0, none⟩ v1) := by
  refine ⟨⟨blk_set (blk_keep h.blk hgrow h.ne) 0 _, ownsRow_setCell_other hown (fun e => ?_) _⟩, ⟨(Moves.of_grown hgrow (fun _ e => .inr e)).setCell (p := ⟨B, 0, none⟩) (fun _ => .inl rfl) _, fun i hi => ?_⟩⟩
  · rcases hat with e' | e'
    · exact h.ne (e'.symm.trans e)
    · rw [e'] at e; have := blk_lt h.blk; simp at e; omega
  · rcases hat with e | e
    · exact .inl (e.symm.trans hi)
    · rw [e] at hi; right; simp at hi; omega
theorem WStep.before {B k : Nat} {v v' : Value} {w w' : World} (h : WStep B v v' (w.drewN k) w') : WStep B v v' w w' := ⟨⟨h.moves.os, h.moves.tape, h.moves.output, h.moves.size, h.moves.block⟩, h.own⟩

theorem WriterAt.below {n₀ B : Nat} {w w' : World} {v : Value} {row : List (BitVec 8)} {limit : Int} {full : Bool} (h : WriterAt n₀ w B v row limit full) (hb : Below w.heap.size w w') : WriterAt n₀ w' B v row limit full :=
  ⟨(hb.block B (blk_lt h.blk)).trans h.blk, (Moves.of_below (S := fun _ => False) hb).row h.own (fun _ _ h => h)⟩
/-- A text ahead of which its length stands. -/
def textB (bs : List (BitVec 8)) : Option (List (BitVec 8)) := if bs.length ≤ 65535 then some (leB 2 (BitVec.ofNat 64 bs.length) ++ bs) else none
def numB (x : BitVec 64) (k : Int) : Option (List (BitVec 8)) := if mayB k = true then some (leB k.toNat x) else none

theorem wrote_no {n₀ B : Nat} {v : Value} {row : List (BitVec 8)} {limit : Int} {full : Bool} {x : Option (List (BitVec 8))} {w : World} (h : WriterAt n₀ w B v row limit full) (k : Nat) (hx : ∀ bs, x = some bs → limit < row.length + bs.length) :
    Wrote n₀ B v row limit full x w (.returned (.tuple #[])) ((w.drewN k).setCell ⟨B, 2, none⟩ (.bool true)) := by
  have hf := h.fill k
  refine ⟨rfl, v, ?_, hf.2⟩
  have h1 : wRow row limit full x = row := by
    cases x with
    | none => rfl
    | some bs => simp [wRow, hx bs rfl]
  have h2 : wFull row limit full x = true := by
    cases x with
    | none => rfl
    | some bs => simp [wFull, hx bs rfl]
  rw [h1, h2]
  exact hf.1
theorem wrote_full {n₀ B : Nat} {v : Value} {row : List (BitVec 8)} {limit : Int} {bs : List (BitVec 8)} {w : World} (h : WriterAt n₀ w B v row limit true) (k : Nat) :
    Wrote n₀ B v row limit true (some bs) w (.returned (.tuple #[])) (w.drewN k) :=
  ⟨rfl, v, by simpa [wRow, wFull] using h.drewN k, (Moves.refl _ w).drewN k, fun _ e => .inl e⟩

set_option maxHeartbeats 2000000 in
theorem raw_any (n₀ B : Nat) (v : Value) (row : List (BitVec 8)) (limit : Int) (full : Bool) (u : Value) (bs : List (BitVec 8)) (w : World) (hw : WriterAt n₀ w B v row limit full) (hu : BytesAt w.heap.size w u bs) (h0 : 0 ≤ limit) (h1 : limit ≤ 9223372036854775807)
    (hr : row.length ≤ 549755813888) (hl : bs.length ≤ 549755813888) (hn : n₀ ≤ w.heap.size) :
    Calls Try.prog 42 #[.pointer (some ⟨B, 0, none⟩), u] w (Wrote n₀ B v row limit full (some bs) w) := by
  obtain ⟨i0, hi, hz0, hz1, hz2⟩ := info_parts Try.infoU8
  obtain ⟨av, capv, rfl⟩ := owns_slice hw.own
  have hu0 := hu
  obtain ⟨au, capu, rfl, _, _, _⟩ := hu
  have l1 : (bs.length : Int) ≤ 549755813888 := by omega
  by_cases hroom : (bs.length : Int) ≤ limit - row.length
  · have ht := takes_yes B row.length av capv limit bs.length full w hw.blk h0 h1 (by omega) hroom
    have HT := Lib.hid ht
    clear ht
    cases full with
    | true =>
      have HF := Lib.hid (fun k => wrote_full (bs := bs) hw k)
      clear hw hu0
      go_enter Try.func42, Try.ntmps42
      go_wp2_with (go_at_call 51; refine HT.out.mono ?_; rintro e w' ⟨rfl, k, rfl⟩)
      go_end0
      exact HF.out _
    | false =>
      have hfin : wRow row limit false (some bs) = row ++ bs ∧ wFull row limit false (some bs) = false := by
        constructor
        · simp [wRow]; omega
        · simp [wFull]; omega
      have HW := Lib.hid hw
      have hne := hw.ne
      have c0 : w.cell? ⟨B, 0, none⟩ = some (.slice av row.length capv) := blk_cell hw.blk 0
      have HU := Lib.hid hu0
      clear hw hu0
      go_enter Try.func42, Try.ntmps42
      go_wp2_with (first
        | (go_at_call 51; refine HT.out.mono ?_; rintro e w' ⟨rfl, k, rfl⟩)
        | (at_builtin; go_must (refine wpList_append_bytes rfl (.tmp 12) (.tmp 13) rfl rfl n₀ i0 hi hz0 hz1 hz2 _ rfl row (HW.out.drewN _).own _ rfl _ bs HU.out (by omega) (by simp; omega) ?_); intro v1 w1 n1 HN hown1 hgrow1 hat1; have hb1 := blk_keep (HW.out.drewN _).blk hgrow1 hne; obtain ⟨a1, cp1, rfl⟩ := owns_slice hown1; have f1 := blk_frozen hb1 0; have c1 := blk_cell hb1 0; have HB1 := Lib.hid hb1; clear hb1))
      go_end0
      obtain rfl := HN.out
      have hfin2 := (HW.out.drewN _).appended hown1 hgrow1 hat1
      exact ⟨rfl, _, by rw [hfin.1, hfin.2]; exact hfin2.1, hfin2.2.before⟩
  · have ht := takes_more B row.length av capv limit bs.length full w hw.blk h0 h1 (by omega) (by omega)
    have HT := Lib.hid ht
    have HF := Lib.hid (fun k => wrote_no (x := some bs) hw k (by intro bs' e; cases e; omega))
    clear ht hw hu0
    go_enter Try.func42, Try.ntmps42
    go_wp2_with (go_at_call 51; refine HT.out.mono ?_; rintro e w' ⟨rfl, k, rfl⟩)
    go_end0
    exact HF.out _

theorem WriterAt.alloc {n₀ B : Nat} {w : World} {v : Value} {row : List (BitVec 8)} {limit : Int} {full : Bool} (h : WriterAt n₀ w B v row limit full) (o : Obj) : WriterAt n₀ (w.alloc o) B v row limit full := ⟨blk_alloc h.blk o, h.own.alloc o⟩
theorem WStep.behind {B : Nat} {v v' : Value} {w w0 w' : World} (hb : Below w.heap.size w w0) (h : WStep B v v' w0 w') : WStep B v v' w w' :=
  ⟨(Moves.of_below hb).trans h.moves (fun _ _ h => h), fun i hi => by
    rcases h.own i hi with e | e
    · exact .inl e
    · right; have := hb.size; omega⟩
theorem Wrote.behind {n₀ B : Nat} {v : Value} {row : List (BitVec 8)} {limit : Int} {full : Bool} {x : Option (List (BitVec 8))} {w w0 w' : World} {e : Ending} (hb : Below w.heap.size w w0) (h : Wrote n₀ B v row limit full x w0 e w') : Wrote n₀ B v row limit full x w e w' := by
  obtain ⟨he, v', h1, h2⟩ := h
  exact ⟨he, v', h1, h2.behind hb⟩

theorem may_yes (k : Int) (h : mayB k = true) (w : World) : Calls Try.prog 52 #[.int .i64 k] w fun e w' => e = .returned (.bool true) ∧ w.alloc (.cells #[.int .i64 1, .int .i64 2, .int .i64 4, .int .i64 8] 3) = w' :=
  (may_any k w).mono fun _ _ ⟨h1, h2⟩ => ⟨by rw [h1, h], h2.symm⟩
theorem may_no (k : Int) (h : mayB k = false) (w : World) : Calls Try.prog 52 #[.int .i64 k] w fun e w' => e = .returned (.bool false) ∧ w.alloc (.cells #[.int .i64 1, .int .i64 2, .int .i64 4, .int .i64 8] 3) = w' :=
  (may_any k w).mono fun _ _ ⟨h1, h2⟩ => ⟨by rw [h1, h], h2.symm⟩

set_option maxHeartbeats 2000000 in
theorem number_any (n₀ B : Nat) (v : Value) (row : List (BitVec 8)) (limit : Int) (full : Bool) (x : BitVec 64) (k : Int) (w : World) (hw : WriterAt n₀ w B v row limit full) (h0 : 0 ≤ limit) (h1 : limit ≤ 9223372036854775807)
    (hr : row.length ≤ 549755813888) (hn : n₀ ≤ w.heap.size) :
    Calls Try.prog 41 #[.pointer (some ⟨B, 0, none⟩), .int .u64 (U x), .int .i64 k] w (Wrote n₀ B v row limit full (numB x k) w) := by
  obtain ⟨av, capv, rfl⟩ := owns_slice hw.own
  have hb : Below w.heap.size w (w.alloc (.cells #[.int .i64 1, .int .i64 2, .int .i64 4, .int .i64 8] 3)) := (Below.refl _ _).alloc (Nat.le_refl _) _
  have hw1 := hw.alloc (.cells #[.int .i64 1, .int .i64 2, .int .i64 4, .int .i64 8] 3)
  have hn1 : n₀ ≤ (w.alloc (.cells #[.int .i64 1, .int .i64 2, .int .i64 4, .int .i64 8] 3)).heap.size := by simp; omega
  cases hmay : mayB k with
  | false =>
    have HM := Lib.hid (may_no k hmay w)
    have HT := Lib.hid (takes_wrong B row.length av capv limit k full _ hw1.blk)
    have HF := Lib.hid (fun j => (wrote_no (x := numB x k) hw1 j (by intro bs e; simp [numB, hmay] at e)).behind hb)
    clear hw hw1 hb hmay
    go_enter Try.func41, Try.ntmps41
    go_wp2_with (first
      | (go_at_call 52; refine HM.out.mono ?_; rintro e w' ⟨rfl, rfl⟩)
      | (go_at_call 51; refine HT.out.mono ?_; rintro e w' ⟨rfl, j, rfl⟩))
    go_end0
    exact HF.out _
  | true =>
    obtain ⟨kn, rfl, hk8⟩ : ∃ kn : Nat, k = kn ∧ kn ≤ 8 := by
      have : k = 1 ∨ k = 2 ∨ k = 4 ∨ k = 8 := by simpa [mayB] using hmay
      exact ⟨k.toNat, by omega, by omega⟩
    have hnum : numB x kn = some (leB kn x) := by simp [numB, hmay]
    have HM := Lib.hid (may_yes kn hmay w)
    have HN := Lib.hid hnum
    clear hmay hnum
    have k8 : (kn : Int) ≤ 8 := by omega
    by_cases hroom : (kn : Int) ≤ limit - row.length
    · have HT := Lib.hid (takes_yes B row.length av capv limit kn full _ hw1.blk h0 h1 (by omega) hroom)
      cases full with
      | true =>
        have HF := Lib.hid (fun j => (wrote_full (bs := leB kn x) hw1 j).behind hb)
        clear hw hw1 hb
        go_enter Try.func41, Try.ntmps41
        go_wp2_with (first
          | (go_at_call 52; refine HM.out.mono ?_; rintro e w' ⟨rfl, rfl⟩)
          | (go_at_call 51; refine HT.out.mono ?_; rintro e w' ⟨rfl, j, rfl⟩))
        go_end0
        rw [HN.out]
        exact HF.out _
      | false =>
        have hfin : wRow row limit false (some (leB kn x)) = row ++ leB kn x ∧ wFull row limit false (some (leB kn x)) = false := by
          constructor
          · simp [wRow, leB_len]; omega
          · simp [wFull, leB_len]; omega
        have HP := Lib.hid (fun j => put_any n₀ B _ row limit false x kn _ (hw1.drewN j) hk8 (by omega) hn1)
        have HB := Lib.hid hb
        clear hw hw1 hb
        go_enter Try.func41, Try.ntmps41
        go_wp2_with (first
          | (go_at_call 52; refine HM.out.mono ?_; rintro e w' ⟨rfl, rfl⟩)
          | (go_at_call 51; refine HT.out.mono ?_; rintro e w' ⟨rfl, j, rfl⟩)
          | (go_at_call 53; refine (HP.out _).mono ?_; rintro e w2 ⟨rfl, v2, hA2, hS2⟩))
        go_end0
        exact ⟨rfl, v2, by rw [HN.out, hfin.1, hfin.2]; exact hA2, hS2.before.behind HB.out⟩
    · have HT := Lib.hid (takes_more B row.length av capv limit kn full _ hw1.blk h0 h1 (by omega) (by omega))
      have HF := Lib.hid (fun j => (wrote_no (x := some (leB kn x)) hw1 j (by intro bs' e; cases e; rw [leB_len]; omega)).behind hb)
      clear hw hw1 hb
      go_enter Try.func41, Try.ntmps41
      go_wp2_with (first
        | (go_at_call 52; refine HM.out.mono ?_; rintro e w' ⟨rfl, rfl⟩)
        | (go_at_call 51; refine HT.out.mono ?_; rintro e w' ⟨rfl, j, rfl⟩))
      go_end0
      rw [HN.out]
      exact HF.out _

theorem bytes_any (n₀ B : Nat) (v : Value) (row : List (BitVec 8)) (limit : Int) (full : Bool) (w : World) (hw : WriterAt n₀ w B v row limit full) (hr : row.length ≤ 1099511627776) :
    Calls Try.prog 44 #[.pointer (some ⟨B, 0, none⟩)] w fun e w' => ∃ u, e = .returned u ∧ w'.ownsRow w.heap.size 5 1 u row.length (cellsOf row) ∧ Below w.heap.size w w' := by
  have c0 : w.cell? ⟨B, 0, none⟩ = some v := blk_cell hw.blk 0
  obtain ⟨av, capv, rfl⟩ := owns_slice hw.own
  have HC := Lib.hid (clone_any w.heap.size _ row w (BytesAt.of_owns hw.own) (Nat.le_refl _) hr)
  clear hw
  go_enter Try.func44, Try.ntmps44
  go_wp2_with (go_at_call 18; refine HC.out.mono ?_; rintro e w' ⟨u, rfl, hu, hb⟩)
  go_ret
  exact ⟨_, rfl, hu, hb⟩

end Go.Proofs.Ytiibpkncdflfcaa
namespace Go.Proofs.Ytiibpkncdflfcaa
open Go.RowKit

/-! No writer -/
theorem number_nil (x : BitVec 64) (k : Int) (w : World) : Calls Try.prog 41 #[.pointer none, .int .u64 (U x), .int .i64 k] w fun e w' => e = .returned (.tuple #[]) ∧ Below w.heap.size w w' := by
  have HM := Lib.hid (may_any k w)
  have HT := Lib.hid (fun W => takes_nil (mayB k) k W)
  go_enter Try.func41, Try.ntmps41
  go_wp2_with (first
    | (go_at_call 52; refine HM.out.mono ?_; rintro e w' ⟨rfl, rfl⟩)
    | (go_at_call 51; refine (HT.out _).mono ?_; rintro e w' ⟨rfl, rfl⟩))
  go_end0
  exact ⟨rfl, (Below.refl _ _).alloc (Nat.le_refl _) _⟩
theorem raw_nil (w : World) : Calls Try.prog 42 #[.pointer none, .slice none 0 0] w fun e w' => e = .returned (.tuple #[]) ∧ w = w' := by
  have HT := Lib.hid (fun W => takes_nil true 0 W)
  go_enter Try.func42, Try.ntmps42
  go_wp2_with (go_at_call 51; refine (HT.out _).mono ?_; rintro e w' ⟨rfl, rfl⟩)
  go_end0
  exact ⟨rfl, rfl⟩
theorem bytes_nil (w : World) : Calls Try.prog 44 #[.pointer none] w fun e w' => e = .returned (.slice none 0 0) ∧ w = w' := by
  go_enter Try.func44, Try.ntmps44
  go_wp2
  go_ret
  exact ⟨rfl, rfl⟩

end Go.Proofs.Ytiibpkncdflfcaa
namespace Go.Proofs.Ytiibpkncdflfcaa
open Go.RowKit

/-- A reader lies in block R: what is left, whether it is bad. -/
structure ReaderAt (w : World) (R : Nat) (v : Value) (left : List (BitVec 8)) (bad : Bool) : Prop where
  blk : w.heap[R]? = some (.cells #[v, .bool bad] 117 (0, 0))
  bytes : BytesAt w.heap.size w v left
/-- What a reader's calls may write. -/
def rS (R : Nat) : Nat → Prop := fun k => k = R

theorem BytesAt.beside {n₀ R i : Nat} {w : World} {u x : Value} {bs : List (BitVec 8)} {a : Option Addr} {l c : Nat} {b : Bool} {t : TypeId} (h : BytesAt n₀ w u bs) (hR : w.heap[R]? = some (.cells #[.slice a l c, .bool b] t (0, 0))) : BytesAt n₀ (w.setCell ⟨R, i, none⟩ x) u bs := by
  obtain ⟨a', cap, rfl, hl, h0, h⟩ := h
  refine ⟨a', cap, rfl, hl, h0, ?_⟩
  rcases h with h | ⟨g, off, rfl, hg, hc⟩
  · exact .inl h
  · refine .inr ⟨g, off, rfl, hg, fun j hj => ?_⟩
    have hne : g ≠ R := by
      rintro rfl
      have h1 := hc j hj
      rw [blk_cell hR] at h1
      match hm : off + j with
      | 0 => rw [hm] at h1; simp at h1
      | 1 => rw [hm] at h1; simp at h1
      | k + 2 => rw [hm] at h1; simp at h1
    exact (World.cell?_of_block (Below.heap_setCell w ⟨R, i, none⟩ x g hne)).trans (hc j hj)

/-- What is taken, what is left, whether the reader is bad ('none': it may not be asked for). -/
def takenB (left : List (BitVec 8)) (n : Option Nat) : List (BitVec 8) := match n with | none => [] | some k => left.take k
def leftB (left : List (BitVec 8)) (n : Option Nat) : List (BitVec 8) := match n with | none => [] | some k => left.drop k
def badB (bad : Bool) (n : Option Nat) : Bool := match n with | none => true | some _ => bad
/-- What take leaves: what was taken, what is left. -/
def Took (R : Nat) (left : List (BitVec 8)) (bad : Bool) (n : Option Nat) (w : World) (e : Ending) (w' : World) : Prop :=
  ∃ u v', e = .returned u ∧ Moves (rS R) w w' ∧ w'.heap.size = w.heap.size ∧
    BytesAt w'.heap.size w' u (takenB left n) ∧ ReaderAt w' R v' (leftB left n) (badB bad n)

theorem took_no {R : Nat} {w : World} {a : Option Addr} {l c : Nat} {left : List (BitVec 8)} {bad : Bool} (h : w.heap[R]? = some (.cells #[.slice a l c, .bool bad] 117 (0, 0)))  :
    Took R left bad none w (.returned (.slice none 0 0)) ((w.setCell ⟨R, 0, none⟩ (.slice none 0 0)).setCell ⟨R, 1, none⟩ (.bool true)) := by
  refine ⟨_, .slice none 0 0, rfl, ((Moves.refl (rS R) w).setCell (p := ⟨R, 0, none⟩) (fun _ => (rfl : R = R)) _).setCell (p := ⟨R, 1, none⟩) (fun _ => (rfl : R = R)) _, by simp [World.setCell], BytesAt.nil _ _, ⟨?_, BytesAt.nil _ _⟩⟩
  exact blk_set (blk_set h 0 _) 1 _

set_option maxHeartbeats 1000000 in
theorem take_wrong (R : Nat) (v : Value) (left : List (BitVec 8)) (bad : Bool) (n : Int) (w : World) (hr : ReaderAt w R v left bad) :
    Calls Try.prog 65 #[.pointer (some ⟨R, 0, none⟩), .bool false, .int .i64 n] w (Took R left bad none w) := by
  obtain ⟨hblk, a, cap, rfl, _⟩ := hr
  have c0 : w.cell? ⟨R, 0, none⟩ = some (.slice a left.length cap) := blk_cell hblk 0
  have c1 : w.cell? ⟨R, 1, none⟩ = some (.bool bad) := blk_cell hblk 1
  have f0 : w.frozen? ⟨R, 0, none⟩ = false := blk_frozen hblk 0
  have f1 : w.frozen? ⟨R, 1, none⟩ = false := blk_frozen hblk 1
  have HF := Lib.hid (took_no (left := left) (bad := bad) hblk)
  clear hblk
  go_enter Try.func65, Try.ntmps65
  go_wp2
  go_ret
  exact HF.out

set_option maxHeartbeats 1000000 in
theorem take_much (R : Nat) (v : Value) (left : List (BitVec 8)) (bad : Bool) (n : Int) (w : World) (hr : ReaderAt w R v left bad) (hn : left.length < n) :
    Calls Try.prog 65 #[.pointer (some ⟨R, 0, none⟩), .bool true, .int .i64 n] w (Took R left bad none w) := by
  obtain ⟨hblk, a, cap, rfl, _⟩ := hr
  have c0 : w.cell? ⟨R, 0, none⟩ = some (.slice a left.length cap) := blk_cell hblk 0
  have c1 : w.cell? ⟨R, 1, none⟩ = some (.bool bad) := blk_cell hblk 1
  have f0 : w.frozen? ⟨R, 0, none⟩ = false := blk_frozen hblk 0
  have f1 : w.frozen? ⟨R, 1, none⟩ = false := blk_frozen hblk 1
  have HF := Lib.hid (took_no (left := left) (bad := bad) hblk)
  have d : decide ((left.length : Int) < n) = true := by simp; omega
  clear hblk
  go_enter Try.func65, Try.ntmps65
  go_wp2
  go_ret
  exact HF.out

theorem take_nil (right : Bool) (n : Int) (w : World) :
    Calls Try.prog 65 #[.pointer none, .bool right, .int .i64 n] w fun e w' => e = .returned (.slice none 0 0) ∧ w = w' := by
  go_enter Try.func65, Try.ntmps65
  go_wp2
  go_ret
  exact ⟨rfl, rfl⟩

theorem took_yes {R n : Nat} {w : World} {a : Option Addr} {l c : Nat} {left : List (BitVec 8)} {bad : Bool} (h : w.heap[R]? = some (.cells #[.slice a l c, .bool bad] 117 (0, 0))) {u v' : Value} (hu : BytesAt w.heap.size w u (left.take n)) (hv : BytesAt w.heap.size w v' (left.drop n)) :
    Took R left bad (some n) w (.returned u) (w.setCell ⟨R, 0, none⟩ v') := by
  refine ⟨u, v', rfl, (Moves.refl (rS R) w).setCell (p := ⟨R, 0, none⟩) (fun _ => (rfl : R = R)) _, by simp [World.setCell], ?_, ⟨blk_set h 0 _, ?_⟩⟩
  · have := hu.beside (i := 0) (x := v') h
    exact this.mono (by simp [World.setCell])
  · have := hv.beside (i := 0) (x := v') h
    exact this.mono (by simp [World.setCell])

set_option maxHeartbeats 1000000 in
theorem take_mid (R : Nat) (ad : Addr) (cap : Nat) (left : List (BitVec 8)) (bad : Bool) (n : Nat) (w : World) (hr : ReaderAt w R (.slice (some ad) left.length cap) left bad) (hn : n ≤ left.length) (hc : n < cap) (hl : left.length ≤ 1099511627776) :
    Calls Try.prog 65 #[.pointer (some ⟨R, 0, none⟩), .bool true, .int .i64 n] w (Took R left bad (some n) w) := by
  obtain ⟨hblk, hbytes⟩ := hr
  have c0 : w.cell? ⟨R, 0, none⟩ = some (.slice (some ad) left.length cap) := blk_cell hblk 0
  have f0 : w.frozen? ⟨R, 0, none⟩ = false := blk_frozen hblk 0
  have HF := Lib.hid (took_yes (bad := bad) hblk (hbytes.pre n hn) (hbytes.suf n hn))
  have d : decide ((left.length : Int) < n) = false := by simp; omega
  have lc : left.length ≤ cap := by obtain ⟨_, _, e, h, _⟩ := hbytes; simp only [Value.slice.injEq] at e; omega
  have l1 : (left.length : Int) ≤ 1099511627776 := by omega
  have l2 : (left.length : Int) ≤ cap := by omega
  have n1 : (n : Int) ≤ left.length := by omega
  have n2 : (n : Int) < cap := by omega
  clear hblk hbytes
  go_enter Try.func65, Try.ntmps65
  go_wp2
  go_ret
  exact HF.out

set_option maxHeartbeats 1000000 in
theorem take_all (R : Nat) (ad : Addr) (left : List (BitVec 8)) (bad : Bool) (w : World) (hr : ReaderAt w R (.slice (some ad) left.length left.length) left bad) (hl : left.length ≤ 1099511627776) :
    Calls Try.prog 65 #[.pointer (some ⟨R, 0, none⟩), .bool true, .int .i64 left.length] w (Took R left bad (some left.length) w) := by
  obtain ⟨hblk, hbytes⟩ := hr
  have c0 : w.cell? ⟨R, 0, none⟩ = some (.slice (some ad) left.length left.length) := blk_cell hblk 0
  have f0 : w.frozen? ⟨R, 0, none⟩ = false := blk_frozen hblk 0
  have HF := Lib.hid (took_yes (bad := bad) (n := left.length) (v' := .slice (some ad) 0 0) hblk (by rw [List.take_length]; exact hbytes) (by rw [List.drop_length]; exact ⟨_, _, rfl, Nat.le_refl _, fun h => (by cases h), .inl rfl⟩))
  have l1 : (left.length : Int) ≤ 1099511627776 := by omega
  clear hblk hbytes
  go_enter Try.func65, Try.ntmps65
  go_wp2
  go_ret
  exact HF.out

set_option maxHeartbeats 1000000 in
theorem take_none (R : Nat) (bad : Bool) (w : World) (hr : ReaderAt w R (.slice none 0 0) [] bad) :
    Calls Try.prog 65 #[.pointer (some ⟨R, 0, none⟩), .bool true, .int .i64 0] w (Took R [] bad (some 0) w) := by
  obtain ⟨hblk, hbytes⟩ := hr
  have c0 : w.cell? ⟨R, 0, none⟩ = some (.slice none 0 0) := blk_cell hblk 0
  have f0 : w.frozen? ⟨R, 0, none⟩ = false := blk_frozen hblk 0
  have HF := Lib.hid (took_yes (bad := bad) (n := 0) (left := []) (u := .slice none 0 0) (v' := .slice none 0 0) hblk (BytesAt.nil _ _) (BytesAt.nil _ _))
  clear hblk hbytes
  go_enter Try.func65, Try.ntmps65
  go_wp2
  go_ret
  exact HF.out

/-- How much is taken: nothing, if it may not be asked for, or there is not so much. -/
def tookN (left : List (BitVec 8)) (right : Bool) (n : Int) : Option Nat := if right = true ∧ 0 ≤ n ∧ n ≤ left.length then some n.toNat else none
theorem take_any (R : Nat) (v : Value) (left : List (BitVec 8)) (bad right : Bool) (n : Int) (w : World) (hr : ReaderAt w R v left bad) (hn : right = true → 0 ≤ n) (hl : left.length ≤ 1099511627776) :
    Calls Try.prog 65 #[.pointer (some ⟨R, 0, none⟩), .bool right, .int .i64 n] w (Took R left bad (tookN left right n) w) := by
  cases right with
  | false => simpa [tookN] using take_wrong R v left bad n w hr
  | true =>
    have h0 := hn rfl
    by_cases hm : n ≤ left.length
    · obtain ⟨k, rfl⟩ := Int.eq_ofNat_of_zero_le h0
      have hk : k ≤ left.length := by omega
      have e : tookN left true k = some k := by simp [tookN]; omega
      rw [e]
      have hb := hr.bytes
      obtain ⟨a, cap, rfl, hc, h0', _⟩ := hb
      cases a with
      | none =>
        obtain ⟨h1, h2, h3⟩ := hr.bytes.none_nil
        subst h3 h2
        obtain rfl : k = 0 := by simpa using hk
        exact take_none R bad w hr
      | some ad =>
        by_cases hkc : k < cap
        · exact take_mid R ad cap left bad k w hr hk hkc hl
        · obtain rfl : cap = left.length := by omega
          obtain rfl : k = left.length := by omega
          exact take_all R ad left bad w hr hl
    · have e : tookN left true n = none := by simp [tookN]; omega
      rw [e]
      exact take_much R v left bad n w hr (by omega)

end Go.Proofs.Ytiibpkncdflfcaa
namespace Go.Proofs.Ytiibpkncdflfcaa
open Go.RowKit

theorem or_u64 (x y : BitVec 64) : bits .or .u64 (U x) (U y) = U (x ||| y) := by
  show IntKind.u64.wrap (((BitVec.ofInt 64 (U x)) ||| (BitVec.ofInt 64 (U y))).toNat : Int) = _
  rw [ofInt_U, ofInt_U]; exact wrap_u64_U (x ||| y)
theorem shl_u64 (x : BitVec 64) (k : Nat) : IntKind.u64.wrap (U x * 2 ^ k) = U (x <<< k) := by
  unfold U
  rw [BitVec.toNat_shiftLeft, Nat.shiftLeft_eq]
  have : ((x.toNat : Int) * 2 ^ k) = ((x.toNat * 2 ^ k : Nat) : Int) := by simp
  rw [this]
  generalize x.toNat * 2 ^ k = m
  simp [IntKind.wrap, IntKind.bits, IntKind.signed]
theorem u8_in64 (b : BitVec 8) : U b = U (b.setWidth 64) := by
  unfold U
  rw [BitVec.toNat_setWidth, Nat.mod_eq_of_lt (by have := b.isLt; omega)]

/-- What a reader's call leaves: its reader, and nothing else that was there turned. -/
def RLeft (R : Nat) (left : List (BitVec 8)) (bad : Bool) (w w' : World) : Prop := ∃ v', ReaderAt w' R v' left bad ∧ Moves (rS R) w w'

theorem ReaderAt.below {R : Nat} {w w' : World} {v : Value} {left : List (BitVec 8)} {bad : Bool} (h : ReaderAt w R v left bad) (hb : Below w.heap.size w w') : ReaderAt w' R v left bad :=
  ⟨(hb.block R (blk_lt h.blk)).trans h.blk, (h.bytes.below hb).mono hb.size⟩

set_option maxHeartbeats 2000000 in
theorem rnumber_any (R : Nat) (v : Value) (left : List (BitVec 8)) (bad : Bool) (k : Int) (w : World) (hr : ReaderAt w R v left bad) (hl : left.length ≤ 1099511627776) :
    Calls Try.prog 58 #[.pointer (some ⟨R, 0, none⟩), .int .i64 k] w fun e w' => e = .returned (.int .u64 (U (leOf (takenB left (tookN left (mayB k) k))))) ∧ RLeft R (leftB left (tookN left (mayB k) k)) (badB bad (tookN left (mayB k) k)) w w' := by
  have hb : Below w.heap.size w (w.alloc (.cells #[.int .i64 1, .int .i64 2, .int .i64 4, .int .i64 8] 3)) := (Below.refl _ _).alloc (Nat.le_refl _) _
  have hr1 := hr.below hb
  have hk : mayB k = true → 0 ≤ k := fun h => by
    have : k = 1 ∨ k = 2 ∨ k = 4 ∨ k = 8 := by simpa [mayB] using h
    omega
  have ht := take_any R v left bad (mayB k) k _ hr1 hk hl
  have hsmall : (takenB left (tookN left (mayB k) k)).length ≤ 8 := by
    unfold tookN
    split
    · rename_i h
      have : k = 1 ∨ k = 2 ∨ k = 4 ∨ k = 8 := by simpa [mayB] using h.1
      simp [takenB]; omega
    · simp [takenB]
  have HM := Lib.hid (may_any k w)
  have HT := Lib.hid ht
  have HB := Lib.hid hb
  clear hr hr1 ht hb hk
  generalize mayB k = mb at HM HT hsmall ⊢
  generalize tookN left mb k = tn at HT hsmall ⊢
  unfold Took at HT
  generalize takenB left tn = bs at HT hsmall ⊢
  generalize leftB left tn = lb at HT ⊢
  generalize badB bad tn = bb at HT ⊢
  have hs1 : (bs.length : Int) ≤ 8 := by omega
  go_enter Try.func58, Try.ntmps58
  go_wp2_with (first
    | (go_at_call 52; refine HM.out.mono ?_; rintro e w' ⟨rfl, rfl⟩)
    | (go_at_call 65; refine HT.out.mono ?_; rintro e w1 ⟨u, v1, rfl, hm1, hs1, hu1, hr1⟩; have HU := Lib.hid hu1; have HR := Lib.hid hr1; have HM1 := Lib.hid hm1; obtain ⟨au, cu, rfl, hcu, _, hu⟩ := hu1; clear hr1 hm1 hs1 hcu))
  go_loop [14, 5] (fun iv nv => ∃ j : Nat, j ≤ bs.length ∧ iv = .int .i64 j ∧ nv = .int .u64 (U (leAcc bs j))) (fun iv _ => bs.length - (intOf iv).toNat)
  case atStart => exact ⟨0, Nat.zero_le _, rfl, rfl⟩
  case round =>
    obtain ⟨j, hj, rfl, rfl⟩ := hrel
    by_cases hlt : j < bs.length
    · rcases hu with h | ⟨g, off, rfl, hg, hc⟩
      · subst h; simp at hlt
      have c1 := hc j hlt
      clear hc
      have HL := Lib.hid (leAcc_succ bs j)
      generalize bs[j]?.getD 0 = b at c1 HL
      generalize leAcc bs j = q at HL ⊢
      go_wp2
      refine ⟨⟨j + 1, by omega, by go_num, ?_⟩, by simp [intOf]; omega⟩
      rw [HL.out, u8_in64 b, wrap_u64_U, shl_u64, or_u64]
    · obtain rfl : j = bs.length := by omega
      go_wp2
      go_ret
      exact ⟨rfl, _, HR.out, (Moves.of_below HB.out).trans HM1.out (fun _ _ h => h)⟩

/-- What Raw and Text of a reader leave. -/
def RRead (R : Nat) (left : List (BitVec 8)) (bad : Bool) (n : Option Nat) (w : World) (e : Ending) (w' : World) : Prop :=
  ∃ u, e = .returned u ∧ BytesAt w'.heap.size w' u (takenB left n) ∧ RLeft R (leftB left n) (badB bad n) w w'

theorem rread_of {R : Nat} {left : List (BitVec 8)} {bad : Bool} {n : Option Nat} {w w1 w2 : World} {v1 v2 : Value} (hm : Moves (rS R) w w1) (hr : ReaderAt w1 R v1 (leftB left n) (badB bad n)) {k : Nat}
    (hc : w2.ownsRow w1.heap.size 5 1 v2 k (cellsOf (takenB left n))) (hk : k = (takenB left n).length) (hb : Below w1.heap.size w1 w2) : RRead R left bad n w (.returned v2) w2 := by
  subst hk
  exact ⟨_, rfl, BytesAt.of_owns hc, _, hr.below hb, hm.trans (Moves.of_below (S := fun _ => False) hb) (fun _ _ h => h.elim)⟩

set_option maxHeartbeats 1000000 in
theorem rraw_any (R : Nat) (v : Value) (left : List (BitVec 8)) (bad : Bool) (n : Int) (w : World) (hr : ReaderAt w R v left bad) (hl : left.length ≤ 1099511627776) :
    Calls Try.prog 59 #[.pointer (some ⟨R, 0, none⟩), .int .i64 n] w (RRead R left bad (tookN left true n) w) := by
  have hts : (takenB left (tookN left true n)).length ≤ 1099511627776 := by
    unfold tookN
    split
    · simp [takenB]; omega
    · simp [takenB]
  by_cases h0 : 0 ≤ n
  · have hd : decide (0 ≤ n) = true := by simpa using h0
    have HT := Lib.hid (take_any R v left bad true n w hr (fun _ => h0) hl)
    clear hr h0
    generalize tookN left true n = tn at HT hts ⊢
    go_enter Try.func59, Try.ntmps59
    go_wp2_with (first
      | (go_at_call 65; refine HT.out.mono ?_; rintro e w1 ⟨u, v1, rfl, hm1, hs1, hu1, hr1⟩; have HC := Lib.hid (clone_any _ _ _ w1 hu1 (Nat.le_refl _) hts); have HR := Lib.hid hr1; have HM := Lib.hid hm1; clear hu1 hr1 hm1 hs1)
      | (go_at_call 18; refine HC.out.mono ?_; rintro e w2 ⟨u2, rfl, hu2, hb2⟩))
    go_ret
    exact rread_of HM.out HR.out hu2 rfl hb2
  · have hd : decide (0 ≤ n) = false := by simpa using h0
    have ht := take_wrong R v left bad n w hr
    have e : tookN left true n = none := by simp [tookN]; omega
    rw [e] at hts ⊢
    have HT := Lib.hid ht
    clear hr ht h0 e
    go_enter Try.func59, Try.ntmps59
    go_wp2_with (first
      | (go_at_call 65; refine HT.out.mono ?_; rintro e w1 ⟨u, v1, rfl, hm1, hs1, hu1, hr1⟩; have HC := Lib.hid (clone_any _ _ _ w1 hu1 (Nat.le_refl _) hts); have HR := Lib.hid hr1; have HM := Lib.hid hm1; clear hu1 hr1 hm1 hs1)
      | (go_at_call 18; refine HC.out.mono ?_; rintro e w2 ⟨u2, rfl, hu2, hb2⟩))
    go_ret
    exact rread_of HM.out HR.out hu2 rfl hb2

/-- What NewReader leaves. -/
def NewR (bs : List (BitVec 8)) (w : World) (e : Ending) (w' : World) : Prop := ∃ R v, e = .returned (.pointer (some ⟨R, 0, none⟩)) ∧ w.heap.size ≤ R ∧ ReaderAt w' R v bs false ∧ Below w.heap.size w w' ∧ ∀ k, v.ownBlock = some k → w.heap.size ≤ k
theorem newReader_any (u : Value) (bs : List (BitVec 8)) (w : World) (hu : BytesAt w.heap.size w u bs) (hl : bs.length ≤ 1099511627776) :
    Calls Try.prog 57 #[u] w (NewR bs w) := by
  have HC := Lib.hid (clone_any w.heap.size u bs w hu (Nat.le_refl _) hl)
  clear hu
  go_enter Try.func57, Try.ntmps57
  go_wp2_with (go_at_call 18; refine HC.out.mono ?_; rintro e w1 ⟨v, rfl, hv, hb⟩; obtain ⟨a, c, rfl⟩ := owns_slice hv)
  go_ret
  exact ⟨_, _, rfl, hb.size, ⟨heap_alloc_new _ _, ((BytesAt.of_owns hv).below ((Below.refl _ _).alloc (Nat.le_refl _) _)).mono (by simp)⟩, hb.alloc hb.size _, fun k e => (hv.lt k e).1⟩


/-- How many bytes a text has whose length stands ahead. -/
def textLen (left : List (BitVec 8)) : Int := U (leOf (takenB left (tookN left true 2)))
theorem leOf_lt (bs : List (BitVec 8)) (h : bs.length ≤ 2) : U (leOf bs) < 65536 := by
  have h1 := leOf_toNat bs (by omega)
  have h2 := leNat_lt bs
  have h3 : 256 ^ bs.length ≤ 256 ^ 2 := Nat.pow_le_pow_right (by decide) h
  unfold U
  omega

/-- What Text leaves. -/
def RText (R : Nat) (left : List (BitVec 8)) (bad : Bool) (w : World) (e : Ending) (w' : World) : Prop :=
  ∃ u, e = .returned u ∧ BytesAt w'.heap.size w' u (takenB (leftB left (tookN left true 2)) (tookN (leftB left (tookN left true 2)) true (textLen left))) ∧
    RLeft R (leftB (leftB left (tookN left true 2)) (tookN (leftB left (tookN left true 2)) true (textLen left))) (badB (badB bad (tookN left true 2)) (tookN (leftB left (tookN left true 2)) true (textLen left))) w w'
theorem leftB_len (left : List (BitVec 8)) (n : Option Nat) : (leftB left n).length ≤ left.length := by
  cases n <;> simp [leftB]
/-! No reader -/
theorem rnumber_nil (k : Int) (w : World) : Calls Try.prog 58 #[.pointer none, .int .i64 k] w fun e w' => e = .returned (.int .u64 0) ∧ Below w.heap.size w w' := by
  have HM := Lib.hid (may_any k w)
  have HT := Lib.hid (fun W => take_nil (mayB k) k W)
  go_enter Try.func58, Try.ntmps58
  go_wp2_with (first
    | (go_at_call 52; refine HM.out.mono ?_; rintro e w' ⟨rfl, rfl⟩)
    | (go_at_call 65; refine (HT.out _).mono ?_; rintro e w1 ⟨rfl, rfl⟩))
  refine wp_loop_rounds 1 ?_
  rw [rounds_succ]
  go_wp2
  go_ret
  exact ⟨rfl, (Below.refl _ _).alloc (Nat.le_refl _) _⟩
theorem rraw_nil (n : Int) (w : World) : Calls Try.prog 59 #[.pointer none, .int .i64 n] w fun e w' => e = .returned (.slice none 0 0) ∧ Below w.heap.size w w' := by
  have HT := Lib.hid (fun W => take_nil (decide (0 ≤ n)) n W)
  have HC := Lib.hid (fun W => clone_nil W)
  go_enter Try.func59, Try.ntmps59
  go_wp2_with (first
    | (go_at_call 65; refine (HT.out _).mono ?_; rintro e w1 ⟨rfl, rfl⟩)
    | (go_at_call 18; refine (HC.out _).mono ?_; rintro e w2 ⟨rfl, rfl⟩))
  go_ret
  exact ⟨rfl, Below.refl _ _⟩
end Go.Proofs.Ytiibpkncdflfcaa
namespace Go.Proofs.Ytiibpkncdflfcaa
open Go.RowKit

theorem base_own {w : World} {b b' : Nat} {e : TypeId} {size n : Nat} {v : Value} {xs : List Value} (h : w.ownsRow b e size v n xs) (hb : b' ≤ b) : w.ownsRow b' e size v n xs := by
  obtain ⟨h1, h2⟩ := h
  refine ⟨h1, ?_⟩
  rcases h2 with h2 | ⟨g, cap, cur, hv, hg, r⟩
  · exact .inl h2
  · exact .inr ⟨g, cap, cur, hv, Nat.le_trans hb hg, r⟩

/-- A writer that was made at w lies ahead, with these bytes, not full; nothing that was there has turned. -/
def WrAt (w : World) (row : List (BitVec 8)) (limit : Int) (W : World) : Prop := ∃ v, WriterAt w.heap.size W w.heap.size v row limit false ∧ Below w.heap.size w W ∧ row.length ≤ limit
theorem WrAt.new (w : World) (limit : Int) (h : 0 ≤ limit) : WrAt w [] limit (w.alloc (.cells #[.slice none 0 0, .int .i64 limit, .bool false] 100)) :=
  ⟨.slice none 0 0, ⟨heap_alloc_new _ _, World.ownsRow_nil _ _ _ _⟩, (Below.refl _ _).alloc (Nat.le_refl _) _, by simpa using h⟩
theorem WrAt.behind {w W W' : World} {row : List (BitVec 8)} {limit : Int} (h : WrAt w row limit W) (hb : Below W.heap.size W W') : WrAt w row limit W' := by
  obtain ⟨v, h1, h2, h3⟩ := h
  exact ⟨v, h1.below hb, h2.trans (hb.mono h2.size), h3⟩
theorem WrAt.drewN {w W : World} {row : List (BitVec 8)} {limit : Int} (h : WrAt w row limit W) (k : Nat) : WrAt w row limit (W.drewN k) := by
  obtain ⟨v, h1, h2, h3⟩ := h
  exact ⟨v, h1.drewN k, ⟨h2.os, h2.tape, h2.output, h2.size, h2.block⟩, h3⟩
theorem WrAt.wrote {w W W' : World} {v v' : Value} {row row' : List (BitVec 8)} {limit : Int} (h : WriterAt w.heap.size W w.heap.size v row limit false) (hb : Below w.heap.size w W) (h' : WriterAt w.heap.size W' w.heap.size v' row' limit false) (hs : WStep w.heap.size v v' W W') (hl : row'.length ≤ limit) : WrAt w row' limit W' :=
  ⟨v', h', hb.trans (hs.moves.below (fun i hi => by
    rcases hi with rfl | hi
    · exact Nat.le_refl _
    · exact (h.own.lt i hi).1) hb.size), hl⟩
/-- What a call of a writer with room leaves. -/
def Wrt (w : World) (row : List (BitVec 8)) (limit : Int) (e : Ending) (W : World) : Prop := e = .returned (.tuple #[]) ∧ WrAt w row limit W
theorem WrAt.put {w W W' : World} {v : Value} {row bs : List (BitVec 8)} {limit : Int} {e : Ending} (h : WriterAt w.heap.size W w.heap.size v row limit false) (hb : Below w.heap.size w W) (hl : (row ++ bs).length ≤ limit) (hw : Wrote w.heap.size w.heap.size v row limit false (some bs) W e W') : Wrt w (row ++ bs) limit e W' := by
  obtain ⟨he, v', h1, h2⟩ := hw
  have hl' := hl
  rw [List.length_append] at hl
  have e2 : wRow row limit false (some bs) = row ++ bs := by
    show (if false = true ∨ limit < row.length + bs.length then row else row ++ bs) = _
    rw [if_neg (by simp; omega)]
  have e3 : wFull row limit false (some bs) = false := by
    show (false || decide (limit < row.length + bs.length)) = _
    rw [Bool.false_or, decide_eq_false_iff_not]; omega
  rw [e2, e3] at h1
  exact ⟨he, WrAt.wrote h hb h1 h2 hl'⟩
theorem WrAt.num {w W : World} {row : List (BitVec 8)} {limit : Int} (h : WrAt w row limit W) (x : BitVec 64) (k : Nat) (hk : mayB k = true) (hl : (row.length : Int) + k ≤ limit) (hL : limit ≤ 549755813888) :
    Calls Try.prog 41 #[.pointer (some ⟨w.heap.size, 0, none⟩), .int .u64 (U x), .int .i64 k] W (Wrt w (row ++ leB k x) limit) := by
  obtain ⟨v, h1, h2, h3⟩ := h
  refine (number_any w.heap.size w.heap.size v row limit false x k W h1 (by omega) (by omega) (by omega) h2.size).mono ?_
  intro e w' hw
  have e1 : numB x k = some (leB k x) := by unfold numB; rw [if_pos hk]; rfl
  rw [e1] at hw
  exact WrAt.put h1 h2 (by rw [List.length_append, leB_len]; omega) hw
/-- The bytes of a number, the lowest first. -/
def leI (k i : Int) : List (BitVec 8) := leB k.toNat (BitVec.ofInt 64 i)
theorem leI_len (k i : Int) : (leI k i).length = k.toNat := leB_len _ _
theorem WrAt.numI {w W : World} {row : List (BitVec 8)} {limit : Int} (h : WrAt w row limit W) (i k : Int) (h0 : 0 ≤ i) (h1 : i < 18446744073709551616) (hk : mayB k = true) (hl : (row.length : Int) + k ≤ limit) (hL : limit ≤ 549755813888) :
    Calls Try.prog 41 #[.pointer (some ⟨w.heap.size, 0, none⟩), .int .u64 i, .int .i64 k] W (Wrt w (row ++ leI k i) limit) := by
  have hk0 : 0 ≤ k := by
    have : k = 1 ∨ k = 2 ∨ k = 4 ∨ k = 8 := by simpa [mayB] using hk
    omega
  obtain ⟨n, rfl⟩ := Int.eq_ofNat_of_zero_le hk0
  obtain ⟨x, rfl⟩ : ∃ x : BitVec 64, i = U x := U_mk h0 h1
  have := h.num x n hk hl hL
  unfold leI
  rw [ofInt_U]
  exact this
theorem WrAt.raw {w W : World} {row : List (BitVec 8)} {limit : Int} (h : WrAt w row limit W) (u : Value) (bs : List (BitVec 8)) (hu : BytesAt W.heap.size W u bs) (hl : (row.length : Int) + bs.length ≤ limit) (hL : limit ≤ 549755813888) :
    Calls Try.prog 42 #[.pointer (some ⟨w.heap.size, 0, none⟩), u] W (Wrt w (row ++ bs) limit) := by
  obtain ⟨v, h1, h2, h3⟩ := h
  refine (raw_any w.heap.size w.heap.size v row limit false u bs W h1 hu (by omega) (by omega) (by omega) (by omega) h2.size).mono ?_
  intro e w' hw
  exact WrAt.put h1 h2 (by rw [List.length_append]; omega) hw
/-- What Bytes leaves: the bytes, in a block of their own. -/
def WBy (w : World) (row : List (BitVec 8)) (limit : Int) (W : World) (e : Ending) (W' : World) : Prop := ∃ u, e = .returned u ∧ W'.ownsRow W.heap.size 5 1 u row.length (cellsOf row) ∧ Below W.heap.size W W' ∧ WrAt w row limit W'
theorem WrAt.take {w W : World} {row : List (BitVec 8)} {limit : Int} (h : WrAt w row limit W) (hL : limit ≤ 549755813888) :
    Calls Try.prog 44 #[.pointer (some ⟨w.heap.size, 0, none⟩)] W (WBy w row limit W) := by
  have h0 := h
  obtain ⟨v, h1, h2, h3⟩ := h
  refine (bytes_any _ _ _ _ _ _ _ h1 (by omega)).mono ?_
  rintro e w' ⟨u, he, hu, hb⟩
  exact ⟨u, he, hu, hb, h0.behind hb⟩
theorem WrAt.size {w W : World} {row : List (BitVec 8)} {limit : Int} (h : WrAt w row limit W) : Below w.heap.size w W := by obtain ⟨_, _, h, _⟩ := h; exact h

/-- A reader that was made behind w: what is left, whether it is bad; nothing that was there has turned. -/
def RdAt (w : World) (R : Nat) (left : List (BitVec 8)) (bad : Bool) (W : World) : Prop := ∃ v, ReaderAt W R v left bad ∧ Below w.heap.size w W ∧ w.heap.size ≤ R
theorem RdAt.behind {w W W' : World} {R : Nat} {left : List (BitVec 8)} {bad : Bool} (h : RdAt w R left bad W) (hb : Below W.heap.size W W') : RdAt w R left bad W' := by
  obtain ⟨v, h1, h2, h3⟩ := h
  exact ⟨v, h1.below hb, h2.trans (hb.mono h2.size), h3⟩
theorem RdAt.size {w W : World} {R : Nat} {left : List (BitVec 8)} {bad : Bool} (h : RdAt w R left bad W) : Below w.heap.size w W := by obtain ⟨_, _, h, _⟩ := h; exact h
/-- What a new reader is. -/
def NewRd (w : World) (bs : List (BitVec 8)) (e : Ending) (W : World) : Prop := ∃ R, e = .returned (.pointer (some ⟨R, 0, none⟩)) ∧ RdAt w R bs false W
theorem newRd_any (u : Value) (bs : List (BitVec 8)) (w : World) (hu : BytesAt w.heap.size w u bs) (hl : bs.length ≤ 1099511627776) : Calls Try.prog 57 #[u] w (NewRd w bs) :=
  (newReader_any u bs w hu hl).mono fun _ _ ⟨R, v, he, hR, hr, hb, _⟩ => ⟨R, he, v, hr, hb, hR⟩
theorem ReaderAt.keeps {R : Nat} {W W' : World} {v : Value} {left : List (BitVec 8)} {bad : Bool} (hr : ReaderAt W R v left bad) (hm : Moves (rS R) W W') {n : Nat} {u : Value} {bs : List (BitVec 8)} (hu : BytesAt n W u bs) (hn : n ≤ W.heap.size) : BytesAt n W' u bs := by
  refine hm.bytes hu hn fun hne k hk hR => ?_
  obtain rfl : k = R := hR
  obtain ⟨a, cap, rfl, _⟩ := hr.bytes
  obtain ⟨a', cap', rfl, hl, h0, h⟩ := hu
  rcases h with h | ⟨g, off, rfl, hg, hc⟩
  · exact hne h
  · obtain rfl : g = k := by simpa [Value.ownBlock] using hk
    have h1 := hc 0 (by cases bs with
      | nil => exact absurd rfl hne
      | cons b bs => simp)
    rw [blk_cell hr.blk] at h1
    match hm : off + 0 with
    | 0 => rw [hm] at h1; simp at h1
    | 1 => rw [hm] at h1; simp at h1
    | k + 2 => rw [hm] at h1; simp at h1
/-- All bytes that were there are there still. -/
def Keeps (W W' : World) : Prop := ∀ n u bs, BytesAt n W u bs → n ≤ W.heap.size → BytesAt n W' u bs
theorem Keeps.of_below {W W' : World} (hb : Below W.heap.size W W') : Keeps W W' := fun _ _ _ h hn => h.below (hb.mono hn)
/-- What is read, left, bad behind k bytes were asked for. -/
def rdN (left : List (BitVec 8)) (k : Int) : BitVec 64 := leOf (takenB left (tookN left (mayB k) k))
def rdL (left : List (BitVec 8)) (k : Int) : List (BitVec 8) := leftB left (tookN left (mayB k) k)
def rdB (left : List (BitVec 8)) (bad : Bool) (k : Int) : Bool := badB bad (tookN left (mayB k) k)
def Rdn (w : World) (R : Nat) (x : BitVec 64) (left : List (BitVec 8)) (bad : Bool) (W : World) (e : Ending) (W' : World) : Prop := e = .returned (.int .u64 (U x)) ∧ RdAt w R left bad W' ∧ Keeps W W'
theorem RdAt.num {w W : World} {R : Nat} {left : List (BitVec 8)} {bad : Bool} (h : RdAt w R left bad W) (k : Int) (hl : left.length ≤ 1099511627776) :
    Calls Try.prog 58 #[.pointer (some ⟨R, 0, none⟩), .int .i64 k] W (Rdn w R (rdN left k) (rdL left k) (rdB left bad k) W) := by
  obtain ⟨v, h1, h2, h3⟩ := h
  refine (rnumber_any R v left bad k W h1 hl).mono ?_
  rintro e w' ⟨he, v', h4, h5⟩
  exact ⟨he, ⟨v', h4, h2.trans (h5.below (fun i hi => by rw [show i = R from hi]; exact h3) h2.size), h3⟩, fun n u bs hu hn => h1.keeps h5 hu hn⟩
def Rdw (w : World) (R : Nat) (bs left : List (BitVec 8)) (bad : Bool) (W : World) (e : Ending) (W' : World) : Prop := ∃ u, e = .returned u ∧ BytesAt W'.heap.size W' u bs ∧ RdAt w R left bad W' ∧ Keeps W W'
theorem RdAt.raw {w W : World} {R : Nat} {left : List (BitVec 8)} {bad : Bool} (h : RdAt w R left bad W) (n : Int) (hl : left.length ≤ 1099511627776) :
    Calls Try.prog 59 #[.pointer (some ⟨R, 0, none⟩), .int .i64 n] W (Rdw w R (takenB left (tookN left true n)) (leftB left (tookN left true n)) (badB bad (tookN left true n)) W) := by
  obtain ⟨v, h1, h2, h3⟩ := h
  refine (rraw_any R v left bad n W h1 hl).mono ?_
  rintro e w' ⟨u, he, hu, v', h4, h5⟩
  exact ⟨u, he, hu, ⟨v', h4, h2.trans (h5.below (fun i hi => by rw [show i = R from hi]; exact h3) h2.size), h3⟩, fun n u bs hu hn => h1.keeps h5 hu hn⟩
end Go.Proofs.Ytiibpkncdflfcaa

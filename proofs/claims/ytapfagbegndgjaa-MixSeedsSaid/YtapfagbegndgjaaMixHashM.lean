/-
  What mix.Hash answers, for every key.
  Conditions: none.
-/
import Derived.Test.YtapfagbegndgjaaMix
import Derived.Test.YtapfagbegndgjaaMem
import Derived.Test.YtapfagbegndgjaaRange
namespace Go.Proofs.Ytapfagbegndgjaa
open Go.RowKit

theorem take_one {α : Type} (l : List α) (d : α) (j : Nat) (hj : j < l.length) : l.take (j + 1) = l.take j ++ [l[j]?.getD d] := by
  rw [List.take_add_one, List.getElem?_eq_getElem hj]
  rfl
/-- One byte of a key more. -/
def hashStep (q : BitVec 64) (b : BitVec 8) : BitVec 64 := (q ^^^ b.setWidth 64) * BitVec.ofInt 64 1099511628211
/-- A key's number ahead of the scrambling. -/
def hashRun (q : BitVec 64) (key : List (BitVec 8)) : BitVec 64 := key.foldl hashStep q
theorem hashRun_snoc (q : BitVec 64) (key : List (BitVec 8)) (b : BitVec 8) : hashRun q (key ++ [b]) = hashStep (hashRun q key) b := by simp [hashRun]
/-- A key's number. -/
def hash (seed : BitVec 64) (key : List (BitVec 8)) : BitVec 64 := scr (hashRun (seed ^^^ BitVec.ofInt 64 14695981039346656037) key + BitVec.ofInt 64 key.length)

theorem u8_u64 (b : BitVec 8) : IntKind.u64.wrap (U b) = U (b.setWidth 64) := by
  have h : U b = U (b.setWidth 64) := by
    unfold U
    rw [BitVec.toNat_setWidth, Nat.mod_eq_of_lt (by have := b.isLt; omega)]
  rw [h, wrap_u64_U]
theorem u8_u64' (b : BitVec 8) : U b = U (b.setWidth 64) := by
  unfold U
  rw [BitVec.toNat_setWidth, Nat.mod_eq_of_lt (by have := b.isLt; omega)]

set_option maxHeartbeats 400000 in
theorem hash1_any (b : BitVec 8) (q : BitVec 64) (B : Nat) (w : World) (hb : Boxed w B 22 (.int .u64 (U q))) :
    Calls Try.prog 6 #[.int .u8 (U b), .pointer (some ⟨B, 0, none⟩)] w fun e w' => e = .returned (.tuple #[]) ∧ w.setCell ⟨B, 0, none⟩ (.int .u64 (U (hashStep q b))) = w' := by
  have hc := hb.cell
  have hf := hb.frozen
  have b0 := U_nonneg b
  have b1 : U b < 256 := by simpa using U_lt b
  have e1 : bits .xor .u64 (U q) (U b) = U (q ^^^ b.setWidth 64) := by rw [u8_u64' b]; exact xor_u64 q _
  have e2 := mul_u64 (q ^^^ b.setWidth 64) 1099511628211
  go_enter Try.func6, Try.ntmps6
  go_wp2
  go_end0
  exact ⟨rfl, rfl⟩

set_option maxRecDepth 100000 in
set_option maxHeartbeats 1000000 in
theorem hash_any (seed : BitVec 64) (key : List (BitVec 8)) (v : Value) (w : World) (hv : BytesAt w.heap.size w v key) (hl : key.length ≤ 1099511627776) :
    Calls Try.prog 4 #[.int .u64 (U seed), v] w fun e w' => e = .returned (.int .u64 (U (hash seed key))) ∧ Below w.heap.size w w' := by
  obtain ⟨a, cap, rfl, _, _, hv⟩ := hv
  have l1 : (key.length : Int) ≤ 1099511627776 := by omega
  have e0 : bits .xor .u64 (U seed) 14695981039346656037 = U (seed ^^^ BitVec.ofInt 64 14695981039346656037) := xor_u64 seed (BitVec.ofInt 64 14695981039346656037)
  have HH : Hid (hash seed key = scr (hashRun (seed ^^^ BitVec.ofInt 64 14695981039346656037) key + BitVec.ofInt 64 key.length)) := rfl
  generalize seed ^^^ BitVec.ofInt 64 14695981039346656037 = s0 at e0 HH
  go_enter Try.func4, Try.ntmps4
  go_wp2
  go_loopw [14] (fun iv wr => ∃ k : Nat, k ≤ key.length ∧ iv = .int .i64 k ∧ Boxed wr w.heap.size 22 (.int .u64 (U (hashRun s0 (key.take k)))) ∧ Below w.heap.size w wr) (fun iv _ => key.length - (intOf iv).toNat)
  case atStart => exact ⟨0, Nat.zero_le _, rfl, Boxed.new w _ _, (Below.refl _ w).alloc (Nat.le_refl _) _⟩
  case round =>
    obtain ⟨k, hk, rfl, hb, hB⟩ := hrel
    by_cases hlt : k < key.length
    · rcases hv with h | ⟨g, off, rfl, hg, hc⟩
      · subst h; simp at hlt
      have c1 := (hB.cell (p := ⟨g, off + k, none⟩) hg).trans (hc k hlt)
      have HT := Lib.hid (take_one key 0 k hlt)
      generalize key[k]?.getD 0 = b at c1 HT
      have HR := Lib.hid (hashRun_snoc s0 (key.take k) b)
      generalize hashRun s0 (key.take k) = q at hb HR
      have h1 := hash1_any b q w.heap.size wr hb
      have k0 : (0 : Int) ≤ k := by omega
      have k1 : (k : Int) < key.length := by omega
      clear hc
      go_wp2_with (go_at_call 6; refine h1.mono ?_; rintro e w' ⟨rfl, rfl⟩)
      go_roundw
      case rel => exact ⟨k + 1, by omega, by go_num, by rw [HT.out, HR.out]; exact hb.set _, hB.setCell (p := ⟨w.heap.size, 0, none⟩) (Nat.le_refl _) _⟩
      case measure => simp [intOf]; omega
    · obtain rfl : k = key.length := by omega
      rw [List.take_length] at hb
      have hc := hb.cell
      generalize hashRun s0 key = q at hb hc HH
      have e3 := add_u64 q (key.length : Int)
      have hs := fun W => scramble_any (q + BitVec.ofInt 64 key.length) W
      generalize key.length = n at e3 hs HH l1
      clear hv
      go_wp2_with (go_at_call 7; refine (hs _).mono ?_; rintro e w' ⟨rfl, rfl⟩)
      go_ret
      exact ⟨by rw [HH.out]; rfl, hB⟩

end Go.Proofs.Ytapfagbegndgjaa

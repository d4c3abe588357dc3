/-
  What crc.Sum, Add and Pieces answer, and that the chapter's examples hold of the program.
  Conditions: none.
-/
import Derived.Test.YtopjadmjahpeoaaCrcAddL
import Derived.Lib.SlBytesConst
namespace Go.Proofs.Ytopjadmjahpeoaa.Crc
open Go.RowKit

theorem one_piece {w : World} {v : Value} {bs : List (BitVec 8)} (hv : BytesAt w.heap.size w v bs) :
    PiecesAt (w.alloc (.cells #[v] 24)).heap.size (w.alloc (.cells #[v] 24)) (.slice (some ⟨w.heap.size, 0, none⟩) 1 1) [bs] := by
  refine ⟨_, 1, rfl, .inr ⟨w.heap.size, 0, rfl, by simp, fun i hi => ?_⟩⟩
  obtain rfl : i = 0 := by simpa using hi
  refine ⟨v, (Boxed.new w _ _).cell, ?_⟩
  exact (hv.below ((Below.refl _ w).alloc (Nat.le_refl _) _)).mono (by simp)

theorem one_len {bs : List (BitVec 8)} (h : bs.length ≤ 1099511627776) : ∀ i : Nat, (([bs] : List (List (BitVec 8)))[i]?.getD []).length ≤ 1099511627776 := by
  intro i
  cases i with
  | zero => simpa using h
  | succ i => simp

/-- The contract of add as its callers take it. -/
theorem add_one (s : BitVec 32) (bs : List (BitVec 8)) (v : Value) (hlen : bs.length ≤ 1099511627776) (w : World) (hv : BytesAt w.heap.size w v bs) :
    Calls Try.prog 50 #[.int .u32 (U s), .slice (some ⟨w.heap.size, 0, none⟩) 1 1] (w.alloc (.cells #[v] 24)) fun e W' => e = .returned (.int .u32 (U (crcAdd s bs))) ∧ Below w.heap.size w W' := by
  have := add_any s [bs] _ (by simp) (one_len hlen) _ (one_piece hv)
  refine this.mono fun e W' ⟨he, hb⟩ => ⟨by simpa using he, ?_⟩
  exact ((Below.refl _ w).alloc (Nat.le_refl _) _).trans (hb.mono (by simp))

set_option maxHeartbeats 400000 in
theorem sum_any (bs : List (BitVec 8)) (v : Value) (hlen : bs.length ≤ 1099511627776) (w : World) (hv : BytesAt w.heap.size w v bs) :
    Calls Try.prog 29 #[v] w fun e W' => e = .returned (.int .u32 (U (crcAdd 0#32 bs))) ∧ Below w.heap.size w W' := by
  have hadd : Calls Try.prog 50 #[.int .u32 0, .slice (some ⟨w.heap.size, 0, none⟩) 1 1] (w.alloc (.cells #[v] 24)) fun e W' => e = .returned (.int .u32 (U (crcAdd 0#32 bs))) ∧ Below w.heap.size w W' := add_one 0 bs v hlen w hv
  clear hlen
  obtain ⟨a, cap, rfl, _⟩ := hv
  go_enter Try.func29, Try.ntmps29
  go_wp2_with (go_at_call 50; refine hadd.mono ?_; rintro e w' ⟨rfl, hb⟩)
  go_ret
  exact ⟨rfl, hb⟩

theorem sumNil (w : World) : Calls Try.prog 29 #[.slice none 0 0] w fun e W' => e = .returned (.int .u32 0) ∧ Below w.heap.size w W' := by
  have := sum_any [] (.slice none 0 0) (by simp) w (BytesAt.nil _ _)
  have e : U (crcAdd 0#32 []) = 0 := by decide
  rw [e] at this
  exact this
/-- The bytes of the chapter's example. -/
def nine : Array Value := #[.int .u8 49, .int .u8 50, .int .u8 51, .int .u8 52, .int .u8 53, .int .u8 54, .int .u8 55, .int .u8 56, .int .u8 57]
theorem sumNine (w : World) : Calls Try.prog 29 #[.slice (some ⟨w.heap.size, 0, none⟩) 9 9] (w.alloc (.cells nine 5 (9, 10))) fun e W' => e = .returned (.int .u32 3808858755) ∧ Below w.heap.size w W' := by
  have := sum_any [49#8, 50#8, 51#8, 52#8, 53#8, 54#8, 55#8, 56#8, 57#8] (.slice (some ⟨w.heap.size, 0, none⟩) 9 9) (by simp) (w.alloc (.cells nine 5 (9, 10)))
    ⟨_, 9, rfl, fun h => (by cases h), .inr ⟨w.heap.size, 0, rfl, by simp, fun j hj => by
      have hj : j < 9 := by simpa using hj
      rw [Nat.zero_add, cell_of_row _ _ _ _ _ _ (heap_alloc_new w _)]
      have : ∀ j < 9, nine[j]? = some (.int .u8 (U (([49#8, 50#8, 51#8, 52#8, 53#8, 54#8, 55#8, 56#8, 57#8] : List (BitVec 8))[j]?.getD 0))) := by
        intro j hj
        match j, hj with
        | 0, _ => rfl | 1, _ => rfl | 2, _ => rfl | 3, _ => rfl | 4, _ => rfl | 5, _ => rfl | 6, _ => rfl | 7, _ => rfl | 8, _ => rfl
      exact this j hj⟩⟩
  have e : U (crcAdd 0#32 [49#8, 50#8, 51#8, 52#8, 53#8, 54#8, 55#8, 56#8, 57#8]) = 3808858755 := by decide +kernel
  rw [e] at this
  exact this.mono fun e W' ⟨he, hb⟩ => ⟨he, ((Below.refl _ w).alloc (Nat.le_refl _) _).trans (hb.mono (by simp))⟩

end Go.Proofs.Ytopjadmjahpeoaa.Crc

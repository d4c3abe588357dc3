/-
  sgraffitolaw04.full: so many bytes of one kind.
  Conditions: none.
-/
import Derived.Test.YtadglpnmhpmebaaFlash3
namespace Go.Proofs.Ytadglpnmhpmebaa
open Go.RowKit

theorem rep_step (c : BitVec 8) (n k : Nat) (hk : k < n) : (List.replicate k c ++ List.replicate (n - k) 0#8).set k c = List.replicate (k + 1) c ++ List.replicate (n - (k + 1)) 0#8 := by
  have e : n - k = (n - (k + 1)) + 1 := by omega
  rw [List.set_append_right _ _ (by simp), e, List.replicate_succ, List.length_replicate, Nat.sub_self, List.set_cons_zero, List.replicate_succ']
  simp
theorem row_cell {w : World} {base g n cap i : Nat} {bs : List (BitVec 8)} (h : w.ownsRow base 5 1 (.slice (some ⟨g, 0, none⟩) n cap) n (cellsOf bs)) (hi : i < bs.length) : w.cell? ⟨g, i, none⟩ = some (.int .u8 (U (bs[i]?.getD 0))) := by
  have hc : (cellsOf bs)[i]? = some (.int .u8 (U (bs[i]?.getD 0))) := by simp [cellsOf, hi]
  have q := h.cells rfl _ _ hc
  rw [add_plain, Nat.zero_add] at q
  exact q
theorem row_free {w : World} {base g n cap size : Nat} {t : TypeId} {cs : List Value} (h : w.ownsRow base t size (.slice (some ⟨g, 0, none⟩) n cap) n cs) (i : Nat) : w.frozen? ⟨g, i, none⟩ = false := by
  rcases h.2 with ⟨h2, _⟩ | ⟨g', cap', cur, hv, _, hg, _⟩
  · cases h2
  · simp only [Value.slice.injEq, Option.some.injEq, Addr.mk.injEq] at hv
    obtain ⟨⟨rfl, _⟩, _⟩ := hv
    exact blk_frozen hg i
theorem row_set {w : World} {base g i : Nat} {n cap : Nat} {bs : List (BitVec 8)} (h : w.ownsRow base 5 1 (.slice (some ⟨g, 0, none⟩) n cap) n (cellsOf bs)) (x : BitVec 8) : (w.setCell ⟨g, i, none⟩ (.int .u8 (U x))).ownsRow base 5 1 (.slice (some ⟨g, 0, none⟩) n cap) n (cellsOf (bs.set i x)) := by
  obtain ⟨h1, h2⟩ := h
  rcases h2 with ⟨h2, _⟩ | ⟨g', cap', cur, hv, hb, hg, hn, hc, hs, ht⟩
  · cases h2
  · simp only [Value.slice.injEq, Option.some.injEq, Addr.mk.injEq] at hv
    obtain ⟨⟨rfl, _⟩, _, rfl⟩ := hv
    refine ⟨by rw [cellsOf_len, List.length_set, ← cellsOf_len]; exact h1, .inr ⟨g, cap, _, rfl, hb, blk_set hg i _, hn, hc, by rw [Array.size_setIfInBounds]; exact hs, ?_⟩⟩
    rw [Array.toList_setIfInBounds, List.take_set, ht]
    simp [cellsOf, List.map_set]

set_option maxHeartbeats 1000000 in
theorem full04_any (c : BitVec 8) (n : Nat) (hn : n ≤ 1000) (w : World) :
    Calls Try.prog 31 #[.int .u8 (U c), .int .i64 n] w fun e w' => e = .returned (.slice (some ⟨w.heap.size, 0, none⟩) n n) ∧ w'.ownsRow w.heap.size 5 1 (.slice (some ⟨w.heap.size, 0, none⟩) n n) n (cellsOf (List.replicate n c)) ∧ Below w.heap.size w w' := by
  have hmk := makeBytes n hn
  have HO := Lib.hid (own_zeros w w.heap.size n (Nat.le_refl _) hn)
  have n1 : (n : Int) ≤ 1000 := by omega
  go_enter Try.func31, Try.ntmps31
  go_wp2
  go_loopw [6] (fun iv wr => ∃ k : Nat, k ≤ n ∧ iv = .int .i64 k ∧ wr.ownsRow w.heap.size 5 1 (.slice (some ⟨w.heap.size, 0, none⟩) n n) n (cellsOf (List.replicate k c ++ List.replicate (n - k) 0#8)) ∧ Below w.heap.size w wr) (fun iv _ => n - (intOf iv).toNat)
  case atStart => exact ⟨0, Nat.zero_le _, rfl, by simpa [zeros] using HO.out, (Below.refl _ _).alloc (Nat.le_refl _) _⟩
  case round =>
    obtain ⟨k, hk, rfl, hr, hB⟩ := hrel
    by_cases hlt : k < n
    · have q0 := row_cell (i := k) hr (by simp; omega)
      have q1 := row_free hr k
      have HS := Lib.hid (row_set (i := k) hr c)
      rw [rep_step c n k hlt] at HS
      have HB := Lib.hid hB
      clear hr hB
      have k1 : (k : Int) < n := by omega
      go_wp2
      go_roundw
      case rel => exact ⟨k + 1, by omega, by go_num, HS.out, HB.out.setCell (p := ⟨w.heap.size, k, none⟩) (Nat.le_refl _) _⟩
      case measure => simp [intOf]; omega
    · obtain rfl : k = n := by omega
      rw [Nat.sub_self, List.replicate_zero, List.append_nil] at hr
      go_wp2
      go_ret
      exact ⟨rfl, hr, hB⟩

end Go.Proofs.Ytadglpnmhpmebaa

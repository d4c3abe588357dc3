/-
  Reader.Numbers where nothing is read; readers beside each other.
  Conditions: none.
-/
import Derived.Test.YtocjdhkjlnkgaaaNums3
namespace Go.Proofs.Ytocjdhkjlnkgaaa
open Go.RowKit Go.Shelf
attribute [local go_sem] Oper.semAt_some

set_option maxHeartbeats 1000000 in
theorem numbers_no (R : Nat) (k most : Int) (w : World) (h : mayB k = false ∨ most < 1) :
    CallsIn Fence.wide 3 Try.prog 5 #[.pointer (some ⟨R, 0, none⟩), .int .i64 k, .int .i64 most] w fun e w' => e = .returned (.slice none 0 0) ∧ Below w.heap.size w w' := by
  have HMAY := Lib.hid (fun W => callsIn_wide (n := 2).2 (may_any k W))
  have t2 : Fence.wide.fn 11 := trivial
  have hB : Below w.heap.size w ((w.alloc (.cells #[.int .i64 most] 3)).alloc (.cells #[.int .i64 1, .int .i64 2, .int .i64 4, .int .i64 8] 3)) := ((Below.refl _ w).alloc (Nat.le_refl _) _).alloc (by simp) _
  have HB := Lib.hid hB
  clear hB
  cases hb : mayB k with
  | false =>
    rw [hb] at HMAY
    clear h hb
    refine callsIn_of_wp_marks Try.func5 rfl trivial ?_ rfl
    simp only [Try.ntmps5, List.size_toArray, List.length_cons, List.length_nil, Nat.reduceAdd, Nat.reduceSub, Array.replicate_succ, Array.replicate_zero, List.push_toArray, List.append_toArray, List.nil_append, List.cons_append]
    gi_wp2_with (gi_at_call 11; (with_reducible refine (HMAY.out _).mono ?_); rintro e w' ⟨rfl, rfl⟩)
    exact ⟨_, results_tmp rfl _ _ _, rfl, HB.out⟩
  | true =>
    rw [hb] at HMAY
    have h1 : most < 1 := by rcases h with h | h; · rw [hb] at h; cases h
                             · exact h
    clear h hb
    refine callsIn_of_wp_marks Try.func5 rfl trivial ?_ rfl
    simp only [Try.ntmps5, List.size_toArray, List.length_cons, List.length_nil, Nat.reduceAdd, Nat.reduceSub, Array.replicate_succ, Array.replicate_zero, List.push_toArray, List.append_toArray, List.nil_append, List.cons_append]
    gi_wp2_with (gi_at_call 11; (with_reducible refine (HMAY.out _).mono ?_); rintro e w' ⟨rfl, rfl⟩)
    exact ⟨_, results_tmp rfl _ _ _, rfl, HB.out⟩

theorem moves_of_below {n R : Nat} {w w' : World} (hb : Below n w w') : Moves (nS n R) w w' := ⟨hb.os, hb.tape, hb.output, hb.size, fun i _ hs => hb.block i (by have : ¬ n ≤ i := fun e => hs (.inr e); omega)⟩
/-- Numbers, whatever may come. -/
theorem numbers_res (R m most : Nat) (bs : List (BitVec 8)) (w : World) (hr : Rd w.heap.size w R bs) (hl : bs.length ≤ 1073741824) (hm : mayB m = true) (hm1 : 1 ≤ m) (hm8 : m ≤ 8) (hmost2 : most ≤ 1073741824) :
    Calls Try.prog 5 #[.pointer (some ⟨R, 0, none⟩), .int .i64 m, .int .i64 most] w (NumsRes R m most bs w) := by
  by_cases h : 1 ≤ most
  · exact numbers_any R m most bs w hr hl hm hm1 hm8 h hmost2
  · obtain rfl : most = 0 := by omega
    refine (callsIn_wide.1 (numbers_no R m 0 w (.inr (by omega)))).mono ?_
    rintro e w' ⟨rfl, hb⟩
    refine ⟨0, _, by simp, rfl, World.ownsRow_nil _ _ _ _, ?_, moves_of_below hb⟩
    rw [Nat.zero_mul, List.drop_zero]
    exact hr.below hb (Nat.le_refl _)

/-- Another reader's calls leave a reader as it was. -/
theorem Rd.moves {n R1 R2 : Nat} {w w' : World} {left l1 : List (BitVec 8)} (h : Rd n w R2 left) (h1 : Rd n w R1 l1) (hne : R2 ≠ R1) (hR : R2 < n) (hm : Moves (nS n R1) w w') : Rd n w' R2 left := by
  obtain ⟨v, h2, hv⟩ := h
  obtain ⟨v1, h3, a1, c1, rfl, _⟩ := h1
  refine ⟨v, (hm.block R2 (blk_lt h2) (fun e => e.elim hne (by intro e; omega))).trans h2, ?_⟩
  obtain ⟨a, cap, rfl, hl, h0, hc⟩ := hv
  refine ⟨a, cap, rfl, hl, h0, ?_⟩
  rcases hc with hc | ⟨g, off, rfl, hg, hc⟩
  · exact .inl hc
  · refine .inr ⟨g, off, rfl, hg, fun j hj => ?_⟩
    have hj2 := hc j hj
    have hgw : g < w.heap.size := by
      rcases Nat.lt_or_ge g w.heap.size with h | h
      · exact h
      · exfalso
        unfold World.cell? at hj2
        rw [show w.heap[g]? = none from Array.getElem?_eq_none h] at hj2
        cases hj2
    have hne2 : g ≠ R1 := by
      rintro rfl
      rw [blk_cell h3] at hj2
      match hm : off + j with
      | 0 => rw [hm] at hj2; simp at hj2
      | 1 => rw [hm] at hj2; simp at hj2
      | k + 2 => rw [hm] at hj2; simp at hj2
    exact (World.cell?_of_block (w := w) (hm.block g hgw (fun e => e.elim hne2 (by intro e; omega)))).trans hj2
end Go.Proofs.Ytocjdhkjlnkgaaa

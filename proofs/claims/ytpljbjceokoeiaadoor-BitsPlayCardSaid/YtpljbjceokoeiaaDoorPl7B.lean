/-
  The document's own set of numbers: New, Has, Mark, Clear.
  Conditions: none.
-/
import Derived.Test.YtpljbjceokoeiaaDoorPl7A
import Derived.Test.YtpljbjceokoeiaaDoorBits3
namespace Go.Proofs.YtpljbjceokoeiaaDoor
open Go.RowKit

def bsC (v : Value) (hand : Int) : Array Value := #[v, .int .i64 hand]
theorem bsC_sz (v : Value) (hand : Int) : (Tryd.prog.info? 29).map (·.size) = some (bsC v hand).size := by show _ = some 2; kernel_rfl
theorem bsC_one (a : Option Addr) (n c : Nat) (hand : Int) : (bsC (.slice a n c) hand).all (·.oneCell') = true := by simp [bsC, Value.oneCell']
theorem BoolsAt.setRow {n : Nat} {w : World} {v : Value} {l : List Bool} {z : Nat} {cs : Array Value} (h : BoolsAt n w v l) (hz : w.heap[z]? = some (.cells cs 29 (0, 0))) (cs' : Array Value) : BoolsAt n (w.setRow z cs') v l :=
  h.keep (Nat.le_refl _) fun g hg => setRow_other w z g cs' (by
    rintro rfl
    obtain ⟨_, cs2, cur, e⟩ := hg
    rw [hz] at e
    simp at e)
/-- What Mark, Clear of the document's leave. -/
def RefDid (s : BSet) (b : Value) (w : World) (e : Ending) (w' : World) : Prop := ∃ v l, e = .returned (.tuple #[.agg #[v, .int .i64 s.hand], b]) ∧ BoolsAt w'.heap.size w' v l ∧ UsedIs s.n s l ∧ Below w.heap.size w w'
/-- Two sets made ahead: the one that is given, the one that is answered. -/
structure Lay2 (w W : World) (v : Value) (hand : Int) : Prop where
  b0 : W.heap[w.heap.size]? = some (.cells #[v, .int .i64 hand] 29 (0, 0))
  b1 : W.heap[w.heap.size + 1]? = some (.cells #[.slice none 0 0, .int .i64 0] 29 (0, 0))
  hb : Below w.heap.size w W
theorem Lay2.next {w W W' : World} {v : Value} {hand : Int} (h : Lay2 w W v hand) (hb : Below W.heap.size W W') : Lay2 w W' v hand :=
  ⟨(hb.block _ (blk_lt h.b0)).trans h.b0, (hb.block _ (blk_lt h.b1)).trans h.b1, h.hb.trans (hb.mono h.hb.size)⟩
theorem lay2 (w W : World) (v : Value) (hand : Int) (hW : (w.alloc (.cells #[v, .int .i64 hand] 29)).alloc (.cells #[.slice none 0 0, .int .i64 0] 29) = W) : Lay2 w W v hand := by
  subst hW
  refine ⟨blk_alloc (heap_alloc_new _ _) _, ?_, ((Below.refl _ _).alloc (Nat.le_refl _) _).alloc (by simp) _⟩
  have := heap_alloc_new (w.alloc (.cells #[v, .int .i64 hand] 29)) (.cells #[.slice none 0 0, .int .i64 0] 29)
  rwa [World.size_alloc] at this
theorem refNew_any (n : Nat) (hr : 1 ≤ n ∧ n ≤ 65536) (w : World) : Calls Tryd.prog 8 #[.int .i64 n] w (WithDid (List.replicate n false) 0 w) := by
  have n2 : (n : Int) ≤ 65536 := by omega
  have HN := Lib.hid hr
  clear hr
  go_enter Tryd.func8, Tryd.ntmps8
  go_upto_region 1 with fail
  obtain ⟨w1, hw1⟩ : ∃ w1, w.alloc (.cells #[.slice none 0 0, .int .i64 0] 29) = w1 := ⟨_, rfl⟩
  have b0 : w1.heap[w.heap.size]? = some (.cells #[.slice none 0 0, .int .i64 0] 29 (0, 0)) := by rw [← hw1]; exact heap_alloc_new _ _
  have hz : w1.heap.size = w.heap.size + 1 := by rw [← hw1]; simp
  have HB : Hid (Below w.heap.size w w1) := by rw [← hw1]; exact (Below.refl _ _).alloc (Nat.le_refl _) _
  rw [show w.alloc (.cells #[.slice none 0 0, .int .i64 0] 29) = w1 from hw1]
  clear hw1
  have hmk := makeBools n (by have := HN.out.2; omega) w1
  obtain ⟨w2, hw2⟩ : ∃ w2, w1.alloc (.cells (bools (List.replicate n false)).toArray 4) = w2 := ⟨_, rfl⟩
  rw [hw2] at hmk
  have b1 := blk_alloc b0 (.cells (bools (List.replicate n false)).toArray 4)
  have r1 := BoolsBlk.new w1 (List.replicate n false)
  have HB2 : Hid (Below w.heap.size w w2) := by rw [← hw2]; exact HB.out.alloc (by omega) _
  rw [hw2] at b1 r1
  clear hw2
  have y0 : w2.cell? ⟨w.heap.size, 0, none⟩ = some (.slice none 0 0) := blk_cell b1 0
  have y1 : w2.cell? ⟨w.heap.size, 1, none⟩ = some (.int .i64 0) := blk_cell b1 1
  have h0 := blk_frozen b1 0
  have h1 := blk_frozen b1 1
  have t0 := blk_set (blk_set b1 0 (.slice (some ⟨w1.heap.size, 0, none⟩) n n)) 1 (.int .i64 0)
  simp only [List.setIfInBounds_toArray, List.set_cons_zero, List.set_cons_succ] at t0
  have r2 : BoolsBlk _ _ _ := (Below.heap_setCell (w2.setCell ⟨w.heap.size, 0, none⟩ (.slice (some ⟨w1.heap.size, 0, none⟩) n n)) ⟨w.heap.size, 1, none⟩ (.int .i64 0) w1.heap.size (by simp; omega)).trans ((Below.heap_setCell w2 ⟨w.heap.size, 0, none⟩ (.slice (some ⟨w1.heap.size, 0, none⟩) n n) w1.heap.size (by simp; omega)).trans r1)
  have r3 := BoolsAt.of_blk r2
  rw [List.length_replicate] at r3
  have tb := (HB2.out.setCell (p := ⟨w.heap.size, 0, none⟩) (Nat.le_refl _) (.slice (some ⟨w1.heap.size, 0, none⟩) n n)).setCell (p := ⟨w.heap.size, 1, none⟩) (Nat.le_refl _) (.int .i64 0)
  have HT0 := Lib.hid t0
  have HR := Lib.hid r3
  have HTB := Lib.hid tb
  clear hz b0 b1 r1 r2 r3 t0 tb
  go_wp2
  refine bodyPost_ret (results_cell_row rfl _ _ w.heap.size 29 #[.slice (some ⟨w1.heap.size, 0, none⟩) n n, .int .i64 0] (0, 0) _ rfl HT0.out Tryd.underlying29 rfl (by kernel_rfl)) rfl ?_
  exact ⟨_, rfl, HR.out, HTB.out⟩
set_option maxHeartbeats 1000000 in
theorem refHas_any {w : World} {v : Value} {l : List Bool} {s : BSet} (h : BoolsAt w.heap.size w v l) (hu : UsedIs s.n s l) (hand i : Int) :
    Calls Tryd.prog 14 #[.agg #[v, .int .i64 hand], .int .i64 i] w fun e w' => e = .returned (.bool (s.hasB i)) ∧ Below w.heap.size w w' := by
  obtain ⟨a, c, rfl⟩ := h.slice
  have hle := hu.ok.n2
  have hlen : l.length = s.n := hu.len
  rw [hlen] at h ⊢
  have n2 : (s.n : Int) ≤ 65536 := by omega
  obtain ⟨w1, hw1⟩ : ∃ w1, w.alloc (.cells #[.slice a s.n c, .int .i64 hand] 29) = w1 := ⟨_, rfl⟩
  have b0 : w1.heap[w.heap.size]? = some (.cells #[.slice a s.n c, .int .i64 hand] 29 (0, 0)) := by rw [← hw1]; exact heap_alloc_new _ _
  have hb1 : Below w.heap.size w w1 := by rw [← hw1]; exact (Below.refl _ _).alloc (Nat.le_refl _) _
  have c0 : w1.cell? ⟨w.heap.size, 0, none⟩ = some (.slice a s.n c) := blk_cell b0 0
  have HB := Lib.hid hb1
  have HW1 := Lib.hid hw1
  by_cases hlo : i < 0
  · have e : s.hasB i = false := by unfold BSet.hasB inB; rw [decide_eq_false (by omega)]; rfl
    rw [e]
    clear e h hu b0 hb1 hw1 hlen hle
    go_enter Tryd.func14, Tryd.ntmps14
    go_upto_region 1 with fail
    rw [HW1.out]
    clear HW1
    go_wp2
    go_ret
    exact ⟨rfl, HB.out⟩
  have i0 : 0 ≤ i := by omega
  by_cases hhi : (s.n : Int) ≤ i
  · have e : s.hasB i = false := by unfold BSet.hasB inB; rw [decide_eq_false (by omega)]; rfl
    rw [e]
    clear e h hu b0 hb1 hw1 hlen hle hlo
    go_enter Tryd.func14, Tryd.ntmps14
    go_upto_region 1 with fail
    rw [HW1.out]
    clear HW1
    go_wp2
    go_ret
    exact ⟨rfl, HB.out⟩
  obtain ⟨k, rfl⟩ := Int.eq_ofNat_of_zero_le i0
  have hk : k < s.n := by omega
  have k1 : (k : Int) < s.n := by omega
  have e : s.hasB (k : Int) = s.has k := by unfold BSet.hasB inB; rw [decide_eq_true (by omega)]; simp
  rw [e]
  rw [← hlen] at h
  obtain ⟨g, off, rfl, hg, q⟩ := (h.below hb1).get (i := k) (by omega)
  rw [hu.eq k hk] at q
  generalize s.has k = x at q
  clear e h hu b0 hb1 hw1 hlen hle hlo i0 hhi hg hk
  go_enter Tryd.func14, Tryd.ntmps14
  go_upto_region 1 with fail
  rw [HW1.out]
  clear HW1
  go_wp2
  go_ret
  exact ⟨rfl, HB.out⟩
end Go.Proofs.YtpljbjceokoeiaaDoor

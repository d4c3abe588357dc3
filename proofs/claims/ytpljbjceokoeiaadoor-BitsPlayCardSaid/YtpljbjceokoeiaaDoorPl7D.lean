/-
  The document's own set of numbers: Take.
  Conditions: none.
-/
import Derived.Test.YtpljbjceokoeiaaDoorPl7C
import Derived.Test.YtpljbjceokoeiaaDoorPl7T
namespace Go.Proofs.YtpljbjceokoeiaaDoor
open Go.RowKit

theorem refTake_res (w : World) (g : Nat) (v : Value) (hand b : Int) (tmps : Array Value) (h4 : tmps.getD 2 undef = .pointer (some ⟨g, 0, none⟩)) (h5 : tmps.getD 3 undef = .int .i64 b) (hg : w.heap[g]? = some (.cells (bsC v hand) 29 (0, 0))) :
    (results Tryd.f17 tmps).run Tryd.prog w = .ok (.tuple #[.agg #[v, .int .i64 hand], .int .i64 b]) w := by
  have h4' : tmps[2]?.getD undef = .pointer (some ⟨g, 0, none⟩) := by simpa using h4
  have h5' : tmps[3]?.getD undef = .int .i64 b := by simpa using h5
  simp [results, Tryd.results17, h4', h5', asAddr, run_loadVar_row w g 29 29 (bsC v hand) (0, 0) _ hg Tryd.underlying29 rfl (bsC_sz v hand)]
  rfl
/-- What Take of the document's leaves. -/
def RefTook (s : BSet) (w : World) (e : Ending) (w' : World) : Prop := ∃ v l, e = .returned (.tuple #[.agg #[v, .int .i64 s.take.hand], .int .i64 (takeI s)]) ∧ BoolsAt w'.heap.size w' v l ∧ UsedIs s.take.n s.take l ∧ Below w.heap.size w w'
set_option maxHeartbeats 4000000 in
theorem refTake_any {w : World} {v : Value} {l : List Bool} {s : BSet} (h : BoolsAt w.heap.size w v l) (hu : UsedIs s.n s l) :
    Calls Tryd.prog 17 #[.agg #[v, .int .i64 s.hand]] w (RefTook s w) := by
  obtain ⟨a, c, rfl⟩ := h.slice
  have hle := hu.ok.n2
  have hn1 := hu.ok.n1
  have hhd := hu.ok.hand
  have hlen : l.length = s.n := hu.len
  have HLE := Lib.hid hlen
  rw [hlen] at h
  obtain ⟨w1, hw1⟩ : ∃ w1, (w.alloc (.cells #[.slice a s.n c, .int .i64 s.hand] 29)).alloc (.cells #[.slice none 0 0, .int .i64 0] 29) = w1 := ⟨_, rfl⟩
  have L := lay2 w w1 _ _ hw1
  have HP := Lib.hid (h.next L.hb)
  have HW1 := Lib.hid hw1
  have c0 : w1.cell? ⟨w.heap.size, 0, none⟩ = some (.slice a s.n c) := blk_cell L.b0 0
  have c1 : w1.cell? ⟨w.heap.size, 1, none⟩ = some (.int .i64 s.hand) := blk_cell L.b0 1
  have HL := Lib.hid L
  have HU := Lib.hid hu
  have n2 : (s.n : Int) ≤ 65536 := by omega
  have n1 : (1 : Int) ≤ s.n := by omega
  have d1 : (s.hand : Int) < s.n := by omega
  rw [hlen]
  clear h L hw1 hlen hu hhd hn1
  go_enter Tryd.func17, Tryd.ntmps17
  go_upto_region 1 with fail
  change (Code.region _ _ _).wp _ _ _ ((w.alloc (.cells #[.slice a s.n c, .int .i64 s.hand] 29)).alloc (.cells #[.slice none 0 0, .int .i64 0] 29))
  rw [HW1.out]
  clear HW1
  go_wp2
  go_loopw [4] (fun kv wr => ∃ k : Nat, k ≤ s.n ∧ kv = .int .i64 k ∧ w1 = wr ∧ Hid (∀ j, j < k → s.has ((s.hand + j) % s.n) = true)) (fun kv _ => s.n - (intOf kv).toNat)
  case atStart => exact ⟨0, Nat.zero_le _, rfl, rfl, fun j hj => by omega⟩
  case round =>
    obtain ⟨k, hk, rfl, rfl, hall⟩ := hrel
    by_cases hlt : k < s.n
    · have k1 : (k : Int) < s.n := by omega
      have hq : ((s.hand : Int) + (k : Int)) % (s.n : Int) = (((s.hand + k) % s.n : Nat) : Int) := by push_cast; rfl
      have hql : (s.hand + k) % s.n < s.n := Nat.mod_lt _ (by omega)
      have HQD : Hid ((s.hand + k) % s.n = (s.hand + k) % s.n) := rfl
      have hnx := fun h2 => next_at HU.out.ok hlt hall.out h2
      have hst : s.has ((s.hand + k) % s.n) = true → ∀ j, j < k + 1 → s.has ((s.hand + j) % s.n) = true := fun h2 j hj => by
        by_cases e : j = k
        · subst e; exact h2
        · exact hall.out j (by omega)
      generalize (s.hand + k) % s.n = q at hq hql hnx hst HQD
      have HP0 := HP.out
      rw [← HLE.out] at HP0
      obtain ⟨g, off, rfl, hg, qc⟩ := HP0.get (i := q) (by have := HLE.out; omega)
      rw [HU.out.eq q hql] at qc
      have q1 : (q : Int) < s.n := by omega
      cases hx : s.has q with
      | true =>
        rw [hx] at qc
        have HST := Lib.hid (hst hx)
        clear hnx hst hx hg hql HP0 hall
        go_wp2
        go_roundw
        case rel => exact ⟨k + 1, by omega, by go_num, trivial, HST.out⟩
        case measure => simp [intOf]; omega
      | false =>
        rw [hx] at qc
        obtain rfl := hnx hx
        have HQ := Lib.hid hql
        have HTK := Lib.hid (HU.out.takes hql)
        have HTN : Hid (s.take.hand = (s.next + 1) % s.n) := by unfold Hid BSet.take; rw [if_pos hql]
        have HTI : Hid (takeI s = s.next) := by unfold Hid takeI; rw [if_pos hql]
        have HWA : Hid (∀ W, BoolsAt W.heap.size W (.slice (some ⟨g, off, none⟩) s.n c) l → Calls Tryd.prog 22 #[.agg #[.slice (some ⟨g, off, none⟩) s.n c, .int .i64 s.hand], .int .i64 s.next, .bool true] W (WithDid (l.set s.next true) s.hand W)) := fun W hW => by
          rw [← HLE.out] at hW ⊢
          exact with_any hW (by have := HLE.out; omega) s.hand (i := s.next) (by have := HLE.out; have := HQ.out; omega) true
        have hq2 : ((s.next : Int) + 1) % (s.n : Int) = (((s.next + 1) % s.n : Nat) : Int) := by push_cast; rfl
        generalize (s.next + 1) % s.n = q2 at hq2 HTN
        clear hnx hst hx hg hql HP0 hall
        go_upto_region 7 with (first
          | (go_at_call 22; (with_reducible refine (HWA.out _ HP.out).mono ?_); rintro e w3 ⟨v3, rfl, h3, hb3⟩; obtain ⟨a3, c3, e3⟩ := h3.slice; rw [List.length_set, HLE.out] at e3; subst e3; have H3 := Lib.hid h3; have HL3 := Lib.hid (HL.out.next hb3); clear h3 hb3)
          | (refine wpList_store_row (o := ⟨none, _, _, _, _, _⟩) rfl 29 (.tmp 1) (.tmp 29) rfl w.heap.size (bsC (.slice a3 s.n c3) s.hand) rfl rfl 29 (bsC (.slice (some ⟨g, off, none⟩) s.n c) s.hand) HL3.out.b0 (bsC_sz _ _) rfl ?_ ?_; exact bsC_one _ _ _ _))
        change (Code.region _ _ _).wp _ _ _ (w3.setRow w.heap.size (bsC (.slice a3 s.n c3) s.hand))
        have B0 := setRow_heap w3 w.heap.size _ (bsC (.slice a3 s.n c3) s.hand) _ _ HL3.out.b0
        have B1 := (setRow_other w3 w.heap.size (w.heap.size + 1) (bsC (.slice a3 s.n c3) s.hand) (by omega)).trans HL3.out.b1
        have R0 := (H3.out.setRow HL3.out.b0 (bsC (.slice a3 s.n c3) s.hand)).mono (m := (w3.setRow w.heap.size (bsC (.slice a3 s.n c3) s.hand)).heap.size) (by simp)
        have D0 := below_setRow HL3.out.hb (Nat.le_refl _) (bsC (.slice a3 s.n c3) s.hand)
        generalize w3.setRow w.heap.size (bsC (.slice a3 s.n c3) s.hand) = w4 at B0 B1 R0 D0 ⊢
        have e0 : w4.cell? ⟨w.heap.size, 0, none⟩ = some (.slice a3 s.n c3) := blk_cell B0 0
        have e1 : w4.cell? ⟨w.heap.size, 1, none⟩ = some (.int .i64 s.hand) := blk_cell B0 1
        have f1 := blk_frozen B0 1
        have HB0 := Lib.hid B0
        have HB1 := Lib.hid B1
        have HR0 := Lib.hid R0
        have HD0 := Lib.hid D0
        clear B0 B1 R0 D0 c0 c1 qc HP HL
        go_upto_region 8 with fail
        have B0 := blk_set HB0.out 1 (.int .i64 q2)
        have B1 := (Below.heap_setCell w4 ⟨w.heap.size, 1, none⟩ (.int .i64 q2) (w.heap.size + 1) (by simp)).trans HB1.out
        have R0 : BoolsAt (w4.setCell ⟨w.heap.size, 1, none⟩ (.int .i64 q2)).heap.size (w4.setCell ⟨w.heap.size, 1, none⟩ (.int .i64 q2)) (.slice a3 s.n c3) (l.set s.next true) := HR0.out.keep (by simp [World.setCell]) fun g' hg' => Below.heap_setCell w4 ⟨w.heap.size, 1, none⟩ (.int .i64 q2) g' (by
          rintro rfl
          obtain ⟨_, cs2, cur, e⟩ := hg'
          have := HB0.out
          rw [this] at e
          simp at e)
        have D0 := HD0.out.setCell (p := ⟨w.heap.size, 1, none⟩) (Nat.le_refl _) (.int .i64 q2)
        change (Code.region _ _ _).wp _ _ _ (w4.setCell ⟨w.heap.size, 1, none⟩ (.int .i64 q2))
        generalize w4.setCell ⟨w.heap.size, 1, none⟩ (.int .i64 q2) = w5 at B0 B1 R0 D0 ⊢
        simp only [bsC, List.setIfInBounds_toArray, List.set_cons_zero, List.set_cons_succ] at B0
        have x0 : w5.cell? ⟨w.heap.size, 0, none⟩ = some (.slice a3 s.n c3) := blk_cell B0 0
        have x1 : w5.cell? ⟨w.heap.size, 1, none⟩ = some (.int .i64 q2) := blk_cell B0 1
        have HC1 := Lib.hid B1
        have HC2 := Lib.hid R0
        have HC3 := Lib.hid D0
        clear B0 B1 R0 D0 e0 e1 f1
        go_wp2_with (refine wpList_store_row (o := ⟨none, _, _, _, _, _⟩) rfl 29 (.tmp 2) (.tmp 37) rfl (w.heap.size + 1) (bsC (.slice a3 s.n c3) q2) rfl rfl 29 (bsC (.slice none 0 0) 0) HC1.out (bsC_sz _ _) rfl ?_ ?_; exact bsC_one _ _ _ _)
        refine bodyPost_ret (refTake_res _ (w.heap.size + 1) _ _ _ _ rfl rfl (setRow_heap w5 (w.heap.size + 1) _ (bsC (.slice a3 s.n c3) q2) _ _ HC1.out)) rfl ⟨.slice a3 s.n c3, _, by rw [HTN.out, HTI.out], (HC2.out.setRow HC1.out _).mono (by simp), HTK.out, below_setRow HC3.out (by omega) _⟩
    · obtain rfl : k = s.n := by omega
      have hnn := next_none HU.out.ok hall.out
      have e1 : s.take = s := by unfold BSet.take; rw [if_neg (by omega)]
      have e2 : takeI s = -1 := by unfold takeI; rw [if_neg (by omega)]
      have HE1 := Lib.hid e1
      have HE2 := Lib.hid e2
      clear hall hnn e1 e2
      go_wp2_with (refine wpList_store_row (o := ⟨none, _, _, _, _, _⟩) rfl 29 (.tmp 2) (.tmp 39) rfl (w.heap.size + 1) (bsC (.slice a s.n c) s.hand) rfl rfl 29 (bsC (.slice none 0 0) 0) HL.out.b1 (bsC_sz _ _) rfl ?_ ?_; exact bsC_one _ _ _ _)
      refine bodyPost_ret (refTake_res _ (w.heap.size + 1) _ _ _ _ rfl rfl (setRow_heap w1 (w.heap.size + 1) _ (bsC (.slice a s.n c) s.hand) _ _ HL.out.b1)) rfl ⟨.slice a s.n c, l, by rw [HE1.out, HE2.out], (HP.out.setRow HL.out.b1 _).mono (by simp), by rw [HE1.out]; exact HU.out, below_setRow HL.out.hb (by omega) _⟩
end Go.Proofs.YtpljbjceokoeiaaDoor

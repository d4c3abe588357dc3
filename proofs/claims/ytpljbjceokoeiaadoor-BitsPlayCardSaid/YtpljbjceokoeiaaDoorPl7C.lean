/-
  The document's own set of numbers: Mark, Clear.
  Conditions: none.
-/
import Derived.Test.YtpljbjceokoeiaaDoorPl7B
import Derived.Laws.CopyOwn
namespace Go.Proofs.YtpljbjceokoeiaaDoor
open Go.RowKit

theorem UsedIs.cleared {s : BSet} {L : List Bool} (h : UsedIs s.n s L) {i : Nat} (hi : i < s.n) : UsedIs (s.clear i).n (s.clear i) (L.set i false) := by
  have ho := ok_clear h.ok hi
  refine ⟨rfl, ho, by rw [List.length_set]; exact h.len, fun k hk => ?_⟩
  rw [has_clear s i k (h.ok.div hi), ← h.eq k hk, List.getElem?_set]
  by_cases e : i = k
  · subst e
    have : i < L.length := by rw [h.len]; exact hi
    simp [this]
  · have e' : ¬ k = i := fun h => e h.symm
    simp [e, e']
theorem refMark_res (w : World) (g : Nat) (v : Value) (hand : Int) (b : Bool) (tmps : Array Value) (h4 : tmps.getD 4 undef = .pointer (some ⟨g, 0, none⟩)) (h5 : tmps.getD 5 undef = .bool b) (hg : w.heap[g]? = some (.cells (bsC v hand) 29 (0, 0))) :
    (results Tryd.f9 tmps).run Tryd.prog w = .ok (.tuple #[.agg #[v, .int .i64 hand], .bool b]) w := by
  have h4' : tmps[4]?.getD undef = .pointer (some ⟨g, 0, none⟩) := by simpa using h4
  have h5' : tmps[5]?.getD undef = .bool b := by simpa using h5
  simp [results, Tryd.results9, h4', h5', asAddr, run_loadVar_row w g 29 29 (bsC v hand) (0, 0) _ hg Tryd.underlying29 rfl (bsC_sz v hand)]
  rfl
theorem refClear_res (w : World) (g : Nat) (v : Value) (hand : Int) (b : Bool) (tmps : Array Value) (h4 : tmps.getD 4 undef = .pointer (some ⟨g, 0, none⟩)) (h5 : tmps.getD 5 undef = .bool b) (hg : w.heap[g]? = some (.cells (bsC v hand) 29 (0, 0))) :
    (results Tryd.f11 tmps).run Tryd.prog w = .ok (.tuple #[.agg #[v, .int .i64 hand], .bool b]) w := by
  have h4' : tmps[4]?.getD undef = .pointer (some ⟨g, 0, none⟩) := by simpa using h4
  have h5' : tmps[5]?.getD undef = .bool b := by simpa using h5
  simp [results, Tryd.results11, h4', h5', asAddr, run_loadVar_row w g 29 29 (bsC v hand) (0, 0) _ hg Tryd.underlying29 rfl (bsC_sz v hand)]
  rfl
set_option maxHeartbeats 16000000 in
theorem refMark_any {w : World} {v : Value} {l : List Bool} {s : BSet} (h : BoolsAt w.heap.size w v l) (hu : UsedIs s.n s l) (i : Int) :
    Calls Tryd.prog 9 #[.agg #[v, .int .i64 s.hand], .int .i64 i] w (RefDid (s.markI i) (.bool (s.freeB i)) w) := by
  obtain ⟨a, c, rfl⟩ := h.slice
  have hle := hu.ok.n2
  have hlen : l.length = s.n := hu.len
  rw [hlen] at h ⊢
  have n2 : (s.n : Int) ≤ 65536 := by omega
  obtain ⟨w1, hw1⟩ : ∃ w1, (w.alloc (.cells #[.slice a s.n c, .int .i64 s.hand] 29)).alloc (.cells #[.slice none 0 0, .int .i64 0] 29) = w1 := ⟨_, rfl⟩
  have L := lay2 w w1 _ _ hw1
  have hP := h.next L.hb
  have c0 : w1.cell? ⟨w.heap.size, 0, none⟩ = some (.slice a s.n c) := blk_cell L.b0 0
  have c1 : w1.cell? ⟨w.heap.size, 1, none⟩ = some (.int .i64 s.hand) := blk_cell L.b0 1
  have HP := Lib.hid hP
  have HL := Lib.hid L
  have HW1 := Lib.hid hw1
  have HU := Lib.hid hu
  have hno : s.freeB i = false → RefDid (s.markI i) (.bool (s.freeB i)) w (.returned (.tuple #[.agg #[.slice a s.n c, .int .i64 s.hand], .bool false])) (w1.setRow (w.heap.size + 1) (bsC (.slice a s.n c) s.hand)) := fun e => by
    have e2 : s.markI i = s := by unfold BSet.markI; rw [if_neg (by simp [e])]
    rw [e, e2]
    exact ⟨_, l, rfl, (HP.out.setRow HL.out.b1 _).mono (by simp), HU.out, below_setRow HL.out.hb (by omega) _⟩
  have HNO := Lib.hid hno
  clear hno hP L hw1
  by_cases hlo : i < 0
  · have e : s.freeB i = false := by unfold BSet.freeB inB; rw [decide_eq_false (by omega)]; rfl
    have HD := Lib.hid (HNO.out e)
    clear e h hu hlen hle HNO
    go_enter Tryd.func9, Tryd.ntmps9
    go_upto_region 1 with fail
    change (Code.region _ _ _).wp _ _ _ ((w.alloc (.cells #[.slice a s.n c, .int .i64 s.hand] 29)).alloc (.cells #[.slice none 0 0, .int .i64 0] 29))
    rw [HW1.out]
    clear HW1
    go_wp2_with (refine wpList_store_row (o := ⟨none, _, _, _, _, _⟩) rfl 29 (.tmp 4) (.tmp 22) rfl (w.heap.size + 1) (bsC (.slice a s.n c) s.hand) rfl rfl 29 (bsC (.slice none 0 0) 0) HL.out.b1 (bsC_sz _ _) rfl ?_ ?_; exact bsC_one _ _ _ _)
    exact bodyPost_ret (refMark_res _ (w.heap.size + 1) _ _ _ _ rfl rfl (setRow_heap _ _ _ _ _ _ HL.out.b1)) rfl HD.out
  have i0 : 0 ≤ i := by omega
  by_cases hhi : (s.n : Int) ≤ i
  · have e : s.freeB i = false := by unfold BSet.freeB inB; rw [decide_eq_false (by omega)]; rfl
    have HD := Lib.hid (HNO.out e)
    clear e h hu hlen hle HNO hlo
    go_enter Tryd.func9, Tryd.ntmps9
    go_upto_region 1 with fail
    change (Code.region _ _ _).wp _ _ _ ((w.alloc (.cells #[.slice a s.n c, .int .i64 s.hand] 29)).alloc (.cells #[.slice none 0 0, .int .i64 0] 29))
    rw [HW1.out]
    clear HW1
    go_wp2_with (refine wpList_store_row (o := ⟨none, _, _, _, _, _⟩) rfl 29 (.tmp 4) (.tmp 22) rfl (w.heap.size + 1) (bsC (.slice a s.n c) s.hand) rfl rfl 29 (bsC (.slice none 0 0) 0) HL.out.b1 (bsC_sz _ _) rfl ?_ ?_; exact bsC_one _ _ _ _)
    exact bodyPost_ret (refMark_res _ (w.heap.size + 1) _ _ _ _ rfl rfl (setRow_heap _ _ _ _ _ _ HL.out.b1)) rfl HD.out
  obtain ⟨k, rfl⟩ := Int.eq_ofNat_of_zero_le i0
  have hk : k < s.n := by omega
  have k1 : (k : Int) < s.n := by omega
  have ef : s.freeB (k : Int) = !s.has k := by unfold BSet.freeB inB; rw [decide_eq_true (by omega)]; simp
  have hb1 := HL.out.hb
  rw [← hlen] at h
  obtain ⟨g, off, rfl, hg, q⟩ := (h.below hb1).get (i := k) (by omega)
  rw [hu.eq k hk] at q
  cases hx : s.has k with
  | true =>
    rw [hx] at q
    have HD := Lib.hid (HNO.out (by rw [ef, hx]; rfl))
    clear h hu hlen hle HNO hlo i0 hhi hg hk hb1 hx ef
    go_enter Tryd.func9, Tryd.ntmps9
    go_upto_region 1 with fail
    change (Code.region _ _ _).wp _ _ _ ((w.alloc (.cells #[.slice (some ⟨g, off, none⟩) s.n c, .int .i64 s.hand] 29)).alloc (.cells #[.slice none 0 0, .int .i64 0] 29))
    rw [HW1.out]
    clear HW1
    go_wp2_with (refine wpList_store_row (o := ⟨none, _, _, _, _, _⟩) rfl 29 (.tmp 4) (.tmp 22) rfl (w.heap.size + 1) (bsC (.slice (some ⟨g, off, none⟩) s.n c) s.hand) rfl rfl 29 (bsC (.slice none 0 0) 0) HL.out.b1 (bsC_sz _ _) rfl ?_ ?_; exact bsC_one _ _ _ _)
    exact bodyPost_ret (refMark_res _ (w.heap.size + 1) _ _ _ _ rfl rfl (setRow_heap _ _ _ _ _ _ HL.out.b1)) rfl HD.out
  | false =>
    rw [hx] at q
    have hfree : s.freeB (k : Int) = true := by rw [ef, hx]; rfl
    have em : s.markI (k : Int) = s.mark k := by unfold BSet.markI; rw [if_pos hfree]; rfl
    have hum : UsedIs (s.mark k).n (s.mark k) (l.set k true) := hu.mark hk s.hand hu.ok.hand
    rw [hfree, em]
    have HUM := Lib.hid hum
    have HLE := Lib.hid hlen
    have HWA : Hid (∀ W, BoolsAt W.heap.size W (.slice (some ⟨g, off, none⟩) s.n c) l → Calls Tryd.prog 22 #[.agg #[.slice (some ⟨g, off, none⟩) s.n c, .int .i64 s.hand], .int .i64 k, .bool true] W (WithDid (l.set k true) s.hand W)) := fun W hW => by
      rw [← HLE.out] at hW ⊢
      exact with_any hW (by have := HLE.out; omega) s.hand (i := k) (by have := HLE.out; omega) true
    clear h hu hlen hle HNO hlo i0 hhi hg hk hb1 hx ef hfree em hum
    go_enter Tryd.func9, Tryd.ntmps9
    go_upto_region 1 with fail
    change (Code.region _ _ _).wp _ _ _ ((w.alloc (.cells #[.slice (some ⟨g, off, none⟩) s.n c, .int .i64 s.hand] 29)).alloc (.cells #[.slice none 0 0, .int .i64 0] 29))
    rw [HW1.out]
    clear HW1
    go_wp2_with (first
      | (go_at_call 22; (with_reducible refine (HWA.out _ HP.out).mono ?_); rintro e w3 ⟨v3, rfl, h3, hb3⟩; obtain ⟨a3, c3, e3⟩ := h3.slice; rw [List.length_set, HLE.out] at e3; subst e3; have H3 := Lib.hid h3; have HL3 := Lib.hid (HL.out.next hb3); clear h3 hb3 HL)
      | (refine wpList_store_row (o := ⟨none, _, _, _, _, _⟩) rfl 29 (.tmp 4) (.tmp 25) rfl (w.heap.size + 1) (bsC (.slice a3 s.n c3) s.hand) rfl rfl 29 (bsC (.slice none 0 0) 0) HL3.out.b1 (bsC_sz _ _) rfl ?_ ?_; exact bsC_one _ _ _ _))
    refine bodyPost_ret (refMark_res _ (w.heap.size + 1) _ _ _ _ rfl rfl (setRow_heap _ _ _ _ _ _ HL3.out.b1)) rfl ⟨_, _, rfl, ?_, HUM.out, below_setRow HL3.out.hb (by omega) _⟩
    exact (H3.out.setRow HL3.out.b1 _).mono (by simp)
set_option maxHeartbeats 16000000 in
theorem refClear_any {w : World} {v : Value} {l : List Bool} {s : BSet} (h : BoolsAt w.heap.size w v l) (hu : UsedIs s.n s l) (i : Int) :
    Calls Tryd.prog 11 #[.agg #[v, .int .i64 s.hand], .int .i64 i] w (RefDid (s.clearI i) (.bool (s.hasB i)) w) := by
  obtain ⟨a, c, rfl⟩ := h.slice
  have hle := hu.ok.n2
  have hlen : l.length = s.n := hu.len
  have HLE := Lib.hid hlen
  obtain ⟨w1, hw1⟩ : ∃ w1, (w.alloc (.cells #[.slice a s.n c, .int .i64 s.hand] 29)).alloc (.cells #[.slice none 0 0, .int .i64 0] 29) = w1 := ⟨_, rfl⟩
  have L := lay2 w w1 _ _ hw1
  have hP := h.next L.hb
  have HH := Lib.hid (refHas_any hP hu s.hand i)
  have c0 : w1.cell? ⟨w.heap.size, 0, none⟩ = some (.slice a s.n c) := blk_cell L.b0 0
  have c1 : w1.cell? ⟨w.heap.size, 1, none⟩ = some (.int .i64 s.hand) := blk_cell L.b0 1
  have HP := Lib.hid hP
  have HL := Lib.hid L
  have HW1 := Lib.hid hw1
  have HU := Lib.hid hu
  rw [hlen] at HH ⊢
  clear h L hw1 hP hlen
  cases hx : s.hasB i with
  | false =>
    have e2 : s.clearI i = s := by unfold BSet.clearI; rw [if_neg (by simp [hx])]
    rw [hx] at HH
    rw [e2]
    clear hu hle hx e2
    go_enter Tryd.func11, Tryd.ntmps11
    go_upto_region 1 with fail
    change (Code.region _ _ _).wp _ _ _ ((w.alloc (.cells #[.slice a s.n c, .int .i64 s.hand] 29)).alloc (.cells #[.slice none 0 0, .int .i64 0] 29))
    rw [HW1.out]
    clear HW1
    go_wp2_with (first
      | (go_at_call 14; (with_reducible refine HH.out.mono ?_); rintro e w2 ⟨rfl, hb2⟩; have L2 := HL.out.next hb2; have HL2 := Lib.hid L2; have HP2 := Lib.hid (HP.out.next hb2); have d0 : w2.cell? ⟨w.heap.size, 0, none⟩ = some (.slice a s.n c) := blk_cell L2.b0 0; have d1 : w2.cell? ⟨w.heap.size, 1, none⟩ = some (.int .i64 s.hand) := blk_cell L2.b0 1; clear hb2 L2 c0 c1 HL HP HH)
      | (refine wpList_store_row (o := ⟨none, _, _, _, _, _⟩) rfl 29 (.tmp 4) (.tmp 10) rfl (w.heap.size + 1) (bsC (.slice a s.n c) s.hand) rfl rfl 29 (bsC (.slice none 0 0) 0) HL2.out.b1 (bsC_sz _ _) rfl ?_ ?_; exact bsC_one _ _ _ _))
    refine bodyPost_ret (refClear_res _ (w.heap.size + 1) _ _ _ _ rfl rfl (setRow_heap _ _ _ _ _ _ HL2.out.b1)) rfl ⟨_, l, rfl, ?_, HU.out, below_setRow HL2.out.hb (by omega) _⟩
    have := (HP2.out.setRow HL2.out.b1 (bsC (.slice a s.n c) s.hand)).mono (m := (w2.setRow (w.heap.size + 1) (bsC (.slice a s.n c) s.hand)).heap.size) (by simp)
    rwa [HLE.out] at this
  | true =>
    have hx0 := hx
    unfold BSet.hasB inB at hx0
    rw [Bool.and_eq_true] at hx0
    have hin : 0 ≤ i ∧ i < s.n := by simpa using hx0.1
    obtain ⟨k, rfl⟩ := Int.eq_ofNat_of_zero_le hin.1
    have hk : k < s.n := by omega
    have e2 : s.clearI (k : Int) = s.clear k := by unfold BSet.clearI; rw [if_pos hx]; rfl
    have HUM := Lib.hid (hu.cleared hk)
    have HWA : Hid (∀ W, BoolsAt W.heap.size W (.slice a l.length c) l → Calls Tryd.prog 22 #[.agg #[.slice a l.length c, .int .i64 s.hand], .int .i64 k, .bool false] W (WithDid (l.set k false) s.hand W)) := fun W hW => with_any hW (by have := HLE.out; omega) s.hand (i := k) (by have := HLE.out; omega) false
    rw [HLE.out] at HWA HP
    rw [hx] at HH
    rw [e2]
    have k1 : (k : Int) < s.n := by omega
    have n2 : (s.n : Int) ≤ 65536 := by omega
    clear hu hle hx e2 hx0 hin hk
    go_enter Tryd.func11, Tryd.ntmps11
    go_upto_region 1 with fail
    change (Code.region _ _ _).wp _ _ _ ((w.alloc (.cells #[.slice a s.n c, .int .i64 s.hand] 29)).alloc (.cells #[.slice none 0 0, .int .i64 0] 29))
    rw [HW1.out]
    clear HW1
    go_wp2_with (first
      | (go_at_call 14; (with_reducible refine HH.out.mono ?_); rintro e w2 ⟨rfl, hb2⟩; have L2 := HL.out.next hb2; have HL2 := Lib.hid L2; have HP2 := Lib.hid (HP.out.next hb2); have d0 : w2.cell? ⟨w.heap.size, 0, none⟩ = some (.slice a s.n c) := blk_cell L2.b0 0; have d1 : w2.cell? ⟨w.heap.size, 1, none⟩ = some (.int .i64 s.hand) := blk_cell L2.b0 1; clear hb2 L2 c0 c1 HL HP HH)
      | (go_at_call 22; (with_reducible refine (HWA.out _ HP2.out).mono ?_); rintro e w3 ⟨v3, rfl, h3, hb3⟩; obtain ⟨a3, c3, e3⟩ := h3.slice; rw [List.length_set, HLE.out] at e3; subst e3; have H3 := Lib.hid h3; have HL3 := Lib.hid (HL2.out.next hb3); clear h3 hb3 HL2 HWA)
      | (refine wpList_store_row (o := ⟨none, _, _, _, _, _⟩) rfl 29 (.tmp 4) (.tmp 13) rfl (w.heap.size + 1) (bsC (.slice a3 s.n c3) s.hand) rfl rfl 29 (bsC (.slice none 0 0) 0) HL3.out.b1 (bsC_sz _ _) rfl ?_ ?_; exact bsC_one _ _ _ _))
    refine bodyPost_ret (refClear_res _ (w.heap.size + 1) _ _ _ _ rfl rfl (setRow_heap _ _ _ _ _ _ HL3.out.b1)) rfl ⟨_, _, rfl, ?_, HUM.out, below_setRow HL3.out.hb (by omega) _⟩
    exact (H3.out.setRow HL3.out.b1 _).mono (by simp)
end Go.Proofs.YtpljbjceokoeiaaDoor

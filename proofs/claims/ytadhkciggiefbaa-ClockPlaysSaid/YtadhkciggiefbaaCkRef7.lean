/-
  The document's own clock: Put, where the key is there, or a place is free.
  Conditions: none.
-/
import Derived.Test.YtadhkciggiefbaaCkRef6
namespace Go.Proofs.Ytadhkciggiefbaa
open Go.RowKit

theorem refPut_res (w : World) (g z : Nat) (v : Value) (hand : Int) (f m : Bool) (key t : Int) (b : Bool) (tmps : Array Value) (h6 : tmps.getD 6 undef = .pointer (some ⟨g, 0, none⟩)) (h7 : tmps.getD 7 undef = .pointer (some ⟨z, 0, none⟩)) (h8 : tmps.getD 8 undef = .bool b)
    (hg : w.heap[g]? = some (.cells (ckC v hand) 29 (0, 0))) (hz : w.heap[z]? = some (.cells (plC f m key t) 39 (0, 0))) :
    (results Try.f13 tmps).run Try.prog w = .ok (.tuple #[.agg #[v, .int .i64 hand], .agg (plC f m key t), .bool b]) w := by
  have h6' : tmps[6]?.getD undef = .pointer (some ⟨g, 0, none⟩) := by simpa using h6
  have h7' : tmps[7]?.getD undef = .pointer (some ⟨z, 0, none⟩) := by simpa using h7
  have h8' : tmps[8]?.getD undef = .bool b := by simpa using h8
  simp [results, Try.results13, h6', h7', h8', asAddr, run_loadVar_row w g 29 29 (ckC v hand) (0, 0) _ hg Try.underlying29 rfl (ckC_sz v hand), run_loadVar_row w z 39 39 (plC f m key t) (0, 0) _ hz Try.underlying39 rfl (plC_sz f m key t)]
  rfl
/-- What a put of the document's clock leaves. -/
def PutDid (ps : List Pl) (hand : Int) (f m : Bool) (key t : Int) (b : Bool) (w : World) (e : Ending) (w' : World) : Prop := ∃ v, e = .returned (.tuple #[.agg #[v, .int .i64 hand], .agg (plC f m key t), .bool b]) ∧ PlsAt w'.heap.size w' v ps ∧ Below w.heap.size w w'
/-- Three blocks made ahead. -/
structure Lay3 (w W : World) (v : Value) (hand : Int) : Prop where
  b0 : W.heap[w.heap.size]? = some (.cells #[v, .int .i64 hand] 29 (0, 0))
  b1 : W.heap[w.heap.size + 1]? = some (.cells #[.slice none 0 0, .int .i64 0] 29 (0, 0))
  b2 : W.heap[w.heap.size + 2]? = some (.cells #[.bool false, .bool false, .int .i64 0, .int .i64 0] 39 (0, 0))
  hb : Below w.heap.size w W
theorem Lay3.next {w W W' : World} {v : Value} {hand : Int} (h : Lay3 w W v hand) (hb : Below W.heap.size W W') : Lay3 w W' v hand :=
  ⟨(hb.block _ (blk_lt h.b0)).trans h.b0, (hb.block _ (blk_lt h.b1)).trans h.b1, (hb.block _ (blk_lt h.b2)).trans h.b2, h.hb.trans (hb.mono h.hb.size)⟩
def mk3 (w : World) (v : Value) (hand : Int) : World := ((w.alloc (.cells #[v, .int .i64 hand] 29)).alloc (.cells #[.slice none 0 0, .int .i64 0] 29)).alloc (.cells #[.bool false, .bool false, .int .i64 0, .int .i64 0] 39)
theorem lay3 (w : World) (v : Value) (hand : Int) : Lay3 w (mk3 w v hand) v hand := by
  have L := lay2 w _ v hand rfl
  refine ⟨blk_alloc L.b0 _, blk_alloc L.b1 _, ?_, L.hb.alloc L.hb.size _⟩
  have := heap_alloc_new ((w.alloc (.cells #[v, .int .i64 hand] 29)).alloc (.cells #[.slice none 0 0, .int .i64 0] 29)) (.cells #[.bool false, .bool false, .int .i64 0, .int .i64 0] 39)
  rwa [World.size_alloc, World.size_alloc] at this
/-- The end of a put: the clock and the place are stored. -/
theorem put_end {w W : World} {v v' : Value} {hand : Int} (L : Lay3 w W v hand) (hand' : Int) (f m : Bool) (key t : Int) :
    ((W.setRow (w.heap.size + 1) (ckC v' hand')).setRow (w.heap.size + 2) (plC f m key t)).heap[w.heap.size + 1]? = some (.cells (ckC v' hand') 29 (0, 0)) ∧
    ((W.setRow (w.heap.size + 1) (ckC v' hand')).setRow (w.heap.size + 2) (plC f m key t)).heap[w.heap.size + 2]? = some (.cells (plC f m key t) 39 (0, 0)) ∧
    (W.setRow (w.heap.size + 1) (ckC v' hand')).heap[w.heap.size + 2]? = some (.cells (plC false false 0 0) 39 (0, 0)) ∧
    Below w.heap.size w ((W.setRow (w.heap.size + 1) (ckC v' hand')).setRow (w.heap.size + 2) (plC f m key t)) := by
  have q2 : (W.setRow (w.heap.size + 1) (ckC v' hand')).heap[w.heap.size + 2]? = some (.cells (plC false false 0 0) 39 (0, 0)) := (setRow_other W (w.heap.size + 1) (w.heap.size + 2) _ (by omega)).trans L.b2
  have q1 := setRow_heap W (w.heap.size + 1) _ (ckC v' hand') _ _ L.b1
  exact ⟨(setRow_other _ (w.heap.size + 2) (w.heap.size + 1) _ (by omega)).trans q1, setRow_heap _ _ _ _ _ _ q2, q2, below_setRow (below_setRow L.hb (by omega) _) (by omega) _⟩
theorem PlsAt.beside {n : Nat} {w : World} {v : Value} {ps : List Pl} {z : Nat} (h : PlsAt n w v ps) (hne : ∀ g off n c, v = .slice (some ⟨g, off, none⟩) n c → g ≠ z) (cs : Array Value) : PlsAt n (w.setRow z cs) v ps := by
  obtain ⟨a', cap, rfl, hl, h0, h⟩ := h
  refine ⟨a', cap, rfl, hl, h0, ?_⟩
  rcases h with h | ⟨g, off, rfl, hg, hc⟩
  · exact .inl h
  · exact .inr ⟨g, off, rfl, hg.to hg.1 (setRow_other w z g cs (hne g off _ _ rfl)), fun j u hj => (cell_setRow_other w z cs ⟨g, off + j, none⟩ (hne g off _ _ rfl)).trans (hc j u hj)⟩
theorem size_setRow (w : World) (z : Nat) (cs : Array Value) : (w.setRow z cs).heap.size = w.heap.size := by simp [World.setRow]
set_option maxHeartbeats 4000000 in
theorem refPut_hit {w : World} {v : Value} {ps : List Pl} (h : PlsAt w.heap.size w v ps) (hth : ∀ p ∈ ps, ∃ t, p.thing = .int .i64 t) (hl : ps.length ≤ 4096) (hand key tt : Int) {i : Nat} (hi : i < ps.length) (hf : findI ps key = (i : Nat)) :
    Calls Try.prog 13 #[.agg #[v, .int .i64 hand], .int .i64 key, .int .i64 tt] w (PutDid (ps.set i ⟨true, true, key, .int .i64 tt⟩) hand false false 0 0 false w) := by
  obtain ⟨a, c, rfl⟩ := h.slice
  have L := lay3 w (.slice a ps.length c) hand
  have HW1 : Hid (mk3 w (.slice a ps.length c) hand = mk3 w (.slice a ps.length c) hand) := rfl
  unfold mk3 at HW1
  generalize hw1 : mk3 w (.slice a ps.length c) hand = w1 at L
  unfold mk3 at hw1
  rw [hw1] at HW1
  have HF := Lib.hid (find_any (h.next L.hb) hl hand key)
  rw [hf] at HF
  have HP := Lib.hid (h.next L.hb)
  have c0 : w1.cell? ⟨w.heap.size, 0, none⟩ = some (.slice a ps.length c) := blk_cell L.b0 0
  have c1 : w1.cell? ⟨w.heap.size, 1, none⟩ = some (.int .i64 hand) := blk_cell L.b0 1
  have i1 : (i : Int) < ps.length := by omega
  have i2 : (i : Int) ≤ 4096 := by omega
  have HL := Lib.hid L
  have HI := Lib.hid hi
  have HTH := Lib.hid hth
  have HW2 := Lib.hid hw1
  clear h hf hw1 L hth hi HW1
  go_enter Try.func13, Try.ntmps13
  go_upto_region 1 with fail
  change (Code.region _ _ _).wp _ _ _ (((w.alloc (.cells #[.slice a ps.length c, .int .i64 hand] 29)).alloc (.cells #[.slice none 0 0, .int .i64 0] 29)).alloc (.cells #[.bool false, .bool false, .int .i64 0, .int .i64 0] 39))
  rw [HW2.out]
  clear HW2
  go_wp2_with (first
    | (go_at_call 19; (with_reducible refine HF.out.mono ?_); rintro e w2 ⟨rfl, hb⟩; have L2 := HL.out.next hb; have HL2 := Lib.hid L2; have HP2 := HP.out.next hb; have d0 : w2.cell? ⟨w.heap.size, 0, none⟩ = some (.slice a ps.length c) := blk_cell L2.b0 0; have d1 : w2.cell? ⟨w.heap.size, 1, none⟩ = some (.int .i64 hand) := blk_cell L2.b0 1; have HWI := Lib.hid (with_any HP2 HTH.out hl hand HI.out true true key tt); clear hb L2 HP2 c0 c1 HP HL HF)
    | (go_at_call 20; (with_reducible refine HWI.out.mono ?_); rintro e w3 ⟨v3, rfl, h3, hb3, hf3⟩; obtain ⟨a3, c3, e3⟩ := h3.slice; rw [List.length_set] at e3; subst e3; have H3 := Lib.hid h3; have L3 := HL2.out.next hb3; have HL3 := Lib.hid L3; have HE := Lib.hid (put_end (v' := .slice a3 ps.length c3) L3 hand false false 0 0); have HFR : Hid (∀ g off n c', (Value.slice a3 ps.length c3) = .slice (some ⟨g, off, none⟩) n c' → g ≠ w.heap.size + 2) := (fun g off n c' e => by have := hf3 g off n c' e; have := blk_lt HL2.out.b2; omega); clear h3 hb3 hf3 L3 d0 d1)
    | (refine wpList_store_row (o := ⟨none, _, _, _, _, _⟩) rfl 29 (.tmp 6) (.tmp 23) rfl (w.heap.size + 1) (ckC (.slice a3 ps.length c3) hand) rfl rfl 29 (ckC (.slice none 0 0) 0) HL3.out.b1 (ckC_sz _ _) rfl ?_ ?_; exact ckC_one _ _ _ _)
    | (refine wpList_store_row (o := ⟨none, _, _, _, _, _⟩) rfl 39 (.tmp 7) (.tmp 24) rfl (w.heap.size + 2) (plC false false 0 0) rfl rfl 39 (plC false false 0 0) HE.out.2.2.1 (plC_sz _ _ _ _) rfl ?_ ?_; exact plC_one _ _ _ _))
  refine bodyPost_ret (refPut_res _ (w.heap.size + 1) (w.heap.size + 2) _ _ _ _ _ _ _ _ rfl rfl rfl HE.out.1 HE.out.2.1) rfl ⟨_, rfl, ?_, HE.out.2.2.2⟩
  rw [size_setRow, size_setRow]
  exact (H3.out.setRow HL3.out.b1 _).beside HFR.out _
end Go.Proofs.Ytadhkciggiefbaa

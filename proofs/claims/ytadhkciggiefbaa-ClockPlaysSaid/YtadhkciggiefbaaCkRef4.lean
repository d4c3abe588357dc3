/-
  The document's own clock: Drop.
  Conditions: none.
-/
import Derived.Test.YtadhkciggiefbaaCkRef3
namespace Go.Proofs.Ytadhkciggiefbaa
open Go.RowKit

def ckC (v : Value) (hand : Int) : Array Value := #[v, .int .i64 hand]
theorem ckC_sz (v : Value) (hand : Int) : (Try.prog.info? 29).map (·.size) = some (ckC v hand).size := by show _ = some 2; kernel_rfl
theorem ckC_one (a : Option Addr) (n c : Nat) (hand : Int) : (ckC (.slice a n c) hand).all (·.oneCell') = true := by simp [ckC, Value.oneCell']
theorem PlsAt.setRow {n : Nat} {w : World} {v : Value} {ps : List Pl} {z : Nat} {a : Option Addr} {b c : Nat} {k : Int} {t : TypeId} (h : PlsAt n w v ps) (hz : w.heap[z]? = some (.cells #[.slice a b c, .int .i64 k] t (0, 0))) (cs : Array Value) : PlsAt n (w.setRow z cs) v ps := by
  obtain ⟨a', cap, rfl, hl, h0, h⟩ := h
  refine ⟨a', cap, rfl, hl, h0, ?_⟩
  rcases h with h | ⟨g, off, rfl, hg, hc⟩
  · exact .inl h
  · cases ps with
    | nil => exact .inl rfl
    | cons p ps =>
      have hne : g ≠ z := by
        rintro rfl
        have := hc 0 (.bool p.full) (by simp [plCells])
        rw [Nat.add_zero, blk_cell hz] at this
        match off, this with
        | 0, this => simp at this
        | 1, this => simp at this
        | off + 2, this => simp at this
      exact .inr ⟨g, off, rfl, hg.to hg.1 (setRow_other w z g cs hne), fun j u hj => (cell_setRow_other w z cs ⟨g, off + j, none⟩ hne).trans (hc j u hj)⟩
/-- What a function of the document's clock leaves. -/
def RefDid (ps : List Pl) (hand : Int) (a b : Value) (w : World) (e : Ending) (w' : World) : Prop := ∃ v, e = .returned (.tuple #[.agg #[v, .int .i64 hand], a, b]) ∧ PlsAt w'.heap.size w' v ps ∧ Below w.heap.size w w'
theorem refDrop_res (w : World) (g : Nat) (v x : Value) (hand : Int) (b : Bool) (tmps : Array Value) (h4 : tmps.getD 4 undef = .pointer (some ⟨g, 0, none⟩)) (h5 : tmps.getD 5 undef = x) (h6 : tmps.getD 6 undef = .bool b) (hg : w.heap[g]? = some (.cells (ckC v hand) 29 (0, 0))) :
    (results Try.f11 tmps).run Try.prog w = .ok (.tuple #[.agg #[v, .int .i64 hand], x, .bool b]) w := by
  have h4' : tmps[4]?.getD undef = .pointer (some ⟨g, 0, none⟩) := by simpa using h4
  have h5' : tmps[5]?.getD undef = x := by simpa using h5
  have h6' : tmps[6]?.getD undef = .bool b := by simpa using h6
  simp [results, Try.results11, h4', h5', h6', asAddr, run_loadVar_row w g 29 29 (ckC v hand) (0, 0) _ hg Try.underlying29 rfl (ckC_sz v hand)]
  rfl
/-- Two clocks made ahead: the one that is given, the one that is answered. -/
structure Lay2 (w W : World) (v : Value) (hand : Int) : Prop where
  b0 : W.heap[w.heap.size]? = some (.cells #[v, .int .i64 hand] 29 (0, 0))
  b1 : W.heap[w.heap.size + 1]? = some (.cells #[.slice none 0 0, .int .i64 0] 29 (0, 0))
  hb : Below w.heap.size w W
theorem Lay2.next {w W W' : World} {v : Value} {hand : Int} (h : Lay2 w W v hand) (hb : Below W.heap.size W W') : Lay2 w W' v hand :=
  ⟨(hb.block _ (blk_lt h.b0)).trans h.b0, (hb.block _ (blk_lt h.b1)).trans h.b1, h.hb.trans (hb.mono h.hb.size)⟩
theorem lay2 (w W : World) (v : Value) (hand : Int) (hW : (w.alloc (.cells #[v, .int .i64 hand] 29)).alloc (.cells #[.slice none 0 0, .int .i64 0] 29) = W) : Lay2 w W v hand := by
  subst hW
  refine ⟨blk_alloc (heap_alloc_new _ _) _, ?_, ((Below.refl _ _).alloc (Nat.le_refl _) _).alloc (by simp) _⟩
  have := heap_alloc_new (w.alloc (.cells #[v, .int .i64 hand] 29)) (.cells #[.slice none 0 0, .int .i64 0] 29)
  rwa [World.size_alloc] at this
set_option maxHeartbeats 4000000 in
theorem refDrop_none {w : World} {v : Value} {ps : List Pl} (h : PlsAt w.heap.size w v ps) (hl : ps.length ≤ 4096) (hand key : Int) (hf : findI ps key = -1) :
    Calls Try.prog 11 #[.agg #[v, .int .i64 hand], .int .i64 key] w (RefDid ps hand (.int .i64 0) (.bool false) w) := by
  obtain ⟨a, c, rfl⟩ := h.slice
  obtain ⟨w1, hw1⟩ : ∃ w1, (w.alloc (.cells #[.slice a ps.length c, .int .i64 hand] 29)).alloc (.cells #[.slice none 0 0, .int .i64 0] 29) = w1 := ⟨_, rfl⟩
  have L := lay2 w w1 _ hand hw1
  have HF := Lib.hid (find_any (h.next L.hb) hl hand key)
  rw [hf] at HF
  have HP := Lib.hid (h.next L.hb)
  have c0 : w1.cell? ⟨w.heap.size, 0, none⟩ = some (.slice a ps.length c) := blk_cell L.b0 0
  have c1 : w1.cell? ⟨w.heap.size, 1, none⟩ = some (.int .i64 hand) := blk_cell L.b0 1
  have HL := Lib.hid L
  have HW1 := Lib.hid hw1
  clear h hl hf hw1 L
  go_enter Try.func11, Try.ntmps11
  go_upto_region 1 with fail
  change (Code.region _ _ _).wp _ _ _ ((w.alloc (.cells #[.slice a ps.length c, .int .i64 hand] 29)).alloc (.cells #[.slice none 0 0, .int .i64 0] 29))
  rw [HW1.out]
  clear HW1
  go_wp2_with (first
    | (go_at_call 19; (with_reducible refine HF.out.mono ?_); rintro e w2 ⟨rfl, hb⟩; have L2 := HL.out.next hb; have HL2 := Lib.hid L2; have HP2 := Lib.hid (HP.out.next hb); have d0 : w2.cell? ⟨w.heap.size, 0, none⟩ = some (.slice a ps.length c) := blk_cell L2.b0 0; have d1 : w2.cell? ⟨w.heap.size, 1, none⟩ = some (.int .i64 hand) := blk_cell L2.b0 1; clear hb L2 c0 c1 HP HL HF)
    | (refine wpList_store_row (o := ⟨none, _, _, _, _, _⟩) rfl 29 (.tmp 4) (.tmp 14) rfl (w.heap.size + 1) (ckC (.slice a ps.length c) hand) rfl rfl 29 (ckC (.slice none 0 0) 0) HL2.out.b1 (ckC_sz _ _) rfl ?_ ?_; exact ckC_one _ _ _ _))
  refine bodyPost_ret (refDrop_res _ (w.heap.size + 1) _ _ _ _ _ rfl rfl rfl (setRow_heap _ _ _ _ _ _ HL2.out.b1)) rfl ⟨_, rfl, ?_, below_setRow HL2.out.hb (by omega) _⟩
  exact (HP2.out.setRow HL2.out.b1 _).mono (by simp [World.setRow])
set_option maxHeartbeats 4000000 in
theorem refDrop_some {w : World} {v : Value} {ps : List Pl} (h : PlsAt w.heap.size w v ps) (hth : ∀ p ∈ ps, ∃ t, p.thing = .int .i64 t) (hl : ps.length ≤ 4096) (hand key : Int) {i : Nat} {p : Pl} (hp : ps[i]? = some p) (hf : findI ps key = (i : Nat)) :
    Calls Try.prog 11 #[.agg #[v, .int .i64 hand], .int .i64 key] w (RefDid (ps.set i (Pl.zero zeroI)) hand p.thing (.bool true) w) := by
  obtain ⟨a, c, rfl⟩ := h.slice
  have hi := (List.getElem?_eq_some_iff.1 hp).1
  obtain ⟨w1, hw1⟩ : ∃ w1, (w.alloc (.cells #[.slice a ps.length c, .int .i64 hand] 29)).alloc (.cells #[.slice none 0 0, .int .i64 0] 29) = w1 := ⟨_, rfl⟩
  have L := lay2 w w1 _ hand hw1
  have HF := Lib.hid (find_any (h.next L.hb) hl hand key)
  rw [hf] at HF
  have HP := Lib.hid (h.next L.hb)
  have c0 : w1.cell? ⟨w.heap.size, 0, none⟩ = some (.slice a ps.length c) := blk_cell L.b0 0
  have c1 : w1.cell? ⟨w.heap.size, 1, none⟩ = some (.int .i64 hand) := blk_cell L.b0 1
  obtain ⟨tt, hpt⟩ := hth p (List.mem_of_getElem? hp)
  obtain ⟨g, off, rfl, hg, _, _, _, p3⟩ := (h.next L.hb).get hp
  rw [hpt] at p3
  have i1 : (i : Int) < ps.length := by omega
  have i2 : (i : Int) ≤ 4096 := by omega
  have HL := Lib.hid L
  have HW1 := Lib.hid hw1
  have HI := Lib.hid hi
  have HPT := Lib.hid hpt
  have HTH := Lib.hid hth
  clear h hf hw1 L hp hpt hth hi hg
  go_enter Try.func11, Try.ntmps11
  go_upto_region 1 with fail
  change (Code.region _ _ _).wp _ _ _ ((w.alloc (.cells #[.slice (some ⟨g, off, none⟩) ps.length c, .int .i64 hand] 29)).alloc (.cells #[.slice none 0 0, .int .i64 0] 29))
  rw [HW1.out]
  clear HW1
  go_wp2_with (first
    | (go_at_call 19; (with_reducible refine HF.out.mono ?_); rintro e w2 ⟨rfl, hb⟩; have L2 := HL.out.next hb; have HL2 := Lib.hid L2; have HP2 := HP.out.next hb; obtain ⟨g', off', e', _, _, _, _, q3⟩ := HP2.get (i := i) (p := ps[i]'HI.out) (List.getElem?_eq_getElem HI.out); cases e'; have q4 : w2.cell? ⟨g, off + i * 4 + 3, none⟩ = some (.int .i64 tt) := (hb.cell (p := ⟨g, off + i * 4 + 3, none⟩) (World.block_lt_of_cell? _ _ p3)).trans p3; have d0 : w2.cell? ⟨w.heap.size, 0, none⟩ = some (.slice (some ⟨g, off, none⟩) ps.length c) := blk_cell L2.b0 0; have d1 : w2.cell? ⟨w.heap.size, 1, none⟩ = some (.int .i64 hand) := blk_cell L2.b0 1; have HWI := Lib.hid (with_any HP2 HTH.out hl hand HI.out false false 0 0); clear hb L2 HP2 c0 c1 q3 p3 HP HL HF)
    | (go_at_call 20; (with_reducible refine HWI.out.mono ?_); rintro e w3 ⟨v3, rfl, h3, hb3, _⟩; obtain ⟨a3, c3, e3⟩ := h3.slice; rw [List.length_set] at e3; subst e3; have H3 := Lib.hid h3; have HL3 := Lib.hid (HL2.out.next hb3); clear h3 hb3 HL2 d0 d1 q4)
    | (refine wpList_store_row (o := ⟨none, _, _, _, _, _⟩) rfl 29 (.tmp 4) (.tmp 24) rfl (w.heap.size + 1) (ckC (.slice a3 ps.length c3) hand) rfl rfl 29 (ckC (.slice none 0 0) 0) HL3.out.b1 (ckC_sz _ _) rfl ?_ ?_; exact ckC_one _ _ _ _))
  rw [HPT.out]
  refine bodyPost_ret (refDrop_res _ (w.heap.size + 1) _ _ _ _ _ rfl rfl rfl (setRow_heap _ _ _ _ _ _ HL3.out.b1)) rfl ⟨_, rfl, ?_, below_setRow HL3.out.hb (by omega) _⟩
  exact (H3.out.setRow HL3.out.b1 _).mono (by simp [World.setRow])
end Go.Proofs.Ytadhkciggiefbaa

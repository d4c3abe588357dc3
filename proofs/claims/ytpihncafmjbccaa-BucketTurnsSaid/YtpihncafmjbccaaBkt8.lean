/-
  sgraffitoref14's Fresh, Drop.
  Conditions: none.
-/
import Derived.Test.YtpihncafmjbccaaBkt7
namespace Go.Proofs.Ytpihncafmjbccaa
open Go.RowKit

theorem infoEntD : (Try.prog.info? 27).map (fun i => (i.zero, i.size, i.bytes)) = some (some (.agg #[.int .u64 0, .int .i64 0, .int .i64 0, .int .i64 0]), 4, 32) := by kernel_rfl
theorem bktD_sz (d p : Int) (v : Value) : (Try.prog.info? 24).map (·.size) = some (bktC d p v).size := by show _ = some 3; kernel_rfl
theorem ent_newD (W : World) (y : Ent) : ∀ (j : Nat) (u : Value), y.cells.toList[j]? = some u → (W.alloc (.cells #[.int .u64 (U y.hash), .int .i64 y.reg, .int .i64 y.at_, .int .i64 y.size] 27)).cell? ((⟨W.heap.size, 0, none⟩ : Addr).add j) = some u := by
  intro j u hj
  rw [add_plain, Nat.zero_add, blk_cell (heap_alloc_new _ _)]
  rw [Array.getElem?_toList] at hj
  exact hj
/-- What the first ones leave. -/
def upE (P : Ent → Bool) (es : List Ent) (k : Nat) : List Ent := (es.take k).filter P
theorem upE_yes {P : Ent → Bool} {es : List Ent} {k : Nat} (hk : k < es.length) (h : P (es[k]?.getD default) = true) : upE P es (k + 1) = upE P es k ++ [es[k]?.getD default] := by
  unfold upE
  rw [List.take_add_one, List.filter_append, List.getElem?_eq_getElem hk]
  rw [List.getElem?_eq_getElem hk] at h
  simp only [Option.toList_some, Option.getD_some] at h ⊢
  simp [h]
theorem upE_no {P : Ent → Bool} {es : List Ent} {k : Nat} (hk : k < es.length) (h : P (es[k]?.getD default) = false) : upE P es (k + 1) = upE P es k := by
  unfold upE
  rw [List.take_add_one, List.filter_append, List.getElem?_eq_getElem hk]
  rw [List.getElem?_eq_getElem hk] at h
  simp only [Option.toList_some, Option.getD_some] at h ⊢
  simp [h]
theorem upE_len (P : Ent → Bool) (es : List Ent) (k : Nat) : (upE P es k).length ≤ es.length := by
  unfold upE
  exact Nat.le_trans (List.length_filter_le _ _) (by rw [List.length_take]; omega)
theorem upE_all (P : Ent → Bool) (es : List Ent) : upE P es es.length = es.filter P := by unfold upE; rw [List.take_length]
theorem upE_zero (P : Ent → Bool) (es : List Ent) : upE P es 0 = [] := rfl
/-- What the reference's loops keep. -/
structure RefAt14 (w : World) (d p : Int) (a : Option Addr) (n c : Nat) (xs : List Ent) (lv : Value) (W : World) : Prop where
  bel : Below w.heap.size w W
  size : w.heap.size + 2 ≤ W.heap.size
  doc : W.heap[w.heap.size]? = some (.cells (bktC d p (.slice a n c)) 24 (0, 0))
  res : W.heap[w.heap.size + 1]? = some (.cells (bktC 0 0 (.slice none 0 0)) 24 (0, 0))
  out : W.ownsRow w.heap.size 27 4 lv xs.length (ents xs)
theorem refAt14_first (w : World) (d p : Int) (a : Option Addr) (n c : Nat) :
    RefAt14 w d p a n c [] (.slice none 0 0) ((w.alloc (.cells #[.int .i64 d, .int .i64 p, .slice a n c] 24)).alloc (.cells #[.int .i64 0, .int .i64 0, .slice none 0 0] 24)) := by
  refine ⟨((Below.refl _ w).alloc (Nat.le_refl _) _).alloc (by simp) _, by simp, blk_alloc (heap_alloc_new _ _) _, ?_, World.ownsRow_nil _ _ _ _⟩
  have := heap_alloc_new (w.alloc (.cells #[.int .i64 d, .int .i64 p, .slice a n c] 24)) (.cells #[.int .i64 0, .int .i64 0, .slice none 0 0] 24)
  rw [World.size_alloc] at this
  exact this
theorem RefAt14.app {w wr w8 : World} {d p : Int} {a : Option Addr} {n c m : Nat} {xs : List Ent} {x : Ent} {lv v' : Value} {o : Obj} (h : RefAt14 w d p a n c xs lv wr) (hown : w8.ownsRow w.heap.size 27 4 v' m (ents xs ++ x.cells.toList)) (hm : m = xs.length + 1) (hg : (wr.alloc o).grownBy w8 lv.ownBlock) : RefAt14 w d p a n c (xs ++ [x]) v' w8 := by
  subst hm
  have hsz := h.size
  have hM : Moves (fun i => lv.ownBlock = some i) wr w8 := ((Moves.refl _ wr).alloc o).trans (Moves.of_grown (S := fun i => lv.ownBlock = some i) hg (fun _ e => e)) (fun _ _ h => h)
  refine ⟨h.bel.trans (hM.below (fun i e => (h.out.lt i e).1) (by omega)), Nat.le_trans hsz hM.size, (hM.block _ (blk_lt h.doc) (own_ne h.out h.doc (by decide))).trans h.doc, (hM.block _ (blk_lt h.res) (own_ne h.out h.res (by decide))).trans h.res, ?_⟩
  rw [ents_snoc, List.length_append, List.length_singleton]
  exact hown
set_option maxRecDepth 100000 in
set_option maxHeartbeats 4000000 in
theorem refFresh_any (d p o : Int) (a : Option Addr) (m c : Nat) (es : List Ent) (w : World) (hE : EntsAt w.heap.size w (.slice a m c) es) (hlen : es.length ≤ 1073741824) :
    Calls Try.prog 17 #[.agg #[.int .i64 d, .int .i64 p, .slice a m c], .int .i64 o] w (BktRet d p (es.filter fun x => !decide (x.reg < o)) w) := by
  obtain ⟨i0, hi, hz0, hz1, hz2⟩ := info_parts4 infoEntD
  obtain ⟨_, _, e0, hc0⟩ := hE.slice
  cases e0
  have HO := Lib.hid (refAt14_first w d p a es.length c)
  have HE := Lib.hid hE
  have HLEN := Lib.hid hlen
  have HALL := Lib.hid (upE_all (fun x => !decide (x.reg < o)) es)
  have HUL := Lib.hid (upE_len (fun x => !decide (x.reg < o)) es)
  have hl1 : (es.length : Int) ≤ 1073741824 := by omega
  have hl2 : (es.length : Int) ≤ c := by omega
  clear hE hlen
  go_enter Try.func17, Try.ntmps17
  go_wp2
  go_loopw [5, 6] (fun lv i wr => ∃ k : Nat, k ≤ es.length ∧ i = .int .i64 k ∧ RefAt14 w d p a es.length c (upE (fun x => !decide (x.reg < o)) es k) lv wr) (fun _ i _ => es.length - (intOf i).toNat)
  case atStart => exact ⟨0, Nat.zero_le _, rfl, HO.out⟩
  case round =>
    obtain ⟨k, hk, rfl, hO⟩ := hrel
    have c2 : wr.cell? ⟨w.heap.size, 2, none⟩ = some (.slice a es.length c) := blk_cell hO.doc 2
    by_cases hlt : k < es.length
    · obtain ⟨g, off, rfl, hg, e4⟩ := HE.out.get hlt
      obtain ⟨q0, q1, q2, q3⟩ := e4
      have d0 := (hO.bel.cell (p := ⟨g, off + k * 4, none⟩) hg).trans q0
      have d1 := (hO.bel.cell (p := ⟨g, off + k * 4 + 1, none⟩) hg).trans q1
      have d2 := (hO.bel.cell (p := ⟨g, off + k * 4 + 2, none⟩) hg).trans q2
      have d3 := (hO.bel.cell (p := ⟨g, off + k * 4 + 3, none⟩) hg).trans q3
      have k1 : (k : Int) < es.length := by omega
      have HYES := Lib.hid (upE_yes (P := fun x => !decide (x.reg < o)) hlt)
      have HNO := Lib.hid (upE_no (P := fun x => !decide (x.reg < o)) hlt)
      have HUK := Lib.hid (show (upE (fun x => !decide (x.reg < o)) es k).length ≤ 1073741824 from Nat.le_trans (HUL.out k) HLEN.out)
      generalize es[k]?.getD default = x at d0 d1 d2 d3 HYES HNO
      have HOO := Lib.hid hO
      clear q0 q1 q2 q3 hc0 HO hO
      generalize upE (fun x => !decide (x.reg < o)) es k = xs at *
      by_cases hp : x.reg < o
      · have hn := HNO.out (by simp [hp])
        have HN := Lib.hid hn
        clear hn HYES
        go_wp2
        go_roundw
        case rel => exact ⟨k + 1, by omega, by go_num, by rw [HN.out]; exact HOO.out⟩
        case measure => simp [intOf]; omega
      · have hn := HYES.out (by simp [hp])
        have HN := Lib.hid hn
        clear hn HNO
        have hp2 : o ≤ x.reg := by omega
        clear hp
        go_wp2_with (refine wpList_append_lies _ rfl _ _ 22 rfl w.heap.size 27 i0 _ 4 32 Try.underlying22 hi hz0 hz1 hz2 rfl (by decide) _ xs.length (ents xs) rfl (HOO.out.out.alloc _) ⟨_, 0, none⟩ 1 1 x.cells.toList rfl rfl (ent_newD _ x) x.one (by decide) (by have := HUK.out; unfold maxLen; omega) (by have := HUK.out; omega) (by have := HOO.out.size; simp; omega) _ rfl ?_; intro g2 cap2 w8 hown hgrow hat hlt8; have HA := Lib.hid (HOO.out.app hown rfl hgrow); clear hown hgrow hat hlt8)
        go_roundw
        case rel => exact ⟨k + 1, by omega, by go_num, by rw [HN.out]; exact HA.out⟩
        case measure => simp [intOf]; omega
    · obtain rfl : k = es.length := by omega
      rw [HALL.out] at hO
      obtain ⟨a', n', rfl⟩ := owns_slice hO.out
      have f2 := blk_frozen hO.doc 2
      have c0 : wr.cell? ⟨w.heap.size, 0, none⟩ = some (.int .i64 d) := blk_cell hO.doc 0
      have c1 : wr.cell? ⟨w.heap.size, 1, none⟩ = some (.int .i64 p) := blk_cell hO.doc 1
      have HOO := Lib.hid hO
      have HB := Lib.hid hO.bel
      have hMs : Moves (fun i => i = w.heap.size) wr (wr.setCell ⟨w.heap.size, 2, none⟩ (.slice a' (es.filter fun x => !decide (x.reg < o)).length n')) := (Moves.refl (fun i => i = w.heap.size) wr).setCell (p := ⟨w.heap.size, 2, none⟩) (fun _ => rfl) _
      have HRES := Lib.hid ((hMs.block _ (blk_lt hO.res) (by omega)).trans hO.res)
      have HEE := Lib.hid (EntsAt.of_owns (hMs.row hO.out (fun j e => fun ej => own_ne hO.out hO.doc (by decide) (by rw [e, ej]))) rfl)
      have HBB := Lib.hid (hO.bel.setCell (p := ⟨w.heap.size, 2, none⟩) (Nat.le_refl _) (.slice a' (es.filter fun x => !decide (x.reg < o)).length n'))
      clear hMs hO HO
      go_wp2_with (first
        | (refine wpList_store_row (o := ⟨none, _, _, _, _, _⟩) rfl 24 (.tmp 4) (.tmp 32) rfl (w.heap.size + 1) (bktC d p (.slice a' (es.filter fun x => !decide (x.reg < o)).length n')) rfl rfl 24 (bktC 0 0 (.slice none 0 0)) HRES.out (bktD_sz _ _ _) rfl ?_ ?_; exact bkt_one _ _ _ _ _))
      have hend := setRow_heap _ (w.heap.size + 1) _ (bktC d p (.slice a' (es.filter fun x => !decide (x.reg < o)).length n')) _ _ HRES.out
      refine bodyPost_ret (results_cell_row rfl _ _ (w.heap.size + 1) 24 (bktC d p (.slice a' (es.filter fun x => !decide (x.reg < o)).length n')) (0, 0) _ rfl hend Try.underlying24 rfl (bktD_sz _ _ _)) rfl ⟨_, _, _, rfl, (HEE.out.setRow HRES.out (bkt_no _ _ _ _ _) _).tight, below_setRow HBB.out (by omega) _⟩
set_option maxRecDepth 100000 in
set_option maxHeartbeats 4000000 in
theorem refDrop_any (d p : Int) (h : BitVec 64) (a : Option Addr) (m c : Nat) (es : List Ent) (w : World) (hE : EntsAt w.heap.size w (.slice a m c) es) (hlen : es.length ≤ 1073741824) :
    Calls Try.prog 15 #[.agg #[.int .i64 d, .int .i64 p, .slice a m c], .int .u64 (U h)] w (BktRet d p (es.filter fun x => !decide (x.hash = h)) w) := by
  obtain ⟨i0, hi, hz0, hz1, hz2⟩ := info_parts4 infoEntD
  obtain ⟨_, _, e0, hc0⟩ := hE.slice
  cases e0
  have HO := Lib.hid (refAt14_first w d p a es.length c)
  have HE := Lib.hid hE
  have HLEN := Lib.hid hlen
  have HALL := Lib.hid (upE_all (fun x => !decide (x.hash = h)) es)
  have HUL := Lib.hid (upE_len (fun x => !decide (x.hash = h)) es)
  have hl1 : (es.length : Int) ≤ 1073741824 := by omega
  have hl2 : (es.length : Int) ≤ c := by omega
  clear hE hlen
  go_enter Try.func15, Try.ntmps15
  go_wp2
  go_loopw [5, 6] (fun lv i wr => ∃ k : Nat, k ≤ es.length ∧ i = .int .i64 k ∧ RefAt14 w d p a es.length c (upE (fun x => !decide (x.hash = h)) es k) lv wr) (fun _ i _ => es.length - (intOf i).toNat)
  case atStart => exact ⟨0, Nat.zero_le _, rfl, HO.out⟩
  case round =>
    obtain ⟨k, hk, rfl, hO⟩ := hrel
    have c2 : wr.cell? ⟨w.heap.size, 2, none⟩ = some (.slice a es.length c) := blk_cell hO.doc 2
    by_cases hlt : k < es.length
    · obtain ⟨g, off, rfl, hg, e4⟩ := HE.out.get hlt
      obtain ⟨q0, q1, q2, q3⟩ := e4
      have d0 := (hO.bel.cell (p := ⟨g, off + k * 4, none⟩) hg).trans q0
      have d1 := (hO.bel.cell (p := ⟨g, off + k * 4 + 1, none⟩) hg).trans q1
      have d2 := (hO.bel.cell (p := ⟨g, off + k * 4 + 2, none⟩) hg).trans q2
      have d3 := (hO.bel.cell (p := ⟨g, off + k * 4 + 3, none⟩) hg).trans q3
      have k1 : (k : Int) < es.length := by omega
      have HYES := Lib.hid (upE_yes (P := fun x => !decide (x.hash = h)) hlt)
      have HNO := Lib.hid (upE_no (P := fun x => !decide (x.hash = h)) hlt)
      have HUK := Lib.hid (show (upE (fun x => !decide (x.hash = h)) es k).length ≤ 1073741824 from Nat.le_trans (HUL.out k) HLEN.out)
      generalize es[k]?.getD default = x at d0 d1 d2 d3 HYES HNO
      have HOO := Lib.hid hO
      clear q0 q1 q2 q3 hc0 HO hO
      generalize upE (fun x => !decide (x.hash = h)) es k = xs at *
      by_cases hp : x.hash = h
      · have hn := HNO.out (by simp [hp])
        have HN := Lib.hid hn
        clear hn HYES
        have hq : (U x.hash != U h) = false := by simp [bne, hp]
        clear hp
        go_wp2
        go_roundw
        case rel => exact ⟨k + 1, by omega, by go_num, by rw [HN.out]; exact HOO.out⟩
        case measure => simp [intOf]; omega
      · have hn := HYES.out (by simp [hp])
        have HN := Lib.hid hn
        clear hn HNO
        have hq : (U x.hash != U h) = true := by simp [bne, U_beq, hp]
        clear hp
        go_wp2_with (refine wpList_append_lies _ rfl _ _ 22 rfl w.heap.size 27 i0 _ 4 32 Try.underlying22 hi hz0 hz1 hz2 rfl (by decide) _ xs.length (ents xs) rfl (HOO.out.out.alloc _) ⟨_, 0, none⟩ 1 1 x.cells.toList rfl rfl (ent_newD _ x) x.one (by decide) (by have := HUK.out; unfold maxLen; omega) (by have := HUK.out; omega) (by have := HOO.out.size; simp; omega) _ rfl ?_; intro g2 cap2 w8 hown hgrow hat hlt8; have HA := Lib.hid (HOO.out.app hown rfl hgrow); clear hown hgrow hat hlt8)
        go_roundw
        case rel => exact ⟨k + 1, by omega, by go_num, by rw [HN.out]; exact HA.out⟩
        case measure => simp [intOf]; omega
    · obtain rfl : k = es.length := by omega
      rw [HALL.out] at hO
      obtain ⟨a', n', rfl⟩ := owns_slice hO.out
      have f2 := blk_frozen hO.doc 2
      have c0 : wr.cell? ⟨w.heap.size, 0, none⟩ = some (.int .i64 d) := blk_cell hO.doc 0
      have c1 : wr.cell? ⟨w.heap.size, 1, none⟩ = some (.int .i64 p) := blk_cell hO.doc 1
      have HOO := Lib.hid hO
      have HB := Lib.hid hO.bel
      have hMs : Moves (fun i => i = w.heap.size) wr (wr.setCell ⟨w.heap.size, 2, none⟩ (.slice a' (es.filter fun x => !decide (x.hash = h)).length n')) := (Moves.refl (fun i => i = w.heap.size) wr).setCell (p := ⟨w.heap.size, 2, none⟩) (fun _ => rfl) _
      have HRES := Lib.hid ((hMs.block _ (blk_lt hO.res) (by omega)).trans hO.res)
      have HEE := Lib.hid (EntsAt.of_owns (hMs.row hO.out (fun j e => fun ej => own_ne hO.out hO.doc (by decide) (by rw [e, ej]))) rfl)
      have HBB := Lib.hid (hO.bel.setCell (p := ⟨w.heap.size, 2, none⟩) (Nat.le_refl _) (.slice a' (es.filter fun x => !decide (x.hash = h)).length n'))
      clear hMs hO HO
      go_wp2_with (first
        | (refine wpList_store_row (o := ⟨none, _, _, _, _, _⟩) rfl 24 (.tmp 4) (.tmp 32) rfl (w.heap.size + 1) (bktC d p (.slice a' (es.filter fun x => !decide (x.hash = h)).length n')) rfl rfl 24 (bktC 0 0 (.slice none 0 0)) HRES.out (bktD_sz _ _ _) rfl ?_ ?_; exact bkt_one _ _ _ _ _))
      have hend := setRow_heap _ (w.heap.size + 1) _ (bktC d p (.slice a' (es.filter fun x => !decide (x.hash = h)).length n')) _ _ HRES.out
      refine bodyPost_ret (results_cell_row rfl _ _ (w.heap.size + 1) 24 (bktC d p (.slice a' (es.filter fun x => !decide (x.hash = h)).length n')) (0, 0) _ rfl hend Try.underlying24 rfl (bktD_sz _ _ _)) rfl ⟨_, _, _, rfl, (HEE.out.setRow HRES.out (bkt_no _ _ _ _ _) _).tight, below_setRow HBB.out (by omega) _⟩
end Go.Proofs.Ytpihncafmjbccaa

/-
  sgraffitolaw14's of.
  Conditions: none.
-/
import Derived.Test.YtpihncafmjbccaaBkt5
namespace Go.Proofs.Ytpihncafmjbccaa
open Go.RowKit

/-- What of's loop keeps: the document's bucket, the answer's block, what has come. -/
structure OfAt (w : World) (d p : Int) (a : Option Addr) (c : Nat) (es : List Ent) (k : Nat) (W : World) : Prop where
  bel : Below w.heap.size w W
  size : w.heap.size + 3 ≤ W.heap.size
  doc : W.heap[w.heap.size]? = some (.cells #[.int .i64 d, .int .i64 p, .slice a es.length c] 24 (0, 0))
  res : W.heap[w.heap.size + 1]? = some (.cells (bktC 0 0 (.slice none 0 0)) 32 (0, 0))
  out : ∃ b n m, W.heap[w.heap.size + 2]? = some (.cells (bktC d p (.slice b n m)) 32 (0, 0)) ∧ W.ownsRow w.heap.size 40 4 (.slice b n m) k (ents (es.take k))
theorem ofAt_first (w : World) (d p : Int) (a : Option Addr) (c : Nat) (es : List Ent) :
    OfAt w d p a c es 0 (((w.alloc (.cells #[.int .i64 d, .int .i64 p, .slice a es.length c] 24)).alloc (.cells #[.int .i64 0, .int .i64 0, .slice none 0 0] 32)).alloc (.cells #[.int .i64 d, .int .i64 p, .slice none 0 0] 32)) := by
  have b : Below w.heap.size w (((w.alloc (.cells #[.int .i64 d, .int .i64 p, .slice a es.length c] 24)).alloc (.cells #[.int .i64 0, .int .i64 0, .slice none 0 0] 32)).alloc (.cells #[.int .i64 d, .int .i64 p, .slice none 0 0] 32)) := (((Below.refl _ w).alloc (Nat.le_refl _) _).alloc (by simp) _).alloc (by simp; omega) _
  refine ⟨b, by simp, ?_, ?_, none, 0, 0, ?_, World.ownsRow_nil _ _ _ _⟩
  · exact blk_alloc (blk_alloc (heap_alloc_new _ _) _) _
  · have := heap_alloc_new (w.alloc (.cells #[.int .i64 d, .int .i64 p, .slice a es.length c] 24)) (.cells #[.int .i64 0, .int .i64 0, .slice none 0 0] 32)
    rw [World.size_alloc] at this
    exact blk_alloc this _
  · have := heap_alloc_new ((w.alloc (.cells #[.int .i64 d, .int .i64 p, .slice a es.length c] 24)).alloc (.cells #[.int .i64 0, .int .i64 0, .slice none 0 0] 32)) (.cells #[.int .i64 d, .int .i64 p, .slice none 0 0] 32)
    rw [World.size_alloc, World.size_alloc] at this
    exact this
theorem ofAt_next {w wr w8 : World} {d p : Int} {a : Option Addr} {c : Nat} {es : List Ent} {k : Nat} {x : Ent} {b : Option Addr} {n mm g2 cap2 : Nat} (hO : OfAt w d p a c es k wr) (hrow : wr.ownsRow w.heap.size 40 4 (.slice b n mm) k (ents (es.take k)))
    (hM : Moves (fun i => (Value.slice b n mm).ownBlock = some i) wr w8) (h0 : w8.heap[w.heap.size]? = some (.cells #[.int .i64 d, .int .i64 p, .slice a es.length c] 24 (0, 0))) (h1 : w8.heap[w.heap.size + 1]? = some (.cells (bktC 0 0 (.slice none 0 0)) 32 (0, 0))) (h2 : w8.heap[w.heap.size + 2]? = some (.cells (bktC d p (.slice b n mm)) 32 (0, 0)))
    (hx : ents (es.take (k + 1)) = ents (es.take k) ++ x.cells.toList) (hown : w8.ownsRow w.heap.size 40 4 (.slice (some ⟨g2, 0, none⟩) (k + 1) cap2) (k + 1) (ents (es.take k) ++ x.cells.toList)) :
    OfAt w d p a c es (k + 1) (w8.setCell ⟨w.heap.size + 1 + 1, 2, none⟩ (.slice (some ⟨g2, 0, none⟩) (k + 1) cap2)) := by
  have hsz := hO.size
  have hb : Below w.heap.size wr w8 := hM.below (fun i e => (hrow.lt i e).1) (by omega)
  have hMs : Moves (fun i => i = w.heap.size + 2) w8 (w8.setCell ⟨w.heap.size + 2, 2, none⟩ (.slice (some ⟨g2, 0, none⟩) (k + 1) cap2)) := (Moves.refl (fun i => i = w.heap.size + 2) w8).setCell (p := ⟨w.heap.size + 2, 2, none⟩) (fun _ => rfl) _
  have hs8 := hb.size
  refine ⟨(hO.bel.trans hb).setCell (p := ⟨w.heap.size + 2, 2, none⟩) (Nat.le_add_right _ _) _, Nat.le_trans (Nat.le_trans hsz hs8) hMs.size, (hMs.block _ (by omega) (by omega)).trans h0, (hMs.block _ (by omega) (by omega)).trans h1, _, _, _, blk_set h2 2 _, ?_⟩
  rw [hx]
  exact hMs.row hown (fun j e => fun ej => own_ne hown h2 (by decide) (by rw [e, ej]))
set_option maxRecDepth 100000 in
set_option maxHeartbeats 4000000 in
theorem of_any (d p : Int) (a : Option Addr) (m c : Nat) (es : List Ent) (w : World) (hE : EntsAt w.heap.size w (.slice a m c) es) (hlen : es.length ≤ 1073741824) :
    Calls Try.prog 6 #[.agg #[.int .i64 d, .int .i64 p, .slice a m c]] w (BktRet d p es w) := by
  obtain ⟨i0, hi, hz0, hz1, hz2⟩ := info_parts4 infoEnt
  obtain ⟨_, _, e0, hc0⟩ := hE.slice
  cases e0
  have HO := Lib.hid (ofAt_first w d p a c es)
  have HE := Lib.hid hE
  have HLEN := Lib.hid hlen
  have hl1 : (es.length : Int) ≤ 1073741824 := by omega
  have hl2 : (es.length : Int) ≤ c := by omega
  clear hE hlen
  go_enter Try.func6, Try.ntmps6
  go_wp2
  go_loopw [4] (fun i wr => ∃ k : Nat, k ≤ es.length ∧ i = .int .i64 k ∧ OfAt w d p a c es k wr) (fun i _ => es.length - (intOf i).toNat)
  case atStart => exact ⟨0, Nat.zero_le _, rfl, HO.out⟩
  case round =>
    obtain ⟨k, hk, rfl, hO⟩ := hrel
    have c2 : wr.cell? ⟨w.heap.size, 2, none⟩ = some (.slice a es.length c) := blk_cell hO.doc 2
    by_cases hlt : k < es.length
    · obtain ⟨g, off, rfl, hg, e4⟩ := HE.out.get hlt
      obtain ⟨q0, q1, q2, q3⟩ := e4
      have d0 := (hO.bel.cell (p := ⟨g, off + k * 4, none⟩) hg).trans q0
      have d1 := (hO.bel.cell (p := ⟨g, off + k * 4 + 1, none⟩) hg).trans q1
      have d2 := (hO.bel.cell (p := ⟨g, off + k * 4 + 2, none⟩) hg).trans q2
      have d3 := (hO.bel.cell (p := ⟨g, off + k * 4 + 3, none⟩) hg).trans q3
      have k1 : (k : Int) < es.length := by omega
      obtain ⟨b, n, mm, hout, hrow⟩ := hO.out
      have c3 : wr.cell? ⟨w.heap.size + 2, 2, none⟩ = some (.slice b n mm) := blk_cell hout 2
      have HX := Lib.hid (show ents (es.take (k + 1)) = ents (es.take k) ++ (es[k]?.getD default).cells.toList by
        rw [List.take_add_one, List.getElem?_eq_getElem hlt]
        exact ents_snoc _ _)
      generalize es[k]?.getD default = x at d0 d1 d2 d3 HX
      clear q0 q1 q2 q3 hc0 HO
      have HS : Hid (∀ W, Moves (fun i => (Value.slice b n mm).ownBlock = some i) wr W → W.cell? ⟨w.heap.size + 2, 2, none⟩ = some (.slice b n mm) ∧ W.cell? ⟨w.heap.size, 2, none⟩ = some (.slice (some ⟨g, off, none⟩) es.length c) ∧ W.cell? ⟨g, off + k * 4, none⟩ = some (.int .u64 (U x.hash)) ∧ W.cell? ⟨g, off + k * 4 + 1, none⟩ = some (.int .i64 x.reg) ∧ W.cell? ⟨g, off + k * 4 + 2, none⟩ = some (.int .i64 x.at_) ∧ W.cell? ⟨g, off + k * 4 + 3, none⟩ = some (.int .i64 x.size)) := fun W hM => by
        have hsz := hO.size
        have h1 : ¬ (Value.slice b n mm).ownBlock = some (w.heap.size + 2) := own_ne hrow hout (by decide)
        have h2 : ¬ (Value.slice b n mm).ownBlock = some w.heap.size := own_ne hrow hO.doc (by decide)
        have h3 : ¬ (Value.slice b n mm).ownBlock = some g := fun e => by have := (hrow.lt g e).1; omega
        have hgl : g < wr.heap.size := by omega
        exact ⟨(hM.cell (p := ⟨w.heap.size + 2, 2, none⟩) (show w.heap.size + 2 < wr.heap.size by omega) h1).trans c3, (hM.cell (p := ⟨w.heap.size, 2, none⟩) (show w.heap.size < wr.heap.size by omega) h2).trans c2, (hM.cell (p := ⟨g, _, none⟩) hgl h3).trans d0, (hM.cell (p := ⟨g, _, none⟩) hgl h3).trans d1, (hM.cell (p := ⟨g, _, none⟩) hgl h3).trans d2, (hM.cell (p := ⟨g, _, none⟩) hgl h3).trans d3⟩
      have HENT : Hid (∀ W, Calls Try.prog 9 #[.agg #[.int .u64 (U x.hash), .int .i64 x.reg, .int .i64 x.at_, .int .i64 x.size]] W fun e w' => e = .returned (.agg #[.int .u64 (U x.hash), .int .i64 x.reg, .int .i64 x.at_, .int .i64 x.size]) ∧ Below W.heap.size W w') := fun W => entry_any x W
      have HBK : Hid (∀ W, Moves (fun i => (Value.slice b n mm).ownBlock = some i) wr W → W.heap[w.heap.size + 2]? = some (.cells (bktC d p (.slice b n mm)) 32 (0, 0))) := fun W hM => (hM.block _ (blk_lt hout) (own_ne hrow hout (by decide))).trans hout
      have HDC : Hid (∀ W, Moves (fun i => (Value.slice b n mm).ownBlock = some i) wr W → W.heap[w.heap.size]? = some (.cells #[.int .i64 d, .int .i64 p, .slice (some ⟨g, off, none⟩) es.length c] 24 (0, 0))) := fun W hM => (hM.block _ (blk_lt hO.doc) (own_ne hrow hO.doc (by decide))).trans hO.doc
      have HRS : Hid (∀ W, Moves (fun i => (Value.slice b n mm).ownBlock = some i) wr W → W.heap[w.heap.size + 1]? = some (.cells (bktC 0 0 (.slice none 0 0)) 32 (0, 0))) := fun W hM => (hM.block _ (blk_lt hO.res) (own_ne hrow hO.res (by decide))).trans hO.res
      have hM0 := Lib.hid ((Moves.refl (fun i => (Value.slice b n mm).ownBlock = some i) wr).drew)
      have hB0 := Lib.hid ((Below.refl wr.heap.size wr).drew)
      have HROW := Lib.hid hrow
      have HOO := Lib.hid hO
      clear hrow hO hout
      go_upto_region 5 with (fail)
      go_region_law
        (first
          | (go_simp; go_at_call 9; (with_reducible refine (HENT.out _).mono ?_); rintro e w7 ⟨rfl, hb7⟩; have hM1 := Lib.hid (hM0.out.trans (Moves.of_below (S := fun i => (Value.slice b n mm).ownBlock = some i) hb7) (fun _ _ h => h)); clear hM0; have hM0 := hM1; clear hM1; have hB1 := Lib.hid (hB0.out.trans (hb7.mono hB0.out.size)); clear hB0; have hB0 := hB1; clear hB1; clear hb7; obtain ⟨s1, s2, s3, s4, s5, s6⟩ := HS.out _ hM0.out; have s7 := (HS.out _ (hM0.out.alloc (.cells #[.int .u64 (U x.hash), .int .i64 x.reg, .int .i64 x.at_, .int .i64 x.size] 40))).1)
          | (refine step_append_lies _ (by rfl) _ _ 30 (by rfl) w.heap.size 40 i0 _ 4 32 Try.underlying30 hi hz0 hz1 hz2 rfl (by decide) (.slice b n mm) k (ents (es.take k)) (by rfl) ((ownsRow_below HROW.out hB0.out).alloc _) ⟨_, 0, none⟩ 1 1 x.cells.toList (by rfl) (by rfl) (ent_new _ x) x.one (by decide) (by have := HLEN.out; unfold maxLen; omega) (by have := HLEN.out; omega) (by have := HOO.out.size; have := hB0.out.size; simp; omega) _ rfl ?_; intro g2 cap2 w8 hown hgrow hat hlt8; have hM1 := Lib.hid ((hM0.out.alloc _).trans (Moves.of_grown (S := fun i => (Value.slice b n mm).ownBlock = some i) hgrow (fun _ e => e)) (fun _ _ h => h)); clear hM0; have hM0 := hM1; clear hM1; have HOWN := Lib.hid hown; have hk8 := HBK.out _ hM0.out; have c8 : w8.cell? ⟨w.heap.size + 2, 2, none⟩ = some (.slice b n mm) := blk_cell hk8 2; have f8 := blk_frozen hk8 2; have HK8 := Lib.hid hk8; clear hown hgrow hk8))
      all_goals
        have hnew := ofAt_next HOO.out HROW.out hM0.out (HDC.out _ hM0.out) (HRS.out _ hM0.out) HK8.out HX.out HOWN.out
        have HNEW := Lib.hid hnew
        clear hnew
        go_wp2
        go_roundw
        case rel => exact ⟨k + 1, by omega, by go_num, HNEW.out⟩
        case measure => simp [intOf]; omega
    · obtain rfl : k = es.length := by omega
      obtain ⟨b, n, mm, hout, hrow⟩ := hO.out
      have c4 : wr.cell? ⟨w.heap.size + 2, 0, none⟩ = some (.int .i64 d) := blk_cell hout 0
      have c5 : wr.cell? ⟨w.heap.size + 2, 1, none⟩ = some (.int .i64 p) := blk_cell hout 1
      have c6 : wr.cell? ⟨w.heap.size + 2, 2, none⟩ = some (.slice b n mm) := blk_cell hout 2
      rw [List.take_length] at hrow
      have HRES := Lib.hid hO.res
      have HEE := Lib.hid (EntsAt.of_owns hrow rfl)
      have HBB := Lib.hid hO.bel
      clear hout hrow hO HO
      go_wp2_with (first
        | (refine wpList_store_row (o := ⟨none, _, _, _, _, _⟩) rfl 32 (.tmp 2) (.tmp 28) rfl (w.heap.size + 1) (bktC d p (.slice b n mm)) rfl rfl 32 (bktC 0 0 (.slice none 0 0)) HRES.out (bkt_sz _ _ _) rfl ?_ ?_; exact bkt_one _ _ _ _ _))
      have hend := setRow_heap wr (w.heap.size + 1) _ (bktC d p (.slice b n mm)) _ _ HRES.out
      refine bodyPost_ret (results_cell_row rfl _ _ (w.heap.size + 1) 32 (bktC d p (.slice b n mm)) (0, 0) _ rfl hend Try.underlying32 rfl (bkt_sz _ _ _)) rfl ⟨_, _, _, rfl, (HEE.out.setRow HRES.out (bkt_no _ _ _ _ _) _).tight, below_setRow HBB.out (by omega) _⟩
end Go.Proofs.Ytpihncafmjbccaa

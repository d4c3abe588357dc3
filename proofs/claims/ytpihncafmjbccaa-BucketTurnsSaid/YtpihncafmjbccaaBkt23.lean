/-
  bucket.Put.
  Conditions: none.
-/
import Derived.Test.YtpihncafmjbccaaBkt22
import Derived.Test.YtpihncafmjbccaaBkt3
import Derived.Deep.RegionHeldLaw
import Derived.Deep.RegionHeld3
namespace Go.Proofs.Ytpihncafmjbccaa
open Go.RowKit
attribute [local go_sem] Oper.semAt_some

/-- The entries with one more, or one in another's place. -/
def putE (y : Ent) (es : List Ent) : List Ent :=
  ((es.filter fun x => !decide (x.hash = y.hash)).filter fun x => decide (U x.hash < U y.hash)) ++ [y] ++ ((es.filter fun x => !decide (x.hash = y.hash)).filter fun x => !decide (U x.hash < U y.hash))
set_option maxHeartbeats 1000000 in
theorem put1_any (x y : Ent) (H : Nat) (W : World) (hc : W.cell? ⟨H, 0, none⟩ = some (.int .u64 (U y.hash))) :
    Calls Try.prog 27 #[.agg x.cells, .pointer (some ⟨H, 0, none⟩)] W fun e W' => e = .returned (.bool (decide (U x.hash < U y.hash))) ∧ Below W.heap.size W W' := by
  have hc' : (W.alloc (.cells #[.int .u64 (U x.hash), .int .i64 x.reg, .int .i64 x.at_, .int .i64 x.size] 40)).cell? ⟨H, 0, none⟩ = some (.int .u64 (U y.hash)) := (World.cell?_of_block (Below.heap_alloc _ _ _ (World.block_lt_of_cell? _ _ hc))).trans hc
  unfold Ent.cells
  go_enter Try.func27, Try.ntmps27
  go_wp2
  go_ret
  exact ⟨rfl, (Below.refl _ W).alloc (Nat.le_refl _) _⟩
theorem step_store_row {P : Program} {w : World} {ops : Array Oper} {o : Oper} {a : Act} {K : Act → World → Prop} {Q : Exit → Act → World → Prop} {E : Prop} (hgd : o.guard = none) (ty : TypeId) (x y : Operand) (ho : o.op = .store ty x y)
    (g : Nat) (cells : Array Value) (hx : a.eval x = .pointer (some ⟨g, 0, none⟩)) (hy : a.eval y = .agg cells)
    (t : TypeId) (old : Array Value) (hg : w.heap[g]? = some (.cells old t (0, 0))) (hi : (P.info? ty).map (·.size) = some cells.size)
    (hold : old.size = cells.size) (h1 : cells.all (·.oneCell') = true) (h : K (a.put o.dst undef) (w.setRow g cells)) :
    if Region.wanted o (yielded ops a.tmps) = true then Oper.wp P o a w K Q else E := by
  have hw : Region.wanted o (yielded ops a.tmps) = true := by simp [Region.wanted, hgd]
  rw [if_pos hw]
  exact wp_store_row ty x y ho g cells hx hy t old hg hi hold h1 h
/-- The answer's row, written cell for cell. -/
theorem fin_row {w w3 w7 w9 : World} {a : Option Addr} {n q : Nat} {l : List Ent} (hz : w9.heap[w.heap.size + 2]? = some (.cells (bktC 0 0 (.slice none 0 0)) 32 (0, 0))) (hb : Below w3.heap.size w3 w9) (ho : OwnE w7.heap.size w9 (.slice a n q) l) (hw : Below w.heap.size w w3) (d p : Int) :
    (((w9.setCell ⟨w.heap.size + 1 + 1, 0, none⟩ (.int .i64 d)).setCell ⟨w.heap.size + 1 + 1, 1, none⟩ (.int .i64 p)).setCell ⟨w.heap.size + 1 + 1, 2, none⟩ (.slice a n q)).heap[w.heap.size + 2]? = some (.cells (bktC d p (.slice a n q)) 32 (0, 0)) ∧
    EntsAt (((w9.setCell ⟨w.heap.size + 1 + 1, 0, none⟩ (.int .i64 d)).setCell ⟨w.heap.size + 1 + 1, 1, none⟩ (.int .i64 p)).setCell ⟨w.heap.size + 1 + 1, 2, none⟩ (.slice a n q)).heap.size (((w9.setCell ⟨w.heap.size + 1 + 1, 0, none⟩ (.int .i64 d)).setCell ⟨w.heap.size + 1 + 1, 1, none⟩ (.int .i64 p)).setCell ⟨w.heap.size + 1 + 1, 2, none⟩ (.slice a n q)) (.slice a n q) l ∧
    Below w.heap.size w (((w9.setCell ⟨w.heap.size + 1 + 1, 0, none⟩ (.int .i64 d)).setCell ⟨w.heap.size + 1 + 1, 1, none⟩ (.int .i64 p)).setCell ⟨w.heap.size + 1 + 1, 2, none⟩ (.slice a n q)) := by
  have hm : Moves (fun k => k = w.heap.size + 2) w9 (((w9.setCell ⟨w.heap.size + 1 + 1, 0, none⟩ (.int .i64 d)).setCell ⟨w.heap.size + 1 + 1, 1, none⟩ (.int .i64 p)).setCell ⟨w.heap.size + 1 + 1, 2, none⟩ (.slice a n q)) :=
    (((Moves.refl (fun k => k = w.heap.size + 2) w9).setCell (p := ⟨w.heap.size + 2, 0, none⟩) (fun _ => rfl) _).setCell (p := ⟨w.heap.size + 2, 1, none⟩) (fun _ => rfl) _).setCell (p := ⟨w.heap.size + 2, 2, none⟩) (fun _ => rfl) _
  have hlt : w.heap.size ≤ w9.heap.size := Nat.le_trans hw.size hb.size
  have h1 := blk_set (blk_set (blk_set hz 0 (.int .i64 d)) 1 (.int .i64 p)) 2 (.slice a n q)
  refine ⟨by simpa [bktC] using h1, EntsAt.of_owns (hm.row ho (fun j e (ej : j = w.heap.size + 2) => by subst ej; exact own_ne ho hz (by decide) e)) rfl, (hw.trans (hb.mono hw.size)).trans (hm.below (fun j (e : j = w.heap.size + 2) => by omega) hlt)⟩
set_option maxRecDepth 100000 in
set_option maxHeartbeats 8000000 in
theorem bktPut_any (d p : Int) (y : Ent) (a : Option Addr) (m c : Nat) (es : List Ent) (w : World) (hE : EntsAt w.heap.size w (.slice a m c) es) (hlen : es.length ≤ 10000) :
    Calls Try.prog 13 #[.agg #[.int .i64 d, .int .i64 p, .slice a m c], .agg y.cells] w (BktRet d p (putE y es) w) := by
  obtain ⟨_, _, e0, _⟩ := hE.slice
  cases e0
  unfold putE
  obtain ⟨l, hl⟩ : ∃ l, (es.filter fun x => !decide (x.hash = y.hash)) = l := ⟨_, rfl⟩
  have hll : l.length ≤ 10000 := by rw [← hl]; exact Nat.le_trans (List.length_filter_le _ _) hlen
  obtain ⟨w3, hw3⟩ : ∃ w3, (((w.alloc (.cells #[.int .i64 d, .int .i64 p, .slice a es.length c] 32)).alloc (.cells y.cells 40)).alloc (.cells #[.int .i64 0, .int .i64 0, .slice none 0 0] 32)) = w3 := ⟨_, rfl⟩
  have hb3 : Below w.heap.size w w3 := by rw [← hw3]; exact (((Below.refl _ w).alloc (Nat.le_refl _) _).alloc (by simp) _).alloc (by simp; omega) _
  have k0 : w3.heap[w.heap.size]? = some (.cells #[.int .i64 d, .int .i64 p, .slice a es.length c] 32 (0, 0)) := by rw [← hw3]; exact blk_alloc (blk_alloc (heap_alloc_new _ _) _) _
  have k1 : w3.heap[w.heap.size + 1]? = some (.cells y.cells 40 (0, 0)) := by
    rw [← hw3]
    have := heap_alloc_new (w.alloc (.cells #[.int .i64 d, .int .i64 p, .slice a es.length c] 32)) (.cells y.cells 40)
    rw [World.size_alloc] at this
    exact blk_alloc this _
  have k2 : w3.heap[w.heap.size + 2]? = some (.cells (bktC 0 0 (.slice none 0 0)) 32 (0, 0)) := by
    rw [← hw3]
    have := heap_alloc_new ((w.alloc (.cells #[.int .i64 d, .int .i64 p, .slice a es.length c] 32)).alloc (.cells y.cells 40)) (.cells #[.int .i64 0, .int .i64 0, .slice none 0 0] 32)
    rw [World.size_alloc, World.size_alloc] at this
    exact this
  have HDR := Lib.hid (drop_any d p y.hash a es.length c es w3 (hE.next hb3) (by omega))
  rw [hl] at HDR
  have HW3 := Lib.hid hw3
  have HB3 := Lib.hid hb3
  have HL := Lib.hid hll
  have HLE := Lib.hid hl
  have HC : Hid (∀ W, Below w3.heap.size w3 W → (W.cell? ⟨w.heap.size, 0, none⟩ = some (.int .i64 d) ∧ W.cell? ⟨w.heap.size, 1, none⟩ = some (.int .i64 p)) ∧ (W.cell? ⟨w.heap.size + 1, 0, none⟩ = some (.int .u64 (U y.hash)) ∧ W.cell? ⟨w.heap.size + 1, 1, none⟩ = some (.int .i64 y.reg) ∧ W.cell? ⟨w.heap.size + 1, 2, none⟩ = some (.int .i64 y.at_) ∧ W.cell? ⟨w.heap.size + 1, 3, none⟩ = some (.int .i64 y.size)) ∧ W.heap[w.heap.size + 2]? = some (.cells (bktC 0 0 (.slice none 0 0)) 32 (0, 0))) := fun W hW => by
    have h0 := (hW.block _ (blk_lt k0)).trans k0
    have h1 := (hW.block _ (blk_lt k1)).trans k1
    exact ⟨⟨blk_cell h0 0, blk_cell h0 1⟩, ⟨blk_cell h1 0, blk_cell h1 1, blk_cell h1 2, blk_cell h1 3⟩, (hW.block _ (blk_lt k2)).trans k2⟩
  have c0 : w3.cell? ⟨w.heap.size, 0, none⟩ = some (.int .i64 d) := blk_cell k0 0
  have c1 : w3.cell? ⟨w.heap.size, 1, none⟩ = some (.int .i64 p) := blk_cell k0 1
  have c2 : w3.cell? ⟨w.heap.size, 2, none⟩ = some (.slice a es.length c) := blk_cell k0 2
  have e0 : w3.cell? ⟨w.heap.size + 1, 0, none⟩ = some (.int .u64 (U y.hash)) := blk_cell k1 0
  clear hw3 hb3 k0 k1 k2 hE hlen hll hl
  unfold Ent.cells at HW3 ⊢
  go_enter Try.func13, Try.ntmps13
  go_upto_region 1 with (fail)
  rw [HW3.out]
  clear HW3
  go_upto_region 2 with (first
    | (go_at_call 10; (with_reducible refine HDR.out.mono ?_); rintro e w4 ⟨a4, n4, k4, rfl, he4, hf4, hb4⟩; have HE4 := Lib.hid he4; have HF4 := Lib.hid hf4; have HB4 := Lib.hid hb4; clear he4 hf4 hb4)
    | (refine wpList_store_row (o := ⟨none, _, _, _, _, _⟩) rfl 32 (.tmp 5) (.tmp 14) rfl w4.heap.size (bktC d p (.slice a4 n4 k4)) rfl rfl 32 (bktC 0 0 (.slice none 0 0)) (heap_alloc_new _ _) (bkt_sz _ _ _) rfl ?_ ?_; exact bkt_one _ _ _ _ _))
  have hbw : Below w4.heap.size w4 ((w4.alloc (.cells (bktC 0 0 (.slice none 0 0)) 32)).setRow w4.heap.size (bktC d p (.slice a4 n4 k4))) := below_setRow ((Below.refl _ _).alloc (Nat.le_refl _) _) (Nat.le_refl _) _
  have hP5 : ((w4.alloc (.cells (bktC 0 0 (.slice none 0 0)) 32)).setRow w4.heap.size (bktC d p (.slice a4 n4 k4))).heap[w4.heap.size]? = some (.cells (bktC d p (.slice a4 n4 k4)) 32 (0, 0)) := setRow_heap _ _ _ _ _ _ (heap_alloc_new _ _)
  change (Code.region _ _ _).wp _ _ _ ((w4.alloc (.cells (bktC 0 0 (.slice none 0 0)) 32)).setRow w4.heap.size (bktC d p (.slice a4 n4 k4)))
  generalize (w4.alloc (.cells (bktC 0 0 (.slice none 0 0)) 32)).setRow w4.heap.size (bktC d p (.slice a4 n4 k4)) = w5 at hbw hP5 ⊢
  obtain ⟨_, _, e1, hlk⟩ := HE4.out.slice
  cases e1
  have hE5 := HE4.out.next hbw
  have hB5 := HB4.out.trans (hbw.mono HB4.out.size)
  obtain ⟨w6, hw6⟩ : ∃ w6, w5.alloc (.cells #[.int .i64 d, .int .i64 p, .slice a4 l.length k4] 32) = w6 := ⟨_, rfl⟩
  have hb6 : Below w5.heap.size w5 w6 := by rw [← hw6]; exact (Below.refl _ _).alloc (Nat.le_refl _) _
  have hg6 : w6.heap[w5.heap.size]? = some (.cells #[.int .i64 d, .int .i64 p, .slice a4 l.length k4] 32 (0, 0)) := by rw [← hw6]; exact heap_alloc_new _ _
  have hB6 := hB5.trans (hb6.mono hB5.size)
  have hc6 := (HC.out w6 hB6).2.1.1
  have HPART := Lib.hid (part_any 27 #[.pointer (some ⟨w.heap.size + 1, 0, none⟩)] (fun x => decide (U x.hash < U y.hash)) _ l d p a4 k4 w6 (by have := HL.out; omega) hg6 (hE5.next hb6) (enters_of Try.func27 (by kernel_rfl) rfl) (fun x W hb => put1_any x y _ W ((hb.cell (p := ⟨w.heap.size + 1, 0, none⟩) (World.block_lt_of_cell? _ _ hc6)).trans hc6)))
  have c3 : w5.cell? ⟨w4.heap.size, 0, none⟩ = some (.int .i64 d) := blk_cell hP5 0
  have c4 : w5.cell? ⟨w4.heap.size, 1, none⟩ = some (.int .i64 p) := blk_cell hP5 1
  have c5 : w5.cell? ⟨w4.heap.size, 2, none⟩ = some (.slice a4 l.length k4) := blk_cell hP5 2
  have HB6 := Lib.hid hB6
  have HW6 := Lib.hid hw6
  clear c0 c1 c2 e0 hbw hP5 hE5 hB5 hb6 hg6 hB6 hc6 hw6 HE4 hlk
  go_upto_region 3 with (first
    | (go_at_call 22; (with_reducible refine (all_any _ _ _ _ _ _).mono ?_); rintro e w' ⟨rfl, rfl⟩; rw [HW6.out])
    | (go_at_call 23; (with_reducible refine HPART.out.mono ?_); rintro e w7 ⟨a1, n1, q1, a2, n2, q2, rfl, h1, h2, ⟨_, hn1, hn2⟩, h5⟩; have HX1 := Lib.hid h1; have HX2 := Lib.hid h2; have HN1 := Lib.hid hn1; have HN2 := Lib.hid hn2; have HB7 := Lib.hid (HB6.out.trans (h5.mono HB6.out.size)); clear h1 h2 hn1 hn2 h5))
  obtain ⟨_, _, e1, _⟩ := HX1.out.slice
  cases e1
  obtain ⟨_, _, e2, _⟩ := HX2.out.slice
  cases e2
  have hl2 : (l.filter fun x => decide (U x.hash < U y.hash)).length ≤ 10000 := Nat.le_trans (List.length_filter_le _ _) HL.out
  have hl3 : (l.filter fun x => !decide (U x.hash < U y.hash)).length ≤ 10000 := Nat.le_trans (List.length_filter_le _ _) HL.out
  obtain ⟨l1, hl1⟩ : ∃ l1, (l.filter fun x => decide (U x.hash < U y.hash)) = l1 := ⟨_, rfl⟩
  obtain ⟨l2, hl2'⟩ : ∃ l2, (l.filter fun x => !decide (U x.hash < U y.hash)) = l2 := ⟨_, rfl⟩
  rw [hl1] at HX1 HN1 hl2 ⊢
  rw [hl2'] at HX2 HN2 hl3 ⊢
  have HL1 := Lib.hid hl1
  have HL2 := Lib.hid hl2'
  clear hl1 hl2'
  obtain ⟨w8, hw8⟩ : ∃ w8, (w7.alloc (.cells #[.int .u64 (U y.hash), .int .i64 y.reg, .int .i64 y.at_, .int .i64 y.size] 40)).alloc (.cells #[.slice a1 l1.length q1, .slice (some ⟨w7.heap.size, 0, none⟩) 1 1, .slice a2 l2.length q2] 30) = w8 := ⟨_, rfl⟩
  have hb8 : Below w7.heap.size w7 w8 := by rw [← hw8]; exact ((Below.refl _ _).alloc (Nat.le_refl _) _).alloc (by simp) _
  have hg8 : w8.heap[w7.heap.size + 1]? = some (.cells #[.slice a1 l1.length q1, .slice (some ⟨w7.heap.size, 0, none⟩) 1 1, .slice a2 l2.length q2] 30 (0, 0)) := by
    rw [← hw8]
    have := heap_alloc_new (w7.alloc (.cells #[.int .u64 (U y.hash), .int .i64 y.reg, .int .i64 y.at_, .int .i64 y.size] 40)) (.cells #[.slice a1 l1.length q1, .slice (some ⟨w7.heap.size, 0, none⟩) 1 1, .slice a2 l2.length q2] 30)
    rw [World.size_alloc] at this
    exact this
  have hy8 : EntsAt w8.heap.size w8 (.slice (some ⟨w7.heap.size, 0, none⟩) [y].length 1) [y] := by
    have h := World.ownsRow_lit (base := w7.heap.size) (e := 40) (size := 4) w7 #[.int .u64 (U y.hash), .int .i64 y.reg, .int .i64 y.at_, .int .i64 y.size] 1 (Nat.le_refl _) (by unfold maxLen; omega) rfl
    have h2 : (w7.alloc (.cells #[.int .u64 (U y.hash), .int .i64 y.reg, .int .i64 y.at_, .int .i64 y.size] 40)).ownsRow w7.heap.size 40 4 (.slice (some ⟨w7.heap.size, 0, none⟩) 1 1) 1 (ents [y]) := h
    rw [← hw8]
    exact EntsAt.of_owns (h2.alloc _) rfl
  have HCO := Lib.hid (concat3_any (w7.heap.size + 1) a1 (some ⟨w7.heap.size, 0, none⟩) a2 q1 1 q2 l1 [y] l2 w8.drew (blk_cell hg8 0) (blk_cell hg8 1) (blk_cell hg8 2) (HX1.out.next hb8.drew) hy8 (HX2.out.next hb8.drew) HN1.out (fun _ _ h => by cases h) HN2.out (by simp; omega) (by simp; omega))
  rw [← hw8] at HCO
  have HB8 := Lib.hid (HB7.out.trans (hb8.mono HB7.out.size)).drew
  rw [← hw8] at HB8
  have HS : Hid (∀ W, Below w3.heap.size w3 W → (fun (W : World) => W.cell? ⟨w.heap.size, 0, none⟩ = some (.int .i64 d) ∧ W.cell? ⟨w.heap.size, 1, none⟩ = some (.int .i64 p) ∧ W.cell? ⟨w.heap.size + 1, 0, none⟩ = some (.int .u64 (U y.hash)) ∧ W.cell? ⟨w.heap.size + 1, 1, none⟩ = some (.int .i64 y.reg) ∧ W.cell? ⟨w.heap.size + 1, 2, none⟩ = some (.int .i64 y.at_) ∧ W.cell? ⟨w.heap.size + 1, 3, none⟩ = some (.int .i64 y.size)) W) := fun W hW => by
    obtain ⟨⟨f1, f2⟩, ⟨f3, f4, f5, f6⟩, _⟩ := HC.out W hW
    exact ⟨f1, f2, f3, f4, f5, f6⟩
  have HSS : Hid (∀ W v0 v1 v2, (fun (W : World) => W.cell? ⟨w.heap.size, 0, none⟩ = some (.int .i64 d) ∧ W.cell? ⟨w.heap.size, 1, none⟩ = some (.int .i64 p) ∧ W.cell? ⟨w.heap.size + 1, 0, none⟩ = some (.int .u64 (U y.hash)) ∧ W.cell? ⟨w.heap.size + 1, 1, none⟩ = some (.int .i64 y.reg) ∧ W.cell? ⟨w.heap.size + 1, 2, none⟩ = some (.int .i64 y.at_) ∧ W.cell? ⟨w.heap.size + 1, 3, none⟩ = some (.int .i64 y.size)) W → (fun (W : World) => W.cell? ⟨w.heap.size, 0, none⟩ = some (.int .i64 d) ∧ W.cell? ⟨w.heap.size, 1, none⟩ = some (.int .i64 p) ∧ W.cell? ⟨w.heap.size + 1, 0, none⟩ = some (.int .u64 (U y.hash)) ∧ W.cell? ⟨w.heap.size + 1, 1, none⟩ = some (.int .i64 y.reg) ∧ W.cell? ⟨w.heap.size + 1, 2, none⟩ = some (.int .i64 y.at_) ∧ W.cell? ⟨w.heap.size + 1, 3, none⟩ = some (.int .i64 y.size)) (((W.setCell ⟨w.heap.size + 1 + 1, 0, none⟩ v0).setCell ⟨w.heap.size + 1 + 1, 1, none⟩ v1).setCell ⟨w.heap.size + 1 + 1, 2, none⟩ v2)) := fun W v0 v1 v2 h => by
    have hm : ∀ k, k < w.heap.size + 2 → (((W.setCell ⟨w.heap.size + 1 + 1, 0, none⟩ v0).setCell ⟨w.heap.size + 1 + 1, 1, none⟩ v1).setCell ⟨w.heap.size + 1 + 1, 2, none⟩ v2).heap[k]? = W.heap[k]? := fun k hk =>
      (Below.heap_setCell _ _ _ _ (by show k ≠ w.heap.size + 2; omega)).trans ((Below.heap_setCell _ _ _ _ (by show k ≠ w.heap.size + 2; omega)).trans (Below.heap_setCell _ _ _ _ (by show k ≠ w.heap.size + 2; omega)))
    obtain ⟨f1, f2, f3, f4, f5, f6⟩ := h
    exact ⟨(World.cell?_of_block (hm w.heap.size (by omega))).trans f1, (World.cell?_of_block (hm w.heap.size (by omega))).trans f2, (World.cell?_of_block (hm (w.heap.size + 1) (by omega))).trans f3, (World.cell?_of_block (hm (w.heap.size + 1) (by omega))).trans f4, (World.cell?_of_block (hm (w.heap.size + 1) (by omega))).trans f5, (World.cell?_of_block (hm (w.heap.size + 1) (by omega))).trans f6⟩
  have HBA := Lib.hid (HB7.out.alloc HB7.out.size (.cells #[.int .u64 (U y.hash), .int .i64 y.reg, .int .i64 y.at_, .int .i64 y.size] 40)).drew
  clear c3 c4 c5 hw8 hb8 hg8 hy8 HPART
  go_region_held3 (fun (W : World) => W.cell? ⟨w.heap.size, 0, none⟩ = some (.int .i64 d) ∧ W.cell? ⟨w.heap.size, 1, none⟩ = some (.int .i64 p) ∧ W.cell? ⟨w.heap.size + 1, 0, none⟩ = some (.int .u64 (U y.hash)) ∧ W.cell? ⟨w.heap.size + 1, 1, none⟩ = some (.int .i64 y.reg) ∧ W.cell? ⟨w.heap.size + 1, 2, none⟩ = some (.int .i64 y.at_) ∧ W.cell? ⟨w.heap.size + 1, 3, none⟩ = some (.int .i64 y.size))
    (first | exact HS.out _ HB7.out.drew | exact HS.out _ HBA.out | exact HS.out _ HB8.out | exact HS.out _ HB9.out | exact HSS.out _ _ _ _ (HS.out _ HB9.out))
    (first
      | (go_at_call 28; (with_reducible refine HCO.out.mono ?_); rintro e w9 ⟨v9, rfl, ho9, hb9⟩; obtain ⟨a9, q9, hv9⟩ := owns_slice ho9; obtain ⟨n9, hn9⟩ : ∃ n9, (l1 ++ [y] ++ l2).length = n9 := ⟨_, rfl⟩; rw [hn9] at hv9; subst hv9; clear hn9; have HO9 := Lib.hid ho9; have HB9 := Lib.hid (HB8.out.trans (hb9.mono HB8.out.size)); obtain ⟨⟨j1, j2⟩, _, hz9⟩ := HC.out _ HB9.out; have HZ9 := Lib.hid hz9; have z0 : w9.cell? ⟨w.heap.size + 1 + 1, 0, none⟩ = some (.int .i64 0) := blk_cell hz9 0; have z1 : w9.cell? ⟨w.heap.size + 1 + 1, 1, none⟩ = some (.int .i64 0) := blk_cell hz9 1; have z2 : w9.cell? ⟨w.heap.size + 1 + 1, 2, none⟩ = some (.slice none 0 0) := blk_cell hz9 2; have y0 : w9.frozen? ⟨w.heap.size + 1 + 1, 0, none⟩ = false := blk_frozen hz9 0; have y1 : w9.frozen? ⟨w.heap.size + 1 + 1, 1, none⟩ = false := blk_frozen hz9 1; have y2 : w9.frozen? ⟨w.heap.size + 1 + 1, 2, none⟩ = false := blk_frozen hz9 2; clear ho9 hb9 hz9))
  all_goals
    have hfin := fin_row HZ9.out HB9.out HO9.out HB3.out d p
    have HE := Lib.hid hfin
    clear hfin
    go_wp2
    refine bodyPost_ret (results_cell_row rfl _ _ (w.heap.size + 2) 32 (bktC d p (.slice a9 n9 q9)) (0, 0) _ rfl HE.out.1 Try.underlying32 rfl (bkt_sz _ _ _)) rfl ⟨_, _, _, rfl, by rw [HLE.out, HL1.out, HL2.out]; exact HE.out.2.1, HE.out.2.2⟩
end Go.Proofs.Ytpihncafmjbccaa

/-
  sgraffitoref14.Split.
  Conditions: none.
-/
import Derived.Test.YtpihncafmjbccaaBkt8
import Derived.Test.YtpihncafmjbccaaBkt9a
import Derived.Test.YtpihncafmjbccaaHalfMath
namespace Go.Proofs.Ytpihncafmjbccaa
open Go.RowKit
attribute [local go_sem] Oper.semAt_some

/-- What the reference's Split keeps. -/
structure SpAt (w : World) (d p : Int) (a : Option Addr) (n c : Nat) (D P : Int) (xs : List Ent) (v : Value) (W : World) : Prop where
  bel : Below w.heap.size w W
  size : w.heap.size + 3 ≤ W.heap.size
  doc : W.heap[w.heap.size]? = some (.cells (bktC d p (.slice a n c)) 24 (0, 0))
  res : W.heap[w.heap.size + 1]? = some (.cells (bktC 0 0 (.slice none 0 0)) 24 (0, 0))
  out : W.heap[w.heap.size + 2]? = some (.cells (bktC D P v) 24 (0, 0))
  row : W.ownsRow w.heap.size 27 4 v xs.length (ents xs)
theorem SpAt.on {w W W' : World} {d p : Int} {a : Option Addr} {n c : Nat} {D P : Int} {xs : List Ent} {v : Value} (h : SpAt w d p a n c D P xs v W) (hb : Below W.heap.size W W') : SpAt w d p a n c D P xs v W' :=
  ⟨h.bel.trans (hb.mono h.bel.size), Nat.le_trans h.size hb.size, (hb.block _ (blk_lt h.doc)).trans h.doc, (hb.block _ (blk_lt h.res)).trans h.res, (hb.block _ (blk_lt h.out)).trans h.out, (Moves.of_below (S := fun _ => False) hb).row h.row (fun _ _ f => f)⟩
theorem spAt_first (w : World) (d p : Int) (a : Option Addr) (n c : Nat) (D P : Int) :
    SpAt w d p a n c D P [] (.slice none 0 0) (((w.alloc (.cells #[.int .i64 d, .int .i64 p, .slice a n c] 24)).alloc (.cells #[.int .i64 0, .int .i64 0, .slice none 0 0] 24)).alloc (.cells #[.int .i64 D, .int .i64 P, .slice none 0 0] 24)) := by
  refine ⟨(((Below.refl _ w).alloc (Nat.le_refl _) _).alloc (by simp) _).alloc (by simp; omega) _, by simp, blk_alloc (blk_alloc (heap_alloc_new _ _) _) _, ?_, ?_, World.ownsRow_nil _ _ _ _⟩
  · have := heap_alloc_new (w.alloc (.cells #[.int .i64 d, .int .i64 p, .slice a n c] 24)) (.cells #[.int .i64 0, .int .i64 0, .slice none 0 0] 24)
    rw [World.size_alloc] at this
    exact blk_alloc this _
  · have := heap_alloc_new ((w.alloc (.cells #[.int .i64 d, .int .i64 p, .slice a n c] 24)).alloc (.cells #[.int .i64 0, .int .i64 0, .slice none 0 0] 24)) (.cells #[.int .i64 D, .int .i64 P, .slice none 0 0] 24)
    rw [World.size_alloc, World.size_alloc] at this
    exact this
theorem SpAt.next {w W9 W10 : World} {d p : Int} {a : Option Addr} {n c m : Nat} {D P : Int} {xs : List Ent} {x : Ent} {v v' : Value} {tmp : Obj} (h : SpAt w d p a n c D P xs v W9)
    (hgrow : (W9.alloc tmp).grownBy W10 v.ownBlock) (hown : W10.ownsRow w.heap.size 27 4 v' m (ents xs ++ x.cells.toList)) (hm : m = xs.length + 1) :
    W10.heap[w.heap.size + 2]? = some (.cells (bktC D P v) 24 (0, 0)) ∧ SpAt w d p a n c D P (xs ++ [x]) v' (W10.setCell ⟨w.heap.size + 2, 2, none⟩ v') := by
  subst hm
  have hsz := h.size
  have hm : Moves (fun j => v.ownBlock = some j) W9 W10 := (Moves.of_below ((Below.refl W9.heap.size W9).alloc (Nat.le_refl _) tmp)).trans (Moves.of_grown hgrow (fun _ e => e)) (fun _ _ h => h)
  have hd10 := (hm.block _ (blk_lt h.doc) (fun e => own_ne h.row h.doc (by decide) e)).trans h.doc
  have hr10 := (hm.block _ (blk_lt h.res) (fun e => own_ne h.row h.res (by decide) e)).trans h.res
  have ho10 := (hm.block _ (blk_lt h.out) (fun e => own_ne h.row h.out (by decide) e)).trans h.out
  have hms : Moves (fun j => j = w.heap.size + 2) W10 (W10.setCell ⟨w.heap.size + 2, 2, none⟩ v') := (Moves.refl (fun j => j = w.heap.size + 2) W10).setCell (p := ⟨w.heap.size + 2, 2, none⟩) (fun _ => rfl) v'
  refine ⟨ho10, ⟨(h.bel.trans (hm.below (fun j e => (h.row.lt j e).1) (by omega))).trans (hms.below (fun j (e : j = w.heap.size + 2) => by omega) (by have := hm.size; omega)), by have := hm.size; have := hms.size; omega, (hms.block _ (blk_lt hd10) (by omega)).trans hd10, (hms.block _ (blk_lt hr10) (by omega)).trans hr10, ?_, ?_⟩⟩
  · have := blk_set ho10 2 v'
    simpa [bktC] using this
  · have h9 : W10.ownsRow w.heap.size 27 4 v' (xs ++ [x]).length (ents (xs ++ [x])) := by
      rw [ents_snoc, List.length_append, List.length_singleton]
      exact hown
    exact hms.row h9 (fun j e (ej : j = w.heap.size + 2) => by subst ej; exact own_ne hown ho10 (by decide) e)
set_option maxRecDepth 100000 in
set_option maxHeartbeats 4000000 in
theorem refSplit_any (d p b : Nat) (hd : d ≤ 8) (hp : p < 1048576) (hb1 : b ≤ 1) (a : Option Addr) (m c : Nat) (es : List Ent) (w : World) (hE : EntsAt w.heap.size w (.slice a m c) es) (hlen : es.length ≤ 100000) :
    Calls Try.prog 18 #[.agg #[.int .i64 d, .int .i64 p, .slice a m c], .int .i64 b] w (BktRet (d + 1) (2 * p + b) (es.filter fun x => preI x.hash (d + 1) == 2 * (p : Int) + b) w) := by
  obtain ⟨i0, hi, hz0, hz1, hz2⟩ := info_parts4 infoEntD
  obtain ⟨_, _, e0, hc0⟩ := hE.slice
  cases e0
  have HO := Lib.hid (spAt_first w d p a es.length c (d + 1) (2 * p + b))
  have HE := Lib.hid hE
  have HALL := Lib.hid (upE_all (fun x => preI x.hash (d + 1) == 2 * (p : Int) + b) es)
  have HUL := Lib.hid (upE_len (fun x => preI x.hash (d + 1) == 2 * (p : Int) + b) es)
  have hl1 : (es.length : Int) ≤ 100000 := by omega
  have HLEN := Lib.hid hlen
  have hd2 : (d : Int) ≤ 8 := by omega
  have hp2 : (p : Int) ≤ 1048575 := by omega
  have hb2 : (b : Int) ≤ 1 := by omega
  have HPF := Lib.hid (fun (h : BitVec 64) (W : World) => refPrefix_any h ((d : Int) + 1) W)
  clear hE hlen hd hp hb1
  go_enter Try.func18, Try.ntmps18
  go_wp2
  go_loopw [6] (fun i wr => ∃ k : Nat, k ≤ es.length ∧ i = .int .i64 k ∧ ∃ v, SpAt w d p a es.length c (d + 1) (2 * p + b) (upE (fun x => preI x.hash (d + 1) == 2 * (p : Int) + b) es k) v wr) (fun i _ => es.length - (intOf i).toNat)
  case atStart => exact ⟨0, Nat.zero_le _, rfl, _, HO.out⟩
  case round =>
    obtain ⟨k, hk, rfl, v, hO⟩ := hrel
    have c2 : wr.cell? ⟨w.heap.size, 2, none⟩ = some (.slice a es.length c) := blk_cell hO.doc 2
    by_cases hlt : k < es.length
    · obtain ⟨g, off, rfl, hg, e4⟩ := HE.out.get hlt
      obtain ⟨q0, q1, q2, q3⟩ := e4
      have k1 : (k : Int) < es.length := by omega
      have HYES := Lib.hid (upE_yes (P := fun x => preI x.hash (d + 1) == 2 * (p : Int) + b) hlt)
      have HNO := Lib.hid (upE_no (P := fun x => preI x.hash (d + 1) == 2 * (p : Int) + b) hlt)
      have HUK := Lib.hid (show (upE (fun x => preI x.hash (d + 1) == 2 * (p : Int) + b) es k).length ≤ 100000 from Nat.le_trans (HUL.out k) HLEN.out)
      generalize es[k]?.getD default = x at q0 q1 q2 q3 HYES HNO
      generalize upE (fun x => preI x.hash (d + 1) == 2 * (p : Int) + b) es k = xs at hO HYES HNO HUK
      have HC : Hid (∀ W, Below wr.heap.size wr W → SpAt w d p (some ⟨g, off, none⟩) es.length c (d + 1) (2 * p + b) xs v W ∧ (W.cell? ⟨w.heap.size, 2, none⟩ = some (.slice (some ⟨g, off, none⟩) es.length c) ∧ W.cell? ⟨w.heap.size, 0, none⟩ = some (.int .i64 d) ∧ W.cell? ⟨w.heap.size + 2, 1, none⟩ = some (.int .i64 (2 * (p : Int) + b)) ∧ W.cell? ⟨w.heap.size + 2, 2, none⟩ = some v) ∧
          (W.cell? ⟨g, off + k * 4, none⟩ = some (.int .u64 (U x.hash)) ∧ W.cell? ⟨g, off + k * 4 + 1, none⟩ = some (.int .i64 x.reg) ∧ W.cell? ⟨g, off + k * 4 + 2, none⟩ = some (.int .i64 x.at_) ∧ W.cell? ⟨g, off + k * 4 + 3, none⟩ = some (.int .i64 x.size))) := fun W hW =>
        have h := hO.on hW
        ⟨h, ⟨blk_cell h.doc 2, blk_cell h.doc 0, blk_cell h.out 1, blk_cell h.out 2⟩, ⟨(h.bel.cell (p := ⟨g, _, none⟩) hg).trans q0, (h.bel.cell (p := ⟨g, _, none⟩) hg).trans q1, (h.bel.cell (p := ⟨g, _, none⟩) hg).trans q2, (h.bel.cell (p := ⟨g, _, none⟩) hg).trans q3⟩⟩
      have a1 : ∀ q : After wr, q.v.cell? ⟨w.heap.size, 2, none⟩ = some (.slice (some ⟨g, off, none⟩) es.length c) := fun q => (HC.out q.v q.h).2.1.1
      have a2 : ∀ q : After wr, q.v.cell? ⟨w.heap.size, 0, none⟩ = some (.int .i64 d) := fun q => (HC.out q.v q.h).2.1.2.1
      have a3 : ∀ q : After wr, q.v.cell? ⟨w.heap.size + 2, 1, none⟩ = some (.int .i64 (2 * (p : Int) + b)) := fun q => (HC.out q.v q.h).2.1.2.2.1
      have a4 : ∀ q : After wr, q.v.cell? ⟨g, off + k * 4, none⟩ = some (.int .u64 (U x.hash)) := fun q => (HC.out q.v q.h).2.2.1
      have HPC : Hid (∀ q : After wr, Calls Try.prog 21 #[.int .u64 (U x.hash), .int .i64 ((d : Int) + 1)] q.v fun e w' => e = .returned (.int .i64 (preI x.hash ((d : Int) + 1))) ∧ Below q.v.heap.size q.v w') := fun q => HPF.out x.hash q.v
      have HLT := Lib.hid hlt
      clear q0 q1 q2 q3 hc0 HO hO hg hlt hk
      cases hpp : (preI x.hash ((d : Int) + 1) == 2 * (p : Int) + b) with
      | false =>
        have HN := Lib.hid (HNO.out hpp)
        clear HYES HNO
        generalize preI x.hash ((d : Int) + 1) = pv at hpp HPC
        go_upto_region 5 with (fail)
        clear c2
        refine wp_region_after (by kernel_rfl) (by kernel_rfl) ?_
        repeat (go_big_quiet_step ((go_at_call 21; with_reducible exact after_call (HPC.out _))))
        refine wpQuiet_nil ?_
        rintro W9 ⟨⟨_, hW9⟩, rfl⟩
        have HW9 := Lib.hid hW9
        clear hW9 a1 a2 a3 a4 HPC
        go_wp2
        go_roundw
        case rel => exact ⟨k + 1, HLT.out, by go_num, v, by rw [HN.out]; exact (HC.out _ HW9.out).1⟩
        case measure => have := HLT.out; simp [intOf]; omega
      | true =>
        have HN := Lib.hid (HYES.out hpp)
        clear HYES HNO
        generalize preI x.hash ((d : Int) + 1) = pv at hpp HPC
        go_upto_region 5 with (fail)
        clear c2
        refine wp_region_after (by kernel_rfl) (by kernel_rfl) ?_
        repeat (go_big_quiet_step ((go_at_call 21; with_reducible exact after_call (HPC.out _))))
        refine wpQuiet_nil ?_
        rintro W9 ⟨⟨_, hW9⟩, rfl⟩
        have hx9 : Below wr.heap.size wr W9.drew := hW9.drew
        have hxa : Below wr.heap.size wr (W9.alloc (.cells #[.int .u64 (U x.hash), .int .i64 x.reg, .int .i64 x.at_, .int .i64 x.size] 27)).drew := (hW9.alloc hW9.size _).drew
        have HX9 := Lib.hid hx9
        obtain ⟨_, ⟨s0, _, _, s3⟩, r0, r1, r2, r3⟩ := HC.out _ hx9
        obtain ⟨_, ⟨t0, _, _, t3⟩, _⟩ := HC.out _ hxa
        clear hW9 a1 a2 a3 a4 HPC hx9 hxa
        go_upto_region 6 with (fail)
        go_region_law
          (refine step_append_lies _ (by rfl) _ _ 22 (by rfl) w.heap.size 27 i0 _ 4 32 Try.underlying22 hi hz0 hz1 hz2 rfl (by decide) v xs.length (ents xs) (by rfl) (((HC.out _ HX9.out).1.row).alloc _) ⟨_, 0, none⟩ 1 1 x.cells.toList (by rfl) (by rfl) (ent_newD _ x) x.one (by decide) (by have := HUK.out; unfold maxLen; omega) (by have := HUK.out; omega) (by have := (HC.out _ HX9.out).1.size; simp at this ⊢; omega) _ rfl ?_; intro g2 cap2 w10 hown hgrow hat hlt10; have hu := (HC.out _ HX9.out).1.next hgrow hown rfl; have c8 : w10.cell? ⟨w.heap.size + 2, 2, none⟩ = some v := blk_cell hu.1 2; have f8 := blk_frozen hu.1 2; have HNEW := Lib.hid hu.2; clear hown hgrow hu hat hlt10)
        all_goals
          go_wp2
          go_roundw
          case rel => exact ⟨k + 1, HLT.out, by go_num, _, by rw [HN.out]; exact HNEW.out⟩
          case measure => have := HLT.out; simp [intOf]; omega
    · obtain rfl : k = es.length := by omega
      rw [HALL.out] at hO
      obtain ⟨a', n', rfl⟩ := owns_slice hO.row
      obtain ⟨xs, hxs⟩ : ∃ xs, es.filter (fun x => preI x.hash (d + 1) == 2 * (p : Int) + b) = xs := ⟨_, rfl⟩
      rw [hxs] at hO
      have HXS := Lib.hid hxs
      have HOO := Lib.hid hO
      have c0 : wr.cell? ⟨w.heap.size + 2, 0, none⟩ = some (.int .i64 ((d : Int) + 1)) := blk_cell hO.out 0
      have c1 : wr.cell? ⟨w.heap.size + 2, 1, none⟩ = some (.int .i64 (2 * (p : Int) + b)) := blk_cell hO.out 1
      have c3 : wr.cell? ⟨w.heap.size + 2, 2, none⟩ = some (.slice a' xs.length n') := blk_cell hO.out 2
      clear hO HO hxs HALL HUL
      go_wp2_with (first
        | (refine wpList_store_row (o := ⟨none, _, _, _, _, _⟩) rfl 24 (.tmp 4) (.tmp 46) rfl (w.heap.size + 1) (bktC (d + 1) (2 * p + b) (.slice a' xs.length n')) rfl rfl 24 (bktC 0 0 (.slice none 0 0)) HOO.out.res (bktD_sz _ _ _) rfl ?_ ?_; exact bkt_one _ _ _ _ _))
      have hend := setRow_heap _ (w.heap.size + 1) _ (bktC (d + 1) (2 * p + b) (.slice a' xs.length n')) _ _ HOO.out.res
      refine bodyPost_ret (results_cell_row rfl _ _ (w.heap.size + 1) 24 (bktC (d + 1) (2 * p + b) (.slice a' xs.length n')) (0, 0) _ rfl hend Try.underlying24 rfl (bktD_sz _ _ _)) rfl ⟨_, _, _, rfl, by rw [HXS.out]; exact ((EntsAt.of_owns HOO.out.row rfl).setRow HOO.out.res (bkt_no _ _ _ _ _) _).tight, below_setRow HOO.out.bel (by omega) _⟩
end Go.Proofs.Ytpihncafmjbccaa

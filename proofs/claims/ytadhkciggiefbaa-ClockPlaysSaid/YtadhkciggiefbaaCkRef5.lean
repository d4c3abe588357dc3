/-
  The document's own clock: Get.
  Conditions: none.
-/
import Derived.Test.YtadhkciggiefbaaCkRef4
import Derived.Deep.RegionHeld3
namespace Go.Proofs.Ytadhkciggiefbaa
open Go.RowKit

theorem refGet_res (w : World) (g : Nat) (v x : Value) (hand : Int) (b : Bool) (tmps : Array Value) (h4 : tmps.getD 6 undef = .pointer (some ⟨g, 0, none⟩)) (h5 : tmps.getD 7 undef = x) (h6 : tmps.getD 8 undef = .bool b) (hg : w.heap[g]? = some (.cells (ckC v hand) 29 (0, 0))) :
    (results Try.f8 tmps).run Try.prog w = .ok (.tuple #[.agg #[v, .int .i64 hand], x, .bool b]) w := by
  have h4' : tmps[6]?.getD undef = .pointer (some ⟨g, 0, none⟩) := by simpa using h4
  have h5' : tmps[7]?.getD undef = x := by simpa using h5
  have h6' : tmps[8]?.getD undef = .bool b := by simpa using h6
  simp [results, Try.results8, h4', h5', h6', asAddr, run_loadVar_row w g 29 29 (ckC v hand) (0, 0) _ hg Try.underlying29 rfl (ckC_sz v hand)]
  rfl
def plC (f m : Bool) (key t : Int) : Array Value := #[.bool f, .bool m, .int .i64 key, .int .i64 t]
theorem plC_sz (f m : Bool) (key t : Int) : (Try.prog.info? 39).map (·.size) = some (plC f m key t).size := by show _ = some 4; kernel_rfl
theorem plC_one (f m : Bool) (key t : Int) : (plC f m key t).all (·.oneCell') = true := by simp [plC, Value.oneCell']
/-- What is held in Get's last region. -/
def GetS (b z : Nat) (v : Value) (hand : Int) (f m : Bool) (key t : Int) (V : World) : Prop :=
  V.cell? ⟨b, 0, none⟩ = some v ∧ V.cell? ⟨b, 1, none⟩ = some (.int .i64 hand) ∧ V.cell? ⟨z, 0, none⟩ = some (.bool f) ∧ V.cell? ⟨z, 1, none⟩ = some (.bool m) ∧ V.cell? ⟨z, 2, none⟩ = some (.int .i64 key) ∧ V.cell? ⟨z, 3, none⟩ = some (.int .i64 t)
theorem GetS.next {b z : Nat} {v : Value} {hand : Int} {f m : Bool} {key t : Int} {V W : World} (h : GetS b z v hand f m key t V) (hb : Below V.heap.size V W) : GetS b z v hand f m key t W := by
  obtain ⟨h0, h1, h2, h3, h4, h5⟩ := h
  have hB := World.block_lt_of_cell? _ _ h0
  have hZ := World.block_lt_of_cell? _ _ h2
  exact ⟨(hb.cell (p := ⟨b, 0, none⟩) hB).trans h0, (hb.cell (p := ⟨b, 1, none⟩) hB).trans h1, (hb.cell (p := ⟨z, 0, none⟩) hZ).trans h2, (hb.cell (p := ⟨z, 1, none⟩) hZ).trans h3, (hb.cell (p := ⟨z, 2, none⟩) hZ).trans h4, (hb.cell (p := ⟨z, 3, none⟩) hZ).trans h5⟩
theorem GetS.moves {b z : Nat} {v : Value} {hand : Int} {f m : Bool} {key t : Int} {V W : World} {k : Nat} (h : GetS b z v hand f m key t V) (hm : Moves (fun j => j = k) V W) (h1 : b ≠ k) (h2 : z ≠ k) : GetS b z v hand f m key t W := by
  obtain ⟨a0, a1, a2, a3, a4, a5⟩ := h
  have hB := World.block_lt_of_cell? _ _ a0
  have hZ := World.block_lt_of_cell? _ _ a2
  exact ⟨(hm.cell (p := ⟨b, 0, none⟩) hB h1).trans a0, (hm.cell (p := ⟨b, 1, none⟩) hB h1).trans a1, (hm.cell (p := ⟨z, 0, none⟩) hZ h2).trans a2, (hm.cell (p := ⟨z, 1, none⟩) hZ h2).trans a3, (hm.cell (p := ⟨z, 2, none⟩) hZ h2).trans a4, (hm.cell (p := ⟨z, 3, none⟩) hZ h2).trans a5⟩
theorem PlsAt.moves {w w' : World} {v : Value} {ps : List Pl} {z : Nat} {a : Option Addr} {b c : Nat} {k : Int} {t : TypeId} (h : PlsAt w.heap.size w v ps) (hz : w.heap[z]? = some (.cells #[.slice a b c, .int .i64 k] t (0, 0))) (hm : Moves (fun j => j = z) w w') : PlsAt w'.heap.size w' v ps := by
  obtain ⟨a', cap, rfl, hl, h0, h⟩ := h
  refine ⟨a', cap, rfl, hl, h0, ?_⟩
  rcases h with h | ⟨g, off, rfl, hg, hc⟩
  · exact .inl h
  · cases ps with
    | nil => exact .inl rfl
    | cons p ps =>
      have hne : g ≠ z := by
        rintro rfl
        have := hc 0 (.bool p.full) (by simp [plCells])
        rw [Nat.add_zero, blk_cell hz] at this
        match off, this with
        | 0, this => simp at this
        | 1, this => simp at this
        | off + 2, this => simp at this
      exact .inr ⟨g, off, rfl, hg.to (Nat.lt_of_lt_of_le hg.1 hm.size) (hm.block g hg.1 hne), fun j u hj => (hm.cell (p := ⟨g, off + j, none⟩) hg.1 hne).trans (hc j u hj)⟩
/-- A clock is stored into the cells of another. -/
def setCk (w : World) (z : Nat) (v : Value) (hand : Int) : World := (w.setCell ⟨z, 0, none⟩ v).setCell ⟨z, 1, none⟩ (.int .i64 hand)
theorem setCk_moves (w : World) (z : Nat) (v : Value) (hand : Int) : Moves (fun j => j = z) w (setCk w z v hand) :=
  ((Moves.refl (fun j => j = z) w).setCell (p := ⟨z, 0, none⟩) (fun _ => rfl) _).setCell (p := ⟨z, 1, none⟩) (fun _ => rfl) _
theorem setCk_blk {w : World} {z : Nat} {v0 v1 : Value} {t : TypeId} (h : w.heap[z]? = some (.cells #[v0, v1] t (0, 0))) (v : Value) (hand : Int) : (setCk w z v hand).heap[z]? = some (.cells #[v, .int .i64 hand] t (0, 0)) := by
  have := blk_set (blk_set h 0 v) 1 (.int .i64 hand)
  simp only [List.setIfInBounds_toArray, List.set_cons_zero, List.set_cons_succ] at this
  exact this
set_option maxHeartbeats 4000000 in
theorem refGet_none {w : World} {v : Value} {ps : List Pl} (h : PlsAt w.heap.size w v ps) (hl : ps.length ≤ 4096) (hand key : Int) (mark : Bool) (hf : findI ps key = -1) :
    Calls Try.prog 8 #[.agg #[v, .int .i64 hand], .int .i64 key, .bool mark] w (RefDid ps hand (.int .i64 0) (.bool false) w) := by
  obtain ⟨a, c, rfl⟩ := h.slice
  obtain ⟨w1, hw1⟩ : ∃ w1, (w.alloc (.cells #[.slice a ps.length c, .int .i64 hand] 29)).alloc (.cells #[.slice none 0 0, .int .i64 0] 29) = w1 := ⟨_, rfl⟩
  have L := lay2 w w1 _ hand hw1
  have HF := Lib.hid (find_any (h.next L.hb) hl hand key)
  rw [hf] at HF
  have HP := Lib.hid (h.next L.hb)
  have c0 : w1.cell? ⟨w.heap.size, 0, none⟩ = some (.slice a ps.length c) := blk_cell L.b0 0
  have c1 : w1.cell? ⟨w.heap.size, 1, none⟩ = some (.int .i64 hand) := blk_cell L.b0 1
  have HL := Lib.hid L
  have HW1 := Lib.hid hw1
  clear h hl hf hw1 L
  go_enter Try.func8, Try.ntmps8
  go_upto_region 1 with fail
  change (Code.region _ _ _).wp _ _ _ ((w.alloc (.cells #[.slice a ps.length c, .int .i64 hand] 29)).alloc (.cells #[.slice none 0 0, .int .i64 0] 29))
  rw [HW1.out]
  clear HW1
  go_wp2_with (first
    | (go_at_call 19; (with_reducible refine HF.out.mono ?_); rintro e w2 ⟨rfl, hb⟩; have L2 := HL.out.next hb; have HL2 := Lib.hid L2; have HP2 := Lib.hid (HP.out.next hb); have d0 : w2.cell? ⟨w.heap.size, 0, none⟩ = some (.slice a ps.length c) := blk_cell L2.b0 0; have d1 : w2.cell? ⟨w.heap.size, 1, none⟩ = some (.int .i64 hand) := blk_cell L2.b0 1; clear hb L2 c0 c1 HP HL HF)
    | (refine wpList_store_row (o := ⟨none, _, _, _, _, _⟩) rfl 29 (.tmp 6) (.tmp 16) rfl (w.heap.size + 1) (ckC (.slice a ps.length c) hand) rfl rfl 29 (ckC (.slice none 0 0) 0) HL2.out.b1 (ckC_sz _ _) rfl ?_ ?_; exact ckC_one _ _ _ _))
  refine bodyPost_ret (refGet_res _ (w.heap.size + 1) _ _ _ _ _ rfl rfl rfl (setRow_heap _ _ _ _ _ _ HL2.out.b1)) rfl ⟨_, rfl, ?_, below_setRow HL2.out.hb (by omega) _⟩
  exact (HP2.out.setRow HL2.out.b1 _).mono (by simp [World.setRow])
set_option maxRecDepth 100000 in
set_option maxHeartbeats 4000000 in
theorem refGet_someT {w : World} {v : Value} {ps : List Pl} (h : PlsAt w.heap.size w v ps) (hth : ∀ p ∈ ps, ∃ t, p.thing = .int .i64 t) (hl : ps.length ≤ 4096) (hand key : Int) (mark : Bool) {i : Nat} {ff : Bool} {kk tt : Int} (hp : ps[i]? = some ⟨ff, true, kk, .int .i64 tt⟩) (hf : findI ps key = (i : Nat)) :
    Calls Try.prog 8 #[.agg #[v, .int .i64 hand], .int .i64 key, .bool mark] w (RefDid (ps.set i ⟨ff, true, kk, .int .i64 tt⟩) hand (.int .i64 tt) (.bool true) w) := by
  obtain ⟨a, c, rfl⟩ := h.slice
  have hi := (List.getElem?_eq_some_iff.1 hp).1
  obtain ⟨w1, hw1⟩ : ∃ w1, (w.alloc (.cells #[.slice a ps.length c, .int .i64 hand] 29)).alloc (.cells #[.slice none 0 0, .int .i64 0] 29) = w1 := ⟨_, rfl⟩
  have L := lay2 w w1 _ hand hw1
  have HF := Lib.hid (find_any (h.next L.hb) hl hand key)
  rw [hf] at HF
  have HP := Lib.hid (h.next L.hb)
  have c0 : w1.cell? ⟨w.heap.size, 0, none⟩ = some (.slice a ps.length c) := blk_cell L.b0 0
  have c1 : w1.cell? ⟨w.heap.size, 1, none⟩ = some (.int .i64 hand) := blk_cell L.b0 1
  have hg' := (h.next L.hb).get hp
  obtain ⟨g, off, rfl, hg, _, _, _, _⟩ := hg'
  have i1 : (i : Int) < ps.length := by omega
  have i2 : (i : Int) ≤ 4096 := by omega
  have HL := Lib.hid L
  have HW1 := Lib.hid hw1
  have HI := Lib.hid hi
  have HTH := Lib.hid hth
  have HPP := Lib.hid hp
  clear h hf hw1 L hp hth hi hg
  go_enter Try.func8, Try.ntmps8
  go_upto_region 1 with fail
  change (Code.region _ _ _).wp _ _ _ ((w.alloc (.cells #[.slice (some ⟨g, off, none⟩) ps.length c, .int .i64 hand] 29)).alloc (.cells #[.slice none 0 0, .int .i64 0] 29))
  rw [HW1.out]
  clear HW1
  go_upto_region 4 with (go_at_call 19; (with_reducible refine HF.out.mono ?_); rintro e w2 ⟨rfl, hb⟩; have L2 := HL.out.next hb; have HL2 := Lib.hid L2; have HP2 := Lib.hid (HP.out.next hb); have d0 : w2.cell? ⟨w.heap.size, 0, none⟩ = some (.slice (some ⟨g, off, none⟩) ps.length c) := blk_cell L2.b0 0; clear hb L2 c0 c1 HP HL HF)
  obtain ⟨g', off', e', _, q0, q1, q2, q3⟩ := HP2.out.get HPP.out
  cases e'
  obtain ⟨w3, hw3⟩ : ∃ w3, (w2.alloc (.cells #[.bool false, .bool false, .int .i64 0, .int .i64 0] 39)) = w3 := ⟨_, rfl⟩
  have hz3 := heap_alloc_new w2 (.cells #[.bool false, .bool false, .int .i64 0, .int .i64 0] 39)
  rw [hw3] at hz3
  have HZ3 := Lib.hid hz3
  have HB3 : Hid (Below w2.heap.size w2 w3) := by rw [← hw3]; exact (Below.refl _ _).alloc (Nat.le_refl _) _
  have HW3 := Lib.hid hw3
  clear hz3 hw3
  go_upto_region 5 with (refine wpList_store_row (o := ⟨none, _, _, _, _, _⟩) rfl 39 (.tmp 10) (.tmp 21) rfl w2.heap.size (plC ff true kk tt) rfl rfl 39 (plC false false 0 0) (by rw [HW3.out]; exact HZ3.out) (plC_sz _ _ _ _) rfl ?_ ?_; exact plC_one _ _ _ _)
  rw [HW3.out]
  have hr3 := setRow_heap w3 w2.heap.size _ (plC ff true kk tt) _ _ HZ3.out
  have HL4 := Lib.hid (HL2.out.next (below_setRow HB3.out (Nat.le_refl _) (plC ff true kk tt)))
  have HBB := Lib.hid (below_setRow HB3.out (Nat.le_refl _) (plC ff true kk tt))
  have HZL : Hid (w.heap.size + 2 ≤ w2.heap.size) := by have := blk_lt HL2.out.b1; unfold Hid; omega
  change (Code.region _ _ _).wp _ _ _ (w3.setRow w2.heap.size (plC ff true kk tt))
  generalize w3.setRow w2.heap.size (plC ff true kk tt) = w4 at hr3 HL4 HBB ⊢
  have m1 : w4.cell? ⟨w2.heap.size, 1, none⟩ = some (.bool true) := blk_cell hr3 1
  have mf := blk_frozen hr3 1
  have hr5 := blk_set hr3 1 (.bool true)
  have HB5 : Hid (Below w2.heap.size w2 w4 → Below w2.heap.size w2 (w4.setCell ⟨w2.heap.size, 1, none⟩ (.bool true))) := fun h => h.setCell (p := ⟨w2.heap.size, 1, none⟩) (Nat.le_refl _) _
  have hm5 : Moves (fun k => k = w2.heap.size) w4 (w4.setCell ⟨w2.heap.size, 1, none⟩ (.bool true)) := (Moves.refl (fun k => k = w2.heap.size) w4).setCell (p := ⟨w2.heap.size, 1, none⟩) (fun _ => rfl) _
  have HHM := Lib.hid hm5
  have HR5 := Lib.hid hr5
  have HR3 := Lib.hid hr3
  clear hr3 hr5 hm5 q0 q1 q2 q3 HW3 d0 HZ3 HB3 HB5
  go_upto_region 6 with fail
  have hr5 := HR5.out
  have hm5 := HHM.out
  change (Code.region _ _ _).wp _ _ _ (w4.setCell ⟨w2.heap.size, 1, none⟩ (.bool true))
  generalize w4.setCell ⟨w2.heap.size, 1, none⟩ (.bool true) = w5 at hr5 hm5 ⊢
  have hb5 : Below w2.heap.size w4 w5 := ((Below.refl w2.heap.size w4).trans (hm5.below (B := w2.heap.size) (fun b h => by omega) (by have := blk_lt HR3.out; omega)))
  have L5 : Lay2 w w5 (.slice (some ⟨g, off, none⟩) ps.length c) hand := ⟨(hm5.block _ (blk_lt HL4.out.b0) (by have := HZL.out; omega)).trans HL4.out.b0, (hm5.block _ (blk_lt HL4.out.b1) (by have := HZL.out; omega)).trans HL4.out.b1, HL4.out.hb.trans (hb5.mono (by have := HZL.out; omega))⟩
  have hp5 : PlsAt w5.heap.size w5 (.slice (some ⟨g, off, none⟩) ps.length c) ps := HP2.out.next (HBB.out.trans hb5)
  have d0 : w5.cell? ⟨w.heap.size, 0, none⟩ = some (.slice (some ⟨g, off, none⟩) ps.length c) := blk_cell L5.b0 0
  have d1 : w5.cell? ⟨w.heap.size, 1, none⟩ = some (.int .i64 hand) := blk_cell L5.b0 1
  have x0 : w5.cell? ⟨w2.heap.size, 0, none⟩ = some (.bool ff) := blk_cell hr5 0
  have x1 : w5.cell? ⟨w2.heap.size, 1, none⟩ = some (.bool true) := blk_cell hr5 1
  have x2 : w5.cell? ⟨w2.heap.size, 2, none⟩ = some (.int .i64 kk) := blk_cell hr5 2
  have x3 : w5.cell? ⟨w2.heap.size, 3, none⟩ = some (.int .i64 tt) := blk_cell hr5 3
  have HWI := Lib.hid (with_any (w := w5.drew) (hp5.next (Below.refl _ _).drew) HTH.out hl hand HI.out ff true kk tt)
  have HL5 := Lib.hid (L5.next (Below.refl _ _).drew)
  clear hr5 hm5 hb5 L5 hp5 m1 mf HHM HR5 HR3 HL4 HBB HL2 HP2 HPP
  have HS5 : Hid (GetS w.heap.size w2.heap.size (.slice (some ⟨g, off, none⟩) ps.length c) hand ff true kk tt w5.drew) := ⟨d0, d1, x0, x1, x2, x3⟩
  clear d0 d1 x0 x1 x2 x3
  go_region_held3 (fun V => V.cell? ⟨w.heap.size, 0, none⟩ = some (.slice (some ⟨g, off, none⟩) ps.length c) ∧ V.cell? ⟨w.heap.size, 1, none⟩ = some (.int .i64 hand) ∧ V.cell? ⟨w2.heap.size, 0, none⟩ = some (.bool ff) ∧ V.cell? ⟨w2.heap.size, 1, none⟩ = some (.bool true) ∧ V.cell? ⟨w2.heap.size, 2, none⟩ = some (.int .i64 kk) ∧ V.cell? ⟨w2.heap.size, 3, none⟩ = some (.int .i64 tt)) (first | exact HS5.out | exact HS6.out | exact HS7.out) (first
    | (go_at_call 20; (with_reducible refine HWI.out.mono ?_); rintro e w6 ⟨v6, rfl, h6, hb6, _⟩; obtain ⟨a6, c6, e6⟩ := h6.slice; rw [List.length_set] at e6; subst e6; have H6 := Lib.hid h6; have HL6 := Lib.hid (HL5.out.next hb6); have HS6 := Lib.hid (HS5.out.next hb6); have HS7 := Lib.hid (HS6.out.moves (setCk_moves w6 (w.heap.size + 1) (.slice a6 ps.length c6) hand) (by omega) (by have := HZL.out; omega)); have HT6 := Lib.hid (setCk_blk HL6.out.b1 (.slice a6 ps.length c6) hand); have HP7 := Lib.hid (h6.moves HL6.out.b1 (setCk_moves w6 (w.heap.size + 1) (.slice a6 ps.length c6) hand)); have HB7 := Lib.hid (HL6.out.hb.trans ((setCk_moves w6 (w.heap.size + 1) (.slice a6 ps.length c6) hand).below (B := w.heap.size) (fun i h => by omega) HL6.out.hb.size)); have y0 : w6.cell? ⟨w.heap.size + 1, 0, none⟩ = some (.slice none 0 0) := blk_cell HL6.out.b1 0; have y1 : w6.cell? ⟨w.heap.size + 1, 1, none⟩ = some (.int .i64 0) := blk_cell HL6.out.b1 1; have f0 := blk_frozen HL6.out.b1 0; have f1 := blk_frozen HL6.out.b1 1; clear h6 hb6 HL5)
    | fail)
  all_goals
    go_wp2
    refine bodyPost_ret (refGet_res _ (w.heap.size + 1) _ _ _ _ _ rfl rfl rfl HT6.out) rfl ⟨_, rfl, HP7.out, HB7.out⟩
set_option maxRecDepth 100000 in
set_option maxHeartbeats 4000000 in
theorem refGet_someF {w : World} {v : Value} {ps : List Pl} (h : PlsAt w.heap.size w v ps) (hth : ∀ p ∈ ps, ∃ t, p.thing = .int .i64 t) (hl : ps.length ≤ 4096) (hand key : Int) (mark : Bool) {i : Nat} {ff : Bool} {kk tt : Int} (hp : ps[i]? = some ⟨ff, false, kk, .int .i64 tt⟩) (hf : findI ps key = (i : Nat)) :
    Calls Try.prog 8 #[.agg #[v, .int .i64 hand], .int .i64 key, .bool mark] w (RefDid (ps.set i ⟨ff, mark, kk, .int .i64 tt⟩) hand (.int .i64 tt) (.bool true) w) := by
  obtain ⟨a, c, rfl⟩ := h.slice
  have hi := (List.getElem?_eq_some_iff.1 hp).1
  obtain ⟨w1, hw1⟩ : ∃ w1, (w.alloc (.cells #[.slice a ps.length c, .int .i64 hand] 29)).alloc (.cells #[.slice none 0 0, .int .i64 0] 29) = w1 := ⟨_, rfl⟩
  have L := lay2 w w1 _ hand hw1
  have HF := Lib.hid (find_any (h.next L.hb) hl hand key)
  rw [hf] at HF
  have HP := Lib.hid (h.next L.hb)
  have c0 : w1.cell? ⟨w.heap.size, 0, none⟩ = some (.slice a ps.length c) := blk_cell L.b0 0
  have c1 : w1.cell? ⟨w.heap.size, 1, none⟩ = some (.int .i64 hand) := blk_cell L.b0 1
  have hg' := (h.next L.hb).get hp
  obtain ⟨g, off, rfl, hg, _, _, _, _⟩ := hg'
  have i1 : (i : Int) < ps.length := by omega
  have i2 : (i : Int) ≤ 4096 := by omega
  have HL := Lib.hid L
  have HW1 := Lib.hid hw1
  have HI := Lib.hid hi
  have HTH := Lib.hid hth
  have HPP := Lib.hid hp
  clear h hf hw1 L hp hth hi hg
  go_enter Try.func8, Try.ntmps8
  go_upto_region 1 with fail
  change (Code.region _ _ _).wp _ _ _ ((w.alloc (.cells #[.slice (some ⟨g, off, none⟩) ps.length c, .int .i64 hand] 29)).alloc (.cells #[.slice none 0 0, .int .i64 0] 29))
  rw [HW1.out]
  clear HW1
  go_upto_region 4 with (go_at_call 19; (with_reducible refine HF.out.mono ?_); rintro e w2 ⟨rfl, hb⟩; have L2 := HL.out.next hb; have HL2 := Lib.hid L2; have HP2 := Lib.hid (HP.out.next hb); have d0 : w2.cell? ⟨w.heap.size, 0, none⟩ = some (.slice (some ⟨g, off, none⟩) ps.length c) := blk_cell L2.b0 0; clear hb L2 c0 c1 HP HL HF)
  obtain ⟨g', off', e', _, q0, q1, q2, q3⟩ := HP2.out.get HPP.out
  cases e'
  obtain ⟨w3, hw3⟩ : ∃ w3, (w2.alloc (.cells #[.bool false, .bool false, .int .i64 0, .int .i64 0] 39)) = w3 := ⟨_, rfl⟩
  have hz3 := heap_alloc_new w2 (.cells #[.bool false, .bool false, .int .i64 0, .int .i64 0] 39)
  rw [hw3] at hz3
  have HZ3 := Lib.hid hz3
  have HB3 : Hid (Below w2.heap.size w2 w3) := by rw [← hw3]; exact (Below.refl _ _).alloc (Nat.le_refl _) _
  have HW3 := Lib.hid hw3
  clear hz3 hw3
  go_upto_region 5 with (refine wpList_store_row (o := ⟨none, _, _, _, _, _⟩) rfl 39 (.tmp 10) (.tmp 21) rfl w2.heap.size (plC ff false kk tt) rfl rfl 39 (plC false false 0 0) (by rw [HW3.out]; exact HZ3.out) (plC_sz _ _ _ _) rfl ?_ ?_; exact plC_one _ _ _ _)
  rw [HW3.out]
  have hr3 := setRow_heap w3 w2.heap.size _ (plC ff false kk tt) _ _ HZ3.out
  have HL4 := Lib.hid (HL2.out.next (below_setRow HB3.out (Nat.le_refl _) (plC ff false kk tt)))
  have HBB := Lib.hid (below_setRow HB3.out (Nat.le_refl _) (plC ff false kk tt))
  have HZL : Hid (w.heap.size + 2 ≤ w2.heap.size) := by have := blk_lt HL2.out.b1; unfold Hid; omega
  change (Code.region _ _ _).wp _ _ _ (w3.setRow w2.heap.size (plC ff false kk tt))
  generalize w3.setRow w2.heap.size (plC ff false kk tt) = w4 at hr3 HL4 HBB ⊢
  have m1 : w4.cell? ⟨w2.heap.size, 1, none⟩ = some (.bool false) := blk_cell hr3 1
  have mf := blk_frozen hr3 1
  have hr5 := blk_set hr3 1 (.bool mark)
  have HB5 : Hid (Below w2.heap.size w2 w4 → Below w2.heap.size w2 (w4.setCell ⟨w2.heap.size, 1, none⟩ (.bool mark))) := fun h => h.setCell (p := ⟨w2.heap.size, 1, none⟩) (Nat.le_refl _) _
  have hm5 : Moves (fun k => k = w2.heap.size) w4 (w4.setCell ⟨w2.heap.size, 1, none⟩ (.bool mark)) := (Moves.refl (fun k => k = w2.heap.size) w4).setCell (p := ⟨w2.heap.size, 1, none⟩) (fun _ => rfl) _
  have HHM := Lib.hid hm5
  have HR5 := Lib.hid hr5
  have HR3 := Lib.hid hr3
  clear hr3 hr5 hm5 q0 q1 q2 q3 HW3 d0 HZ3 HB3 HB5
  go_upto_region 6 with fail
  have hr5 := HR5.out
  have hm5 := HHM.out
  change (Code.region _ _ _).wp _ _ _ (w4.setCell ⟨w2.heap.size, 1, none⟩ (.bool mark))
  generalize w4.setCell ⟨w2.heap.size, 1, none⟩ (.bool mark) = w5 at hr5 hm5 ⊢
  have hb5 : Below w2.heap.size w4 w5 := ((Below.refl w2.heap.size w4).trans (hm5.below (B := w2.heap.size) (fun b h => by omega) (by have := blk_lt HR3.out; omega)))
  have L5 : Lay2 w w5 (.slice (some ⟨g, off, none⟩) ps.length c) hand := ⟨(hm5.block _ (blk_lt HL4.out.b0) (by have := HZL.out; omega)).trans HL4.out.b0, (hm5.block _ (blk_lt HL4.out.b1) (by have := HZL.out; omega)).trans HL4.out.b1, HL4.out.hb.trans (hb5.mono (by have := HZL.out; omega))⟩
  have hp5 : PlsAt w5.heap.size w5 (.slice (some ⟨g, off, none⟩) ps.length c) ps := HP2.out.next (HBB.out.trans hb5)
  have d0 : w5.cell? ⟨w.heap.size, 0, none⟩ = some (.slice (some ⟨g, off, none⟩) ps.length c) := blk_cell L5.b0 0
  have d1 : w5.cell? ⟨w.heap.size, 1, none⟩ = some (.int .i64 hand) := blk_cell L5.b0 1
  have x0 : w5.cell? ⟨w2.heap.size, 0, none⟩ = some (.bool ff) := blk_cell hr5 0
  have x1 : w5.cell? ⟨w2.heap.size, 1, none⟩ = some (.bool mark) := blk_cell hr5 1
  have x2 : w5.cell? ⟨w2.heap.size, 2, none⟩ = some (.int .i64 kk) := blk_cell hr5 2
  have x3 : w5.cell? ⟨w2.heap.size, 3, none⟩ = some (.int .i64 tt) := blk_cell hr5 3
  have HWI := Lib.hid (with_any (w := w5.drew) (hp5.next (Below.refl _ _).drew) HTH.out hl hand HI.out ff mark kk tt)
  have HL5 := Lib.hid (L5.next (Below.refl _ _).drew)
  clear hr5 hm5 hb5 L5 hp5 m1 mf HHM HR5 HR3 HL4 HBB HL2 HP2 HPP
  have HS5 : Hid (GetS w.heap.size w2.heap.size (.slice (some ⟨g, off, none⟩) ps.length c) hand ff mark kk tt w5.drew) := ⟨d0, d1, x0, x1, x2, x3⟩
  clear d0 d1 x0 x1 x2 x3
  go_region_held3 (fun V => V.cell? ⟨w.heap.size, 0, none⟩ = some (.slice (some ⟨g, off, none⟩) ps.length c) ∧ V.cell? ⟨w.heap.size, 1, none⟩ = some (.int .i64 hand) ∧ V.cell? ⟨w2.heap.size, 0, none⟩ = some (.bool ff) ∧ V.cell? ⟨w2.heap.size, 1, none⟩ = some (.bool mark) ∧ V.cell? ⟨w2.heap.size, 2, none⟩ = some (.int .i64 kk) ∧ V.cell? ⟨w2.heap.size, 3, none⟩ = some (.int .i64 tt)) (first | exact HS5.out | exact HS6.out | exact HS7.out) (first
    | (go_at_call 20; (with_reducible refine HWI.out.mono ?_); rintro e w6 ⟨v6, rfl, h6, hb6, _⟩; obtain ⟨a6, c6, e6⟩ := h6.slice; rw [List.length_set] at e6; subst e6; have H6 := Lib.hid h6; have HL6 := Lib.hid (HL5.out.next hb6); have HS6 := Lib.hid (HS5.out.next hb6); have HS7 := Lib.hid (HS6.out.moves (setCk_moves w6 (w.heap.size + 1) (.slice a6 ps.length c6) hand) (by omega) (by have := HZL.out; omega)); have HT6 := Lib.hid (setCk_blk HL6.out.b1 (.slice a6 ps.length c6) hand); have HP7 := Lib.hid (h6.moves HL6.out.b1 (setCk_moves w6 (w.heap.size + 1) (.slice a6 ps.length c6) hand)); have HB7 := Lib.hid (HL6.out.hb.trans ((setCk_moves w6 (w.heap.size + 1) (.slice a6 ps.length c6) hand).below (B := w.heap.size) (fun i h => by omega) HL6.out.hb.size)); have y0 : w6.cell? ⟨w.heap.size + 1, 0, none⟩ = some (.slice none 0 0) := blk_cell HL6.out.b1 0; have y1 : w6.cell? ⟨w.heap.size + 1, 1, none⟩ = some (.int .i64 0) := blk_cell HL6.out.b1 1; have f0 := blk_frozen HL6.out.b1 0; have f1 := blk_frozen HL6.out.b1 1; clear h6 hb6 HL5)
    | fail)
  all_goals
    go_wp2
    refine bodyPost_ret (refGet_res _ (w.heap.size + 1) _ _ _ _ _ rfl rfl rfl HT6.out) rfl ⟨_, rfl, HP7.out, HB7.out⟩
end Go.Proofs.Ytadhkciggiefbaa

/-
  sgraffitoref04's Put: where it is; where it does nothing.
  Conditions: none.
-/
import Derived.Test.YtadglpnmhpmebaaFp6
import Derived.Test.YtadglpnmhpmebaaOrd
namespace Go.Proofs.Ytadglpnmhpmebaa
open Go.RowKit
attribute [-go_sem] Instr.build

/-- Where a function of the document's device is: its copy in block X, its answer in block Z. -/
structure PB (w : World) (X Z : Nat) (cs : Array Value) (W : World) : Prop where
  bel : Below w.heap.size w W
  xw : w.heap.size ≤ X
  zw : w.heap.size ≤ Z
  ne : X ≠ Z
  x : W.heap[X]? = some (.cells cs 33 (0, 0))
  z : W.heap[Z]? = some (.cells rd0 33 (0, 0))
section
variable {w W W' : World} {X Z : Nat} {cs : Array Value}
theorem PB.on (h : PB w X Z cs W) (hb : Below W.heap.size W W') : PB w X Z cs W' :=
  ⟨h.bel.trans (hb.mono h.bel.size), h.xw, h.zw, h.ne, (hb.block _ (blk_lt h.x)).trans h.x, (hb.block _ (blk_lt h.z)).trans h.z⟩
theorem PB.grown (h : PB w X Z cs W) {e : TypeId} {size n : Nat} {v : Value} {xs : List Value} (ho : W.ownsRow w.heap.size e size v n xs) (he : e ≠ 33) (hg : W.grownBy W' v.ownBlock) : PB w X Z cs W' :=
  ⟨h.bel.grown hg h.bel.size (fun k e => (ho.lt k e).1), h.xw, h.zw, h.ne, blk_keep h.x hg (own_ne ho h.x he), blk_keep h.z hg (own_ne ho h.z he)⟩
theorem PB.set (h : PB w X Z cs W) (i : Nat) (u : Value) : PB w X Z (cs.setIfInBounds i u) (W.setCell ⟨X, i, none⟩ u) :=
  ⟨h.bel.setCell (p := ⟨X, i, none⟩) h.xw u, h.xw, h.zw, h.ne, blk_set h.x i u, (set_other _ _ _ _ _ h.ne.symm).trans h.z⟩
theorem PB.setRow (h : PB w X Z cs W) (cs' : Array Value) : PB w X Z cs' (W.setRow X cs') :=
  ⟨below_setRow h.bel h.xw _, h.xw, h.zw, h.ne, setRow_heap _ _ _ _ _ _ h.x, (setRow_other W X Z cs' h.ne.symm).trans h.z⟩
/-- The answer is stored. -/
theorem PB.ends (h : PB w X Z cs W) (cs' : Array Value) : (W.setRow Z cs').heap[Z]? = some (.cells cs' 33 (0, 0)) ∧ Below w.heap.size w (W.setRow Z cs') := ⟨setRow_heap _ _ _ _ _ _ h.z, below_setRow h.bel h.zw _⟩
theorem PB.ref (h : PB w X Z cs W) {vF vL vP : Value} {d : Dev} (hr : RefAt W.heap.size W vF vL vP d) (cs' : Array Value) : RefAt (W.setRow Z cs').heap.size (W.setRow Z cs') vF vL vP d := (hr.turn h.z (Nat.le_refl _) (row_moves04 _ _)).mono (by rw [size_setRow]; exact Nat.le_refl _)
theorem PB.start (w : World) (cs : Array Value) : PB w w.heap.size (w.heap.size + 1) cs ((w.alloc (.cells cs 33)).alloc (.cells rd0 33)) :=
  ⟨((Below.refl _ w).alloc (Nat.le_refl _) _).alloc (by simp) _, Nat.le_refl _, by omega, by omega, heap_alloc2_old w _ _, heap_alloc2_new w _ _⟩
end
/-- What Put answers. -/
def RefRet (d' : Dev) (n : Int) (w : World) (e : Ending) (w' : World) : Prop := ∃ vF vL vP, e = .returned (.tuple #[.agg (rdC d'.size vF vL vP d'.armed d'.acts d'.down), .int .i64 n]) ∧ RefAt w'.heap.size w' vF vL vP d' ∧ Below w.heap.size w w'
set_option maxRecDepth 100000 in
set_option maxHeartbeats 4000000 in
theorem refPut_not {vF vL vP : Value} {d : Dev} {w : World} (hR : RefAt w.heap.size w vF vL vP d) (at_ : Int) (bs : List (BitVec 8)) (hno : ¬ (askErr d.sectors d.down at_ = 0 ∧ bs.length = d.size)) :
    Calls Try.prog 23 #[.agg (rdC d.size vF vL vP d.armed d.acts d.down), .int .i64 at_, .string (strB bs)] w (RefRet (d.write at_ bs) (writeErr d at_ bs.length) w) := by
  have hw : d.write at_ bs = d := by unfold Dev.write; rw [if_neg hno]
  rw [hw]
  obtain ⟨a1, c1, rfl⟩ := hR.1.slice
  obtain ⟨a2, c2, rfl⟩ := hR.2.1.slice
  obtain ⟨a3, c3, rfl⟩ := hR.2.2.slice
  have hP := PB.start w (rdC d.size (.slice a1 d.sectors c1) (.slice a2 d.loose.length c2) (.slice a3 d.sectors c3) d.armed d.acts d.down)
  obtain ⟨W0, hW0⟩ : ∃ W0, (w.alloc (.cells (rdC d.size (.slice a1 d.sectors c1) (.slice a2 d.loose.length c2) (.slice a3 d.sectors c3) d.armed d.acts d.down) 33)).alloc (.cells rd0 33) = W0 := ⟨_, rfl⟩
  rw [hW0] at hP
  have HW0 := Lib.hid hW0
  have HP := Lib.hid hP
  have HR := Lib.hid hR
  have HFIN : Hid (∀ W n, PB w w.heap.size (w.heap.size + 1) (rdC d.size (.slice a1 d.sectors c1) (.slice a2 d.loose.length c2) (.slice a3 d.sectors c3) d.armed d.acts d.down) W → n = writeErr d at_ bs.length → RefRet d (writeErr d at_ bs.length) w (.returned (.tuple #[.agg (rdC d.size (.slice a1 d.sectors c1) (.slice a2 d.loose.length c2) (.slice a3 d.sectors c3) d.armed d.acts d.down), .int .i64 n])) (W.setRow (w.heap.size + 1) (rdC d.size (.slice a1 d.sectors c1) (.slice a2 d.loose.length c2) (.slice a3 d.sectors c3) d.armed d.acts d.down))) := fun W n hW hn => by
    subst hn
    exact ⟨_, _, _, rfl, hW.ref ((hR.below hW.bel).mono hW.bel.size) _, (hW.ends _).2⟩
  clear hW0 hP hR
  have HTH := Lib.hid (fun W => there_any d.size d.sectors a1 c1 (.slice a2 d.loose.length c2) (.slice a3 d.sectors c3) d.armed d.acts d.down at_ W)
  have x0 := blk_cell HP.out.x 0
  have x1 := blk_cell HP.out.x 1
  have x2 := blk_cell HP.out.x 2
  have x3 := blk_cell HP.out.x 3
  have x4 := blk_cell HP.out.x 4
  have x5 := blk_cell HP.out.x 5
  have x6 := blk_cell HP.out.x 6
  unfold rdC at x0 x1 x2 x3 x4 x5 x6
  by_cases hdn : d.down = true
  · have HE : Hid ((4 : Int) = writeErr d at_ bs.length) := by
      unfold Hid writeErr askErr
      rw [if_pos hdn, if_pos (by decide)]
    rw [hdn] at x6 HW0 HP HFIN ⊢
    have HEN := Lib.hid (HP.out.ends (rdC d.size (.slice a1 d.sectors c1) (.slice a2 d.loose.length c2) (.slice a3 d.sectors c3) d.armed d.acts true)).1
    have HZ := Lib.hid HP.out.z
    unfold rdC at HW0 ⊢
    clear HTH hno hw hdn
    go_enter Try.func23, Try.ntmps23
    go_upto_region 1 with (fail)
    change Code.wp _ _ _ _ ((w.alloc (.cells #[.int .i64 d.size, .slice a1 d.sectors c1, .slice a2 d.loose.length c2, .slice a3 d.sectors c3, .int .i64 d.armed, .int .i64 d.acts, .bool true] 33)).alloc (.cells rd0 33))
    rw [HW0.out]
    go_wp2_with (refine wpList_store_row (o := ⟨none, _, _, _, _, _⟩) rfl 33 (.tmp 6) (.tmp 10) rfl (w.heap.size + 1) (rdC d.size (.slice a1 d.sectors c1) (.slice a2 d.loose.length c2) (.slice a3 d.sectors c3) d.armed d.acts true) rfl rfl 33 rd0 HZ.out (rd_sz _ _ _ _ _ _ _) rfl ?_ ?_; exact rd_one)
    exact bodyPost_ret (rd_res rfl _ _ (w.heap.size + 1) _ 4 HEN.out (rd_sz _ _ _ _ _ _ _) rfl rfl) rfl (HFIN.out _ _ HP.out HE.out)
  · have hdf : d.down = false := by simpa using hdn
    by_cases hin : 0 ≤ at_ ∧ at_ < (d.sectors : Int)
    · have hask : askErr d.sectors d.down at_ = 0 := by unfold askErr; rw [if_neg hdn, if_pos hin]
      have hbl : bs.length ≠ d.size := fun e => hno ⟨hask, e⟩
      have HE : Hid ((3 : Int) = writeErr d at_ bs.length) := by
        unfold Hid writeErr
        rw [hask, if_neg (by decide), if_pos hbl]
      have h1 : (((strB bs).size : Int) == (d.size : Int)) = false := by rw [strB_size]; exact beq_eq_false_iff_ne.2 (by omega)
      rw [show decide (0 ≤ at_ ∧ at_ < (d.sectors : Int)) = true by simpa using hin] at HTH
      rw [hdf] at x6 HW0 HP HFIN HTH ⊢
      unfold rdC at HW0 HTH ⊢
      generalize strB bs = sb at h1 ⊢
      obtain ⟨ln, hln⟩ : ∃ ln, sb.size = ln := ⟨_, rfl⟩
      rw [hln] at h1
      clear hno hw hdn hdf hin hask hbl
      go_enter Try.func23, Try.ntmps23
      go_upto_region 1 with (fail)
      change Code.wp _ _ _ _ ((w.alloc (.cells #[.int .i64 d.size, .slice a1 d.sectors c1, .slice a2 d.loose.length c2, .slice a3 d.sectors c3, .int .i64 d.armed, .int .i64 d.acts, .bool false] 33)).alloc (.cells rd0 33))
      rw [HW0.out]
      go_wp2_with (first
        | (go_at_call 40; (with_reducible refine (HTH.out _).mono ?_); rintro e w1 ⟨rfl, hb⟩; have HP1 := Lib.hid (HP.out.on hb); have HZ := Lib.hid HP1.out.z; have HEN := Lib.hid (HP1.out.ends (rdC d.size (.slice a1 d.sectors c1) (.slice a2 d.loose.length c2) (.slice a3 d.sectors c3) d.armed d.acts false)).1; clear x0 x1 x2 x3 x4 x5 x6; have x0 := blk_cell HP1.out.x 0; have x1 := blk_cell HP1.out.x 1; have x2 := blk_cell HP1.out.x 2; have x3 := blk_cell HP1.out.x 3; have x4 := blk_cell HP1.out.x 4; have x5 := blk_cell HP1.out.x 5; have x6 := blk_cell HP1.out.x 6; unfold rdC at x0 x1 x2 x3 x4 x5 x6; clear hb)
        | (refine wpList_store_row (o := ⟨none, _, _, _, _, _⟩) rfl 33 (.tmp 6) (.tmp 21) rfl (w.heap.size + 1) (rdC d.size (.slice a1 d.sectors c1) (.slice a2 d.loose.length c2) (.slice a3 d.sectors c3) d.armed d.acts false) rfl rfl 33 rd0 HZ.out (rd_sz _ _ _ _ _ _ _) rfl ?_ ?_; exact rd_one))
      exact bodyPost_ret (rd_res rfl _ _ (w.heap.size + 1) _ 3 HEN.out (rd_sz _ _ _ _ _ _ _) rfl rfl) rfl (HFIN.out _ _ HP1.out HE.out)
    · have HE : Hid ((2 : Int) = writeErr d at_ bs.length) := by
        unfold Hid writeErr askErr
        rw [if_neg hdn, if_neg hin, if_pos (by decide)]
      rw [show decide (0 ≤ at_ ∧ at_ < (d.sectors : Int)) = false by simpa using hin] at HTH
      rw [hdf] at x6 HW0 HP HFIN HTH ⊢
      unfold rdC at HW0 HTH ⊢
      clear hno hw hdn hdf hin
      go_enter Try.func23, Try.ntmps23
      go_upto_region 1 with (fail)
      change Code.wp _ _ _ _ ((w.alloc (.cells #[.int .i64 d.size, .slice a1 d.sectors c1, .slice a2 d.loose.length c2, .slice a3 d.sectors c3, .int .i64 d.armed, .int .i64 d.acts, .bool false] 33)).alloc (.cells rd0 33))
      rw [HW0.out]
      go_wp2_with (first
        | (go_at_call 40; (with_reducible refine (HTH.out _).mono ?_); rintro e w1 ⟨rfl, hb⟩; have HP1 := Lib.hid (HP.out.on hb); have HZ := Lib.hid HP1.out.z; have HEN := Lib.hid (HP1.out.ends (rdC d.size (.slice a1 d.sectors c1) (.slice a2 d.loose.length c2) (.slice a3 d.sectors c3) d.armed d.acts false)).1; clear x0 x1 x2 x3 x4 x5 x6; have x0 := blk_cell HP1.out.x 0; have x1 := blk_cell HP1.out.x 1; have x2 := blk_cell HP1.out.x 2; have x3 := blk_cell HP1.out.x 3; have x4 := blk_cell HP1.out.x 4; have x5 := blk_cell HP1.out.x 5; have x6 := blk_cell HP1.out.x 6; unfold rdC at x0 x1 x2 x3 x4 x5 x6; clear hb)
        | (refine wpList_store_row (o := ⟨none, _, _, _, _, _⟩) rfl 33 (.tmp 6) (.tmp 15) rfl (w.heap.size + 1) (rdC d.size (.slice a1 d.sectors c1) (.slice a2 d.loose.length c2) (.slice a3 d.sectors c3) d.armed d.acts false) rfl rfl 33 rd0 HZ.out (rd_sz _ _ _ _ _ _ _) rfl ?_ ?_; exact rd_one))
      exact bodyPost_ret (rd_res rfl _ _ (w.heap.size + 1) _ 2 HEN.out (rd_sz _ _ _ _ _ _ _) rfl rfl) rfl (HFIN.out _ _ HP1.out HE.out)
end Go.Proofs.Ytadglpnmhpmebaa

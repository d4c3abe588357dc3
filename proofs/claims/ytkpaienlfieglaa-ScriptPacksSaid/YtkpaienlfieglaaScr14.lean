/-
  script.Right.
  Conditions: none.
-/
import Derived.Test.YtkpaienlfieglaaScr7
import Derived.Test.YtkpaienlfieglaaOrd
namespace Go.Proofs.Ytkpaienlfieglaa
open Go.RowKit
attribute [local go_sem] Oper.semAt_some

/-- A drawn region whose operations only add blocks. -/
theorem wpAny_bel {P : Program} {ops : Array Oper} {Q : Exit → Act → World → Prop} (n : Nat) (R : Nat → Value → World → Prop) (base : World) {a0 : Act} {w : World}
    (hok : ordOk ops n = true) (hn : a0.tmps.size = n) (hb : Below base.heap.size base w)
    (hR : ∀ i v w w', R i v w → Below w.heap.size w w' → R i v w')
    (hstep : ∀ (i : Nat) (o : Oper), ops[i]? = some o → ∀ listed a W, OrdAt ops (fun i => i) R (fun _ W => Below base.heap.size base W) a0 listed a W → listed.getD i true = false → (∀ e ∈ o.after.toList, Region.binds .any e = true → listed.getD e.on false = true) → o.wp P a W (fun a' w' => ∃ v, a' = a.put o.dst v ∧ R i v w' ∧ Below W.heap.size W w') Q)
    (hend : ∀ a w, OrdAt ops (fun i => i) R (fun _ W => Below base.heap.size base W) a0 (Array.replicate ops.size true) a w → Q .normal a w) : wpAny P .any ops Q ops.size (Array.replicate ops.size false) a0 w :=
  wpAny_ord2 n (fun i => i) R (fun _ W => Below base.heap.size base W) (fun _ W W' => Below W.heap.size W W') hok hn hb (fun _ _ _ _ _ _ _ _ _ hr h => hR _ _ _ _ hr h) (fun _ _ _ _ _ h hr => h.trans (hr.mono h.size)) hstep hend
/-- What each operation of Right's region yields. -/
def RtR (x : SAct) (a1 a2 a3 : Option Addr) (c1 c2 c3 : Nat) (i : Nat) (v : Value) (W : World) : Prop :=
  match i with
  | 0 => ∃ w0 b, v = .map (some b) ∧ KindsAt w0 b 10 W
  | 1 => v = .agg #[.int .i64 x.kind, .slice a1 x.key.length c1, .slice a2 x.val.length c2, .int .i64 x.num, .slice a3 x.nums.length c3]
  | 2 | 3 => v = .bool (rightA x)
  | _ => True
set_option maxRecDepth 100000 in
set_option maxHeartbeats 4000000 in
theorem Right_any (x : SAct) (a1 a2 a3 : Option Addr) (c1 c2 c3 : Nat) (w : World) :
    Calls Try.prog 12 #[.agg #[.int .i64 x.kind, .slice a1 x.key.length c1, .slice a2 x.val.length c2, .int .i64 x.num, .slice a3 x.nums.length c3]] w fun e w' => e = .returned (.bool (rightA x)) ∧ Below w.heap.size w w' := by
  obtain ⟨w1, hw1⟩ : ∃ w1, w.alloc (.cells #[.int .i64 x.kind, .slice a1 x.key.length c1, .slice a2 x.val.length c2, .int .i64 x.num, .slice a3 x.nums.length c3] 35) = w1 := ⟨_, rfl⟩
  have hb1 : Below w.heap.size w w1 := by rw [← hw1]; exact (Below.refl _ w).alloc (Nat.le_refl _) _
  have hk1 : w1.heap[w.heap.size]? = some (.cells #[.int .i64 x.kind, .slice a1 x.key.length c1, .slice a2 x.val.length c2, .int .i64 x.num, .slice a3 x.nums.length c3] 35 (0, 0)) := by rw [← hw1]; exact heap_alloc_new _ _
  have HW1 := Lib.hid hw1
  have HB1 := Lib.hid hb1
  have HK1 := Lib.hid hk1
  clear hw1 hb1 hk1
  go_enter Try.func12, Try.ntmps12
  go_upto_region 1 with (fail)
  rw [HW1.out]
  clear HW1
  refine wp_region_any (by kernel_rfl) ?_
  change wpAny _ _ _ _ _ _ _ w1.drew
  refine wpAny_bel 6 (RtR x a1 a2 a3 c1 c2 c3) w1 (by kernel_rfl) rfl (Below.refl _ _).drew ?_ ?_ ?_
  · intro i v W W' hr hb
    match i, hr with
    | 0, ⟨w0, b, h1, h2⟩ => exact ⟨w0, b, h1, h2.on hb⟩
    | 1, h => exact h
    | 2, h => exact h
    | 3, h => exact h
    | i + 4, _ => trivial
  · intro i o ho listed a W h hnl hdeps
    have hi : i < 4 := by have := (Array.getElem?_eq_some_iff.1 ho).1; simpa using this
    have e1 : a.tmps.getD 1 undef = .pointer (some ⟨w.heap.size, 0, none⟩) := h.free 1 (by kernel_rfl)
    have hbox := (h.base.block _ (blk_lt HK1.out)).trans HK1.out
    have h9 : i = 0 ∨ i = 1 ∨ i = 2 ∨ i = 3 := by omega
    rcases h9 with rfl | rfl | rfl | rfl
    · cases ho
      go_simp
      exact (kinds_any W).mono fun _ _ ⟨he, hk⟩ => by subst he; exact ⟨_, rfl, ⟨_, _, rfl, hk⟩, hk.bel⟩
    · cases ho
      have c0 := blk_cell hbox 0
      have c1' := blk_cell hbox 1
      have c2' := blk_cell hbox 2
      have c3' := blk_cell hbox 3
      have c4' := blk_cell hbox 4
      go_simp
      exact ⟨_, rfl, rfl, Below.refl _ _⟩
    · cases ho
      obtain ⟨w0, b, e3, hK⟩ := h.got 0 _ 3 rfl (hdeps ⟨0, .data⟩ (by simp) rfl) (.inr rfl) rfl
      have e4 : a.tmps.getD 4 undef = _ := h.got 1 _ 4 rfl (hdeps ⟨1, .data⟩ (by simp) rfl) (.inr rfl) rfl
      go_simp
      exact (right_any hK x a1 a2 a3 c1 c2 c3).mono fun _ _ ⟨he, hb⟩ => by subst he; exact ⟨_, rfl, rfl, hb⟩
    · cases ho
      have e5 : a.tmps.getD 5 undef = .bool (rightA x) := h.got 2 _ 5 rfl (hdeps ⟨2, .data⟩ (by simp) rfl) (.inr rfl) rfl
      have f5 := (Array.getD_eq_getD_getElem? (xs := a.tmps) (i := 5) (d := undef)).symm.trans e5
      go_simp
      exact ⟨_, rfl, rfl, Below.refl _ _⟩
  · intro a W h
    have f2 : a.tmps.getD 2 undef = .bool (rightA x) := h.got 3 _ 2 rfl (by simp) (.inr rfl) rfl
    have ea := arr_eq a.tmps 6 h.size
    have ed := h.defers
    have HBE := Lib.hid h.base
    clear h
    obtain ⟨t, ds⟩ := a
    replace ed : ds = [] := ed
    subst ed
    replace f2 : t.getD 2 undef = .bool (rightA x) := f2
    replace ea : t = #[t.getD 0 undef, t.getD 1 undef, t.getD 2 undef, t.getD 3 undef, t.getD 4 undef, t.getD 5 undef] := ea
    rw [f2] at ea
    generalize t.getD 0 undef = v0 at ea
    generalize t.getD 1 undef = v1 at ea
    generalize t.getD 3 undef = v3 at ea
    generalize t.getD 4 undef = v4 at ea
    generalize t.getD 5 undef = v5 at ea
    subst ea
    clear f2
    go_wp2
    go_ret
    exact ⟨rfl, HB1.out.trans (HBE.out.mono HB1.out.size)⟩
end Go.Proofs.Ytkpaienlfieglaa

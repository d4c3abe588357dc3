/-
  leaf.Build for all arguments; leaf.seeming.
  Conditions: none.
-/
import Derived.Test.YtopjadmjahpeoaaLeaf3
import Derived.Laws.Tables
import Derived.Laws.Rows
namespace Go.Proofs.Ytopjadmjahpeoaa
open Go.RowKit

theorem build_any (size kd pl st : Int) (v : Value) (ld : List (BitVec 8)) (w : World) (hv : BytesAt w.heap.size w v ld) (hst : st ≤ 9223372036854775807) :
    Calls Try.prog 8 #[.int .i64 size, .agg #[.int .i64 kd, .int .i64 pl, .int .i64 st, v]] w (Built (buildB size kd pl st ld) (buildErr size kd pl st ld.length) w) := by
  by_cases h : buildErr size kd pl st ld.length = 0
  · unfold buildB
    rw [if_pos h, h]
    exact build_yes size kd pl st v ld w hv h hst
  · unfold buildB
    rw [if_neg h]
    exact build_no size kd pl st v ld w hv h

/-- A leaf: its numbers, its load. -/
structure LeafP where
  kind : Int
  place : Int
  stamp : Int
  load : List (BitVec 8)
def LeafP.cells (x : LeafP) (u : Value) : Array Value := #[.int .i64 x.kind, .int .i64 x.place, .int .i64 x.stamp, u]
def LeafP.zero : LeafP := ⟨0, 0, 0, []⟩
/-- What lies in a sector as a leaf. -/
def seem (bs : List (BitVec 8)) : LeafP :=
  ⟨wrap64 (U (leOf (bs.take 1))), wrap64 (U (leOf ((bs.drop 3).take 4))), wrap64 (U (leOf ((bs.drop 7).take 8))),
    takenB (bs.drop 15) (tookN (bs.drop 15) true (wrap64 (U (leOf ((bs.drop 1).take 2)))))⟩
theorem leaf_sz (x : LeafP) (u : Value) : (Try.prog.info? 29).map (·.size) = some (x.cells u).size := by show _ = some 4; kernel_rfl
theorem leaf_one (x : LeafP) {a : Option Addr} {n c : Nat} : (x.cells (.slice a n c)).all (·.oneCell') = true := by simp [LeafP.cells, Value.oneCell']
theorem leaf_one_by {x : LeafP} {n : Nat} {w : World} {u : Value} {bs : List (BitVec 8)} (h : BytesAt n w u bs) : (x.cells u).all (·.oneCell') = true := by
  obtain ⟨a, cap, rfl, _⟩ := h
  exact leaf_one x
theorem BytesAt.besideRow {n₀ P : Nat} {w : World} {u : Value} {bs : List (BitVec 8)} {cs : Array Value} {t : TypeId} (h : BytesAt n₀ w u bs) (hcs : ∀ (j : Nat) (v : Value), cs[j]? = some v → ∀ y : Int, v ≠ .int .u8 y) (hP : w.heap[P]? = some (.cells cs t (0, 0))) (cs' : Array Value) : BytesAt n₀ (w.setRow P cs') u bs := by
  obtain ⟨a', cap, rfl, hl, h0, h⟩ := h
  refine ⟨a', cap, rfl, hl, h0, ?_⟩
  rcases h with h | ⟨g, off, rfl, hg, hc⟩
  · exact .inl h
  · refine .inr ⟨g, off, rfl, hg, fun j hj => ?_⟩
    have hne : g ≠ P := by
      rintro rfl
      have h1 := hc j hj
      rw [blk_cell hP] at h1
      exact hcs _ _ h1 _ rfl
    exact (World.cell?_of_block (setRow_other w P g cs' hne)).trans (hc j hj)
theorem leaf_none (x : LeafP) (a : Option Addr) (n c : Nat) (j : Nat) (v : Value) (h : (x.cells (.slice a n c))[j]? = some v) (y : Int) : v ≠ .int .u8 y := by
  rintro rfl
  match j with
  | 0 => simp [LeafP.cells] at h
  | 1 => simp [LeafP.cells] at h
  | 2 => simp [LeafP.cells] at h
  | 3 => simp [LeafP.cells] at h
  | j + 4 => simp [LeafP.cells] at h
/-- A leaf that is answered. -/
def LeafRet (x : LeafP) (w : World) (e : Ending) (w' : World) : Prop := ∃ u, e = .returned (.agg (x.cells u)) ∧ BytesAt w'.heap.size w' u x.load ∧ Below w.heap.size w w'
theorem RdAt.numY {w W : World} {R : Nat} {left : List (BitVec 8)} {bad : Bool} (h : RdAt w R left bad W) (n : Nat) (k : Int) (hn : k = n) (hm : mayB k = true) (hk : n ≤ left.length) (hl : left.length ≤ 1099511627776) :
    Calls Try.prog 54 #[.pointer (some ⟨R, 0, none⟩), .int .i64 k] W (Rdn w R (leOf (left.take n)) (left.drop n) bad W) := by
  have := h.num k hl
  subst hn
  have ht : tookN left true n = some n := by simp [tookN]; omega
  unfold rdN rdL rdB at this
  rw [hm, ht] at this
  exact this

set_option maxRecDepth 100000 in
set_option maxHeartbeats 4000000 in
theorem seeming_any (v : Value) (bs : List (BitVec 8)) (w : World) (hv : BytesAt w.heap.size w v bs) (l1 : 96 ≤ bs.length) (l2 : bs.length ≤ 512) :
    Calls Try.prog 33 #[v] w (LeafRet (seem bs) w) := by
  have hB0 : Below w.heap.size w (w.alloc (.cells (LeafP.zero.cells (.slice none 0 0)) 29)) := (Below.refl _ _).alloc (Nat.le_refl _) _
  have HV := Lib.hid ((hv.below hB0).mono hB0.size)
  have hZ : (w.alloc (.cells (LeafP.zero.cells (.slice none 0 0)) 29)).heap[w.heap.size]? = some (.cells (LeafP.zero.cells (.slice none 0 0)) 29 (0, 0)) := heap_alloc_new _ _
  have HB0 := Lib.hid hB0
  have HL := Lib.hid (show 96 ≤ bs.length ∧ bs.length ≤ 512 from ⟨l1, l2⟩)
  have HZ := Lib.hid hZ
  have HX1 : Hid ((seem bs).kind = wrap64 (U (leOf (bs.take 1)))) := rfl
  have HX2 : Hid ((seem bs).place = wrap64 (U (leOf ((bs.drop 3).take 4)))) := rfl
  have HX3 : Hid ((seem bs).stamp = wrap64 (U (leOf ((bs.drop 7).take 8)))) := rfl
  have HX4 : Hid ((seem bs).load = takenB (bs.drop 15) (tookN (bs.drop 15) true (wrap64 (U (leOf ((bs.drop 1).take 2)))))) := rfl
  obtain ⟨y, hy⟩ : ∃ y, seem bs = y := ⟨_, rfl⟩
  rw [hy] at HX1 HX2 HX3 HX4 ⊢
  obtain ⟨a, cap, rfl, _⟩ := hv
  clear hB0 hZ l1 l2 hy
  go_enter Try.func33, Try.ntmps33
  go_upto_region 1 with (fail)
  change (Code.region _ _ _).wp _ _ _ (w.alloc (.cells (LeafP.zero.cells (.slice none 0 0)) 29))
  generalize w.alloc (.cells (LeafP.zero.cells (.slice none 0 0)) 29) = w0 at HV HZ HB0 ⊢
  have HN := Lib.hid (newRd_any _ bs w0 HV.out (by have := HL.out; omega))
  obtain ⟨x1, hx1⟩ : ∃ x, leOf (bs.take 1) = x := ⟨_, rfl⟩
  obtain ⟨x2, hx2⟩ : ∃ x, leOf ((bs.drop 1).take 2) = x := ⟨_, rfl⟩
  obtain ⟨x3, hx3⟩ : ∃ x, leOf ((bs.drop 3).take 4) = x := ⟨_, rfl⟩
  obtain ⟨x4, hx4⟩ : ∃ x, leOf ((bs.drop 7).take 8) = x := ⟨_, rfl⟩
  have H1 := Lib.hid (fun R W (h : RdAt w0 R bs false W) => (h.numY 1 1 rfl rfl (by have := HL.out; omega) (by have := HL.out; omega)))
  have H2 := Lib.hid (fun R W (h : RdAt w0 R (bs.drop 1) false W) => (h.numY 2 2 rfl rfl (by have := HL.out; simp; omega) (by have := HL.out; simp; omega)))
  have H3 := Lib.hid (fun R W (h : RdAt w0 R (bs.drop 3) false W) => (h.numY 4 4 rfl rfl (by have := HL.out; simp; omega) (by have := HL.out; simp; omega)))
  have H4 := Lib.hid (fun R W (h : RdAt w0 R (bs.drop 7) false W) => (h.numY 8 8 rfl rfl (by have := HL.out; simp; omega) (by have := HL.out; simp; omega)))
  have H5 := Lib.hid (fun R W (h : RdAt w0 R (bs.drop 15) false W) => (h.raw (wrap64 (U x2)) (by have := HL.out; simp; omega)))
  rw [hx1] at H1 HX1
  rw [hx2] at H2 HX4
  rw [hx3] at H3 HX2
  rw [hx4] at H4 HX3
  rw [List.drop_drop, show 1 + 2 = 3 from rfl] at H2
  rw [List.drop_drop, show 3 + 4 = 7 from rfl] at H3
  rw [List.drop_drop, show 7 + 8 = 15 from rfl] at H4
  rw [← HX4.out] at H5
  clear hx1 hx2 hx3 hx4
  go_upto_region 6 with (first
    | (go_at_call 53; (with_reducible refine HN.out.mono ?_); rintro e w1 ⟨R, rfl, hr⟩; have HR := Lib.hid (H1.out R _ hr); clear hr)
    | (go_at_call 54; (with_reducible refine HR4.out.mono ?_); rintro e w1 ⟨rfl, hr, _⟩; have HR5 := Lib.hid (H5.out R _ hr); clear hr)
    | (go_at_call 54; (with_reducible refine HR3.out.mono ?_); rintro e w1 ⟨rfl, hr, _⟩; have HR4 := Lib.hid (H4.out R _ hr); clear hr)
    | (go_at_call 54; (with_reducible refine HR2.out.mono ?_); rintro e w1 ⟨rfl, hr, _⟩; have HR3 := Lib.hid (H3.out R _ hr); clear hr)
    | (go_at_call 54; (with_reducible refine HR.out.mono ?_); rintro e w1 ⟨rfl, hr, _⟩; have HR2 := Lib.hid (H2.out R _ hr); clear hr))
  clear HR HR2 HR3 HR4 H1 H2 H3 H4 H5
  go_wp2_with (first
    | (go_at_call 55; (with_reducible refine HR5.out.mono ?_); rintro e w1 ⟨u, rfl, hu, hr, _⟩; obtain ⟨au, cu, rfl, _⟩ := id hu; have HU := Lib.hid hu; have HB := Lib.hid hr.size; clear hu hr; have HZ1 := Lib.hid ((HB.out.block _ (blk_lt HZ.out)).trans HZ.out))
    | (refine wpList_store_row (o := ⟨none, _, _, _, _, _⟩) rfl 29 (.tmp 2) (.tmp 28) rfl w.heap.size (y.cells (.slice au y.load.length cu)) rfl (by rw [LeafP.cells, HX1.out, HX2.out, HX3.out]; rfl) 29 (LeafP.zero.cells (.slice none 0 0)) HZ1.out (leaf_sz _ _) rfl ?_ ?_; exact leaf_one_by HU.out))
  have hend : (w1.setRow w.heap.size (y.cells (.slice au y.load.length cu))).heap[w.heap.size]? = some (.cells (y.cells (.slice au y.load.length cu)) 29 (0, 0)) := setRow_heap _ _ _ _ _ _ HZ1.out
  refine bodyPost_ret (results_cell_row rfl _ _ w.heap.size 29 (y.cells (.slice au y.load.length cu)) (0, 0) _ rfl hend Try.underlying29 rfl (leaf_sz _ _)) rfl ⟨_, rfl, ?_, below_setRow (HB0.out.trans (HB.out.mono HB0.out.size)) (Nat.le_refl _) _⟩
  exact (HU.out.besideRow (leaf_none _ _ _ _) HZ1.out _).mono (by rw [setRow_size]; exact Nat.le_refl _)
end Go.Proofs.Ytopjadmjahpeoaa

/-
  bytes.Equal; leaf.Read: the leaf of a sector, or why there is none.
  Conditions: none.
-/
import Derived.Test.YtiibpkncdflfcaaJL1
import Derived.Test.YtiibpkncdflfcaaJS
namespace Go.Proofs.Ytiibpkncdflfcaa
open Go.RowKit

theorem equal_any {n m : Nat} (u v : Value) (xs ys : List (BitVec 8)) (w : World) (hu : BytesAt n w u xs) (hv : BytesAt m w v ys) :
    Calls Try.prog 30 #[u, v] w fun e w' => e = .returned (.bool (decide (xs = ys))) ∧ w = w' := by
  have c1 := conv_str hu
  have c2 := conv_str hv
  have HE := Lib.hid (strB_beq xs ys)
  obtain ⟨_, _, rfl, _⟩ := hu
  obtain ⟨_, _, rfl, _⟩ := hv
  go_enter Try.func30, Try.ntmps30
  go_wp2
  go_ret
  exact ⟨by rw [← HE.out]; rfl, rfl⟩

/-- The leaf of a sector, and why there is none. -/
def readErr (bs : List (BitVec 8)) : Int := if sizeB bs.length then (if buildErr bs.length (seem bs).kind (seem bs).place (seem bs).stamp (seem bs).load.length = 0 ∧ leafB bs.length (seem bs).kind (seem bs).place (seem bs).stamp (seem bs).load = bs then 0 else 5) else 3
def readL (bs : List (BitVec 8)) : LeafP := if readErr bs = 0 then seem bs else LeafP.zero
def LeafRet2 (x : LeafP) (n : Int) (w : World) (e : Ending) (w' : World) : Prop := ∃ u, e = .returned (.tuple #[.agg (x.cells u), .int .i64 n]) ∧ BytesAt w'.heap.size w' u x.load ∧ Below w.heap.size w w'
theorem read_res (w : World) (z : Nat) (x : LeafP) (u : Value) (n : Int) (a : Act) (h : w.heap[z]? = some (.cells (x.cells u) 39 (0, 0))) (h2 : a.tmps.getD 2 undef = .pointer (some ⟨z, 0, none⟩)) (h3 : a.tmps.getD 3 undef = .int .i64 n) :
    (results Try.f29 a.tmps).run Try.prog w = .ok (.tuple #[.agg (x.cells u), .int .i64 n]) w := by
  have h2' : a.tmps[2]?.getD undef = .pointer (some ⟨z, 0, none⟩) := by simpa using h2
  have h3' : a.tmps[3]?.getD undef = .int .i64 n := by simpa using h3
  simp [results, Try.results29, h2', h3', asAddr, run_loadVar_row w z 39 39 (x.cells u) (0, 0) _ h Try.underlying39 rfl (leaf_sz x u)]

set_option maxRecDepth 100000 in
set_option maxHeartbeats 4000000 in
theorem read_any (v : Value) (bs : List (BitVec 8)) (w : World) (hv : BytesAt w.heap.size w v bs) (hl : bs.length ≤ 549755813888) :
    Calls Try.prog 29 #[v] w (LeafRet2 (readL bs) (readErr bs) w) := by
  have hB0 : Below w.heap.size w (w.alloc (.cells (LeafP.zero.cells (.slice none 0 0)) 39)) := (Below.refl _ _).alloc (Nat.le_refl _) _
  have HV := Lib.hid ((hv.below hB0).mono hB0.size)
  have hZ : (w.alloc (.cells (LeafP.zero.cells (.slice none 0 0)) 39)).heap[w.heap.size]? = some (.cells (LeafP.zero.cells (.slice none 0 0)) 39 (0, 0)) := heap_alloc_new _ _
  have HB0 := Lib.hid hB0
  have HZ := Lib.hid hZ
  have HS := Lib.hid (lsize_any bs.length)
  have HVL := Lib.hid hl
  obtain ⟨a, cap, rfl, hcap, _⟩ := hv
  clear hB0 hZ
  cases hs : sizeB bs.length with
  | false =>
    have HE : Hid (readErr bs = 3) := by unfold Hid readErr; rw [hs]; rfl
    have HR : Hid (readL bs = LeafP.zero) := by unfold Hid readL; rw [HE.out]; rfl
    rw [hs] at HS
    clear hs
    go_enter Try.func29, Try.ntmps29
    go_upto_region 1 with (fail)
    change (Code.region _ _ _).wp _ _ _ (w.alloc (.cells (LeafP.zero.cells (.slice none 0 0)) 39))
    generalize w.alloc (.cells (LeafP.zero.cells (.slice none 0 0)) 39) = w0 at HV HZ HB0 ⊢
    go_wp2_with (first
      | (go_at_call 38; (with_reducible refine (HS.out _).mono ?_); rintro e w1 ⟨rfl, rfl⟩)
      | (refine wpList_store_row (o := ⟨none, _, _, _, _, _⟩) rfl 39 (.tmp 2) (.tmp 11) rfl w.heap.size (LeafP.zero.cells (.slice none 0 0)) rfl rfl 39 (LeafP.zero.cells (.slice none 0 0)) HZ.out (leaf_sz _ _) rfl ?_ ?_; exact leaf_one _))
    have hend : (w0.setRow w.heap.size (LeafP.zero.cells (.slice none 0 0))).heap[w.heap.size]? = some (.cells (LeafP.zero.cells (.slice none 0 0)) 39 (0, 0)) := setRow_heap _ _ _ _ _ _ HZ.out
    refine bodyPost_ret (read_res _ w.heap.size LeafP.zero _ 3 _ hend rfl rfl) rfl ⟨.slice none 0 0, by rw [HE.out, HR.out], ?_, below_setRow HB0.out (Nat.le_refl _) _⟩
    rw [HR.out]
    exact BytesAt.nil _ _
  | true =>
    obtain ⟨s1, s2⟩ : 96 ≤ (bs.length : Int) ∧ (bs.length : Int) ≤ 512 := by simpa [sizeB] using hs
    have HRE : Hid (readErr bs = if buildErr bs.length (seem bs).kind (seem bs).place (seem bs).stamp (seem bs).load.length = 0 ∧ leafB bs.length (seem bs).kind (seem bs).place (seem bs).stamp (seem bs).load = bs then 0 else 5) := by unfold Hid readErr; rw [if_pos hs]
    have HRL : Hid (readL bs = if readErr bs = 0 then seem bs else LeafP.zero) := rfl
    have HST : Hid ((seem bs).stamp ≤ 9223372036854775807) := by
      show wrap64 _ ≤ _
      unfold wrap64; omega
    have hSE := fun W (h : BytesAt W.heap.size W (.slice a bs.length cap) bs) => seeming_any _ bs W h (by omega) (by omega)
    obtain ⟨y, hy⟩ : ∃ y, seem bs = y := ⟨_, rfl⟩
    rw [hy] at HRE HRL HST
    simp only [hy] at hSE
    have HSE := Lib.hid hSE
    clear hSE hy
    obtain ⟨n, hn⟩ : ∃ n : Int, (bs.length : Int) = n := ⟨_, rfl⟩
    have HBU := Lib.hid (fun (u : Value) W (h : BytesAt W.heap.size W u y.load) => (show Calls Try.prog 22 #[.int .i64 bs.length, .agg (y.cells u)] W (Built (buildB bs.length y.kind y.place y.stamp y.load) (buildErr bs.length y.kind y.place y.stamp y.load.length) W) from build_any bs.length y.kind y.place y.stamp u y.load W h HST.out))
    clear hn n
    rw [hs] at HS
    go_enter Try.func29, Try.ntmps29
    go_upto_region 1 with (fail)
    change (Code.region _ _ _).wp _ _ _ (w.alloc (.cells (LeafP.zero.cells (.slice none 0 0)) 39))
    generalize w.alloc (.cells (LeafP.zero.cells (.slice none 0 0)) 39) = w0 at HV HZ HB0 ⊢
    go_upto_region 4 with (first
      | (go_at_call 38; (with_reducible refine (HS.out _).mono ?_); rintro e w1 ⟨rfl, rfl⟩)
      | (go_at_call 48; (with_reducible refine (HSE.out _ HV.out).mono ?_); rintro e w1 ⟨u, rfl, hu, hb⟩; obtain ⟨au, cu, rfl, _⟩ := id hu; have HU := Lib.hid hu; have HB := Lib.hid hb; clear hu hb)
      | (refine wpList_store_row (o := ⟨none, _, _, _, _, _⟩) rfl 39 (.tmp 4) (.tmp 13) rfl w1.heap.size (y.cells (.slice au y.load.length cu)) rfl rfl 39 (LeafP.zero.cells (.slice none 0 0)) (heap_alloc_new _ _) (leaf_sz _ _) rfl ?_ ?_; exact leaf_one _))
    have hbw : Below w1.heap.size w1 ((w1.alloc (.cells (LeafP.zero.cells (.slice none 0 0)) 39)).setRow w1.heap.size (y.cells (.slice au y.load.length cu))) := below_setRow ((Below.refl _ _).alloc (Nat.le_refl _) _) (Nat.le_refl _) _
    have hP2 : ((w1.alloc (.cells (LeafP.zero.cells (.slice none 0 0)) 39)).setRow w1.heap.size (y.cells (.slice au y.load.length cu))).heap[w1.heap.size]? = some (.cells (y.cells (.slice au y.load.length cu)) 39 (0, 0)) := setRow_heap _ _ _ _ _ _ (heap_alloc_new _ _)
    change (Code.region _ _ _).wp _ _ _ ((w1.alloc (.cells (LeafP.zero.cells (.slice none 0 0)) 39)).setRow w1.heap.size (y.cells (.slice au y.load.length cu)))
    generalize (w1.alloc (.cells (LeafP.zero.cells (.slice none 0 0)) 39)).setRow w1.heap.size (y.cells (.slice au y.load.length cu)) = w2 at hbw hP2 ⊢
    have HP2 := Lib.hid hP2
    have HU2 := Lib.hid ((HU.out.below hbw).mono hbw.size)
    have hb2 : Below w0.heap.size w0 w2 := HB.out.trans (hbw.mono HB.out.size)
    have HZ2 := Lib.hid ((hb2.block _ (blk_lt HZ.out)).trans HZ.out)
    have HV2 := Lib.hid ((HV.out.below hb2).mono hb2.size)
    have HB2 := Lib.hid (HB0.out.trans (hb2.mono HB0.out.size))
    have HBU2 := Lib.hid (HBU.out _ w2 HU2.out)
    obtain ⟨P, hP⟩ : ∃ P, w1.heap.size = P := ⟨_, rfl⟩
    rw [hP] at HP2 ⊢
    clear hbw hP2 hb2 HBU HSE HU HB HZ HV HB0 HS hP
    by_cases he : buildErr bs.length y.kind y.place y.stamp y.load.length = 0
    · have hbb : buildB bs.length y.kind y.place y.stamp y.load = leafB bs.length y.kind y.place y.stamp y.load := by unfold buildB; rw [if_pos he]
      rw [hbb, he] at HBU2
      rw [he] at HRE
      obtain ⟨B, hB⟩ : ∃ B, leafB bs.length y.kind y.place y.stamp y.load = B := ⟨_, rfl⟩
      rw [hB] at HBU2 HRE
      clear hbb he hB hs
      by_cases hbs : B = bs
      · subst hbs
        have HE : Hid (readErr B = 0) := by unfold Hid; rw [HRE.out]; simp
        have HR : Hid (readL B = y) := by unfold Hid; rw [HRL.out, HE.out]; rfl
        have hd : decide (B = B) = true := by simp
        have HEQ := Lib.hid (fun n m u v W (h1 : BytesAt n W u B) (h2 : BytesAt m W v B) => equal_any u v B B W h1 h2)
        rw [hd] at HEQ
        clear HRE HRL hd
        go_wp2_with (first
          | (refine wpList_load_row (o := ⟨some 17, _, _, _, _, _⟩) rfl 39 (.tmp 4) rfl P rfl 39 (y.cells (.slice au y.load.length cu)) (0, 0) _ HP2.out Try.underlying39 rfl (leaf_sz _ _) ?_)
          | (go_at_call 22; (with_reducible refine HBU2.out.mono ?_); rintro e w3 ⟨u3, rfl, hu3, hb3⟩; have HU3 := Lib.hid (BytesAt.of_owns hu3); have HB3 := Lib.hid hb3; have HEQ2 := Lib.hid (HEQ.out _ _ _ _ _ (BytesAt.of_owns hu3) (HV2.out.below hb3)); have HP3 := Lib.hid ((hb3.block _ (blk_lt HP2.out)).trans HP2.out); have HZ3 := Lib.hid ((hb3.block _ (blk_lt HZ2.out)).trans HZ2.out); clear hu3 hb3)
          | (go_at_call 30; (with_reducible refine HEQ2.out.mono ?_); rintro e w4 ⟨rfl, rfl⟩)
          | (refine wpList_load_row (o := ⟨some 30, _, _, _, _, _⟩) rfl 39 (.tmp 4) rfl P rfl 39 (y.cells (.slice au y.load.length cu)) (0, 0) _ HP3.out Try.underlying39 rfl (leaf_sz _ _) ?_)
          | (refine wpList_store_row (o := ⟨none, _, _, _, _, _⟩) rfl 39 (.tmp 2) (.tmp 30) rfl w.heap.size (y.cells (.slice au y.load.length cu)) rfl rfl 39 (LeafP.zero.cells (.slice none 0 0)) HZ3.out (leaf_sz _ _) rfl ?_ ?_; exact leaf_one _))
        have hend : (w3.setRow w.heap.size (y.cells (.slice au y.load.length cu))).heap[w.heap.size]? = some (.cells (y.cells (.slice au y.load.length cu)) 39 (0, 0)) := setRow_heap _ _ _ _ _ _ HZ3.out
        refine bodyPost_ret (read_res _ w.heap.size y _ 0 _ hend rfl rfl) rfl ⟨_, by rw [HE.out, HR.out], ?_, below_setRow (HB2.out.trans (HB3.out.mono HB2.out.size)) (Nat.le_refl _) _⟩
        rw [HR.out]
        exact (((HU2.out.below HB3.out).mono HB3.out.size).besideRow (leaf_none _ _ _ _) HZ3.out _).mono (by rw [setRow_size]; exact Nat.le_refl _)
      · have HE : Hid (readErr bs = 5) := by unfold Hid; rw [HRE.out, if_neg (fun h => hbs h.2)]
        have HR : Hid (readL bs = LeafP.zero) := by unfold Hid; rw [HRL.out, HE.out]; rfl
        have hd : decide (B = bs) = false := by simpa using hbs
        have HEQ := Lib.hid (fun n m u v W (h1 : BytesAt n W u B) (h2 : BytesAt m W v bs) => equal_any u v B bs W h1 h2)
        rw [hd] at HEQ
        clear HRE HRL hd hbs
        go_wp2_with (first
          | (refine wpList_load_row (o := ⟨some 17, _, _, _, _, _⟩) rfl 39 (.tmp 4) rfl P rfl 39 (y.cells (.slice au y.load.length cu)) (0, 0) _ HP2.out Try.underlying39 rfl (leaf_sz _ _) ?_)
          | (go_at_call 22; (with_reducible refine HBU2.out.mono ?_); rintro e w3 ⟨u3, rfl, hu3, hb3⟩; have HB3 := Lib.hid hb3; have HEQ2 := Lib.hid (HEQ.out _ _ _ _ _ (BytesAt.of_owns hu3) (HV2.out.below hb3)); have HZ3 := Lib.hid ((hb3.block _ (blk_lt HZ2.out)).trans HZ2.out); clear hu3 hb3)
          | (go_at_call 30; (with_reducible refine HEQ2.out.mono ?_); rintro e w4 ⟨rfl, rfl⟩)
          | (refine wpList_store_row (o := ⟨none, _, _, _, _, _⟩) rfl 39 (.tmp 2) (.tmp 29) rfl w.heap.size (LeafP.zero.cells (.slice none 0 0)) rfl rfl 39 (LeafP.zero.cells (.slice none 0 0)) HZ3.out (leaf_sz _ _) rfl ?_ ?_; exact leaf_one _))
        have hend : (w3.setRow w.heap.size (LeafP.zero.cells (.slice none 0 0))).heap[w.heap.size]? = some (.cells (LeafP.zero.cells (.slice none 0 0)) 39 (0, 0)) := setRow_heap _ _ _ _ _ _ HZ3.out
        refine bodyPost_ret (read_res _ w.heap.size LeafP.zero _ 5 _ hend rfl rfl) rfl ⟨.slice none 0 0, by rw [HE.out, HR.out], ?_, below_setRow (HB2.out.trans (HB3.out.mono HB2.out.size)) (Nat.le_refl _) _⟩
        rw [HR.out]
        exact BytesAt.nil _ _
    · have HE : Hid (readErr bs = 5) := by unfold Hid; rw [HRE.out, if_neg (fun h => he h.1)]
      have HR : Hid (readL bs = LeafP.zero) := by unfold Hid; rw [HRL.out, HE.out]; rfl
      obtain ⟨er, her⟩ : ∃ er, buildErr bs.length y.kind y.place y.stamp y.load.length = er := ⟨_, rfl⟩
      rw [her] at HBU2 he
      have hne : (er != 0) = true := by simpa using he
      clear HRE HRL her he hs
      go_wp2_with (first
        | (refine wpList_load_row (o := ⟨some 17, _, _, _, _, _⟩) rfl 39 (.tmp 4) rfl P rfl 39 (y.cells (.slice au y.load.length cu)) (0, 0) _ HP2.out Try.underlying39 rfl (leaf_sz _ _) ?_)
        | (go_at_call 22; (with_reducible refine HBU2.out.mono ?_); rintro e w3 ⟨u3, rfl, hu3, hb3⟩; have HB3 := Lib.hid hb3; have HZ3 := Lib.hid ((hb3.block _ (blk_lt HZ2.out)).trans HZ2.out); clear hu3 hb3)
        | (refine wpList_store_row (o := ⟨none, _, _, _, _, _⟩) rfl 39 (.tmp 2) (.tmp 29) rfl w.heap.size (LeafP.zero.cells (.slice none 0 0)) rfl rfl 39 (LeafP.zero.cells (.slice none 0 0)) HZ3.out (leaf_sz _ _) rfl ?_ ?_; exact leaf_one _))
      have hend : (w3.setRow w.heap.size (LeafP.zero.cells (.slice none 0 0))).heap[w.heap.size]? = some (.cells (LeafP.zero.cells (.slice none 0 0)) 39 (0, 0)) := setRow_heap _ _ _ _ _ _ HZ3.out
      refine bodyPost_ret (read_res _ w.heap.size LeafP.zero _ 5 _ hend rfl rfl) rfl ⟨.slice none 0 0, by rw [HE.out, HR.out], ?_, below_setRow (HB2.out.trans (HB3.out.mono HB2.out.size)) (Nat.le_refl _) _⟩
      rw [HR.out]
      exact BytesAt.nil _ _
end Go.Proofs.Ytiibpkncdflfcaa

/-
  super.Unpack: the head of 63 bytes.
  Conditions: none.
-/
import Derived.Test.YtfdipeaddofjaaaSup2
import Derived.Test.YtfdipeaddofjaaaPlanUnpack
namespace Go.Proofs.Ytfdipeaddofjaaa
open Go.RowKit
attribute [-go_sem] Instr.build Instr.fill

/-- The number of n bytes at j. -/
def numU (bs : List (BitVec 8)) (j n : Nat) : BitVec 64 := leOf ((bs.drop j).take n)
def numAt (bs : List (BitVec 8)) (j n : Nat) : Int := wrap64 (U (numU bs j n))
def HeadP.of (p : PlanP) (gen : Int) (bs : List (BitVec 8)) : HeadP := ⟨p, gen, numAt bs 26 4, numAt bs 30 8, numAt bs 38 1, numAt bs 39 8, numAt bs 47 8, numAt bs 55 8⟩
def HeadP.zero : HeadP := ⟨PlanP.zero, 0, 0, 0, 0, 0, 0, 0⟩
/-- The head that bytes are the load of, or none. -/
def headGood (gen : Int) (bs : List (BitVec 8)) : Prop := bs.length = 63 ∧ (PlanP.ofBytes (bs.take 26)).fits = true ∧ (HeadP.of (PlanP.ofBytes (bs.take 26)) gen bs).Ok
instance (gen : Int) (bs : List (BitVec 8)) : Decidable (headGood gen bs) := by unfold headGood; infer_instance
def headOf (gen : Int) (bs : List (BitVec 8)) : HeadP := if headGood gen bs then HeadP.of (PlanP.ofBytes (bs.take 26)) gen bs else HeadP.zero
def headErr (gen : Int) (bs : List (BitVec 8)) : Int := if headGood gen bs then 0 else 5
/-- What Unpack leaves. -/
def SUnp (gen : Int) (bs : List (BitVec 8)) (w : World) (e : Ending) (w' : World) : Prop := e = .returned (.tuple #[.agg (headOf gen bs).cells, .int .i64 (headErr gen bs)]) ∧ Below w.heap.size w w'

theorem head_no8 (h : HeadP) (j : Nat) (v : Value) (hv : h.cells[j]? = some v) (y : Int) : v ≠ .int .u8 y := by
  rintro rfl
  have hm : Value.int .u8 y ∈ h.cells.toList := by
    rw [← Array.getElem?_toList] at hv
    exact List.mem_of_getElem? hv
  simp [HeadP.cells] at hm
/-- What holds while numbers are read. -/
def SupAt (w : World) (bs : List (BitVec 8)) (R P : Nat) (h : HeadP) (j : Nat) (W : World) : Prop :=
  ∃ v, ReaderAt W R v (bs.drop j) false ∧ W.heap[w.heap.size]? = some (.cells HeadP.zero.cells 35 (0, 0)) ∧ W.heap[P]? = some (.cells h.cells 35 (0, 0)) ∧ Below w.heap.size w W
theorem SupAt.num {w W : World} {bs : List (BitVec 8)} {R P : Nat} {h : HeadP} {j : Nat} (hs : SupAt w bs R P h j W) (n : Nat) (m : Int) (hm : m = n) (hn : mayB m = true) (hj : j + n ≤ 63) (hlen : bs.length = 63) (hR : w.heap.size < R) :
    Calls Try.prog 34 #[.pointer (some ⟨R, 0, none⟩), .int .i64 m] W fun e w' => e = .returned (.int .u64 (U (numU bs j n))) ∧ SupAt w bs R P h (j + n) w' := by
  subst hm
  obtain ⟨v, hr, hZ, hP, hb⟩ := hs
  have ht : tookN (bs.drop j) true n = some n := by simp [tookN, hlen]; omega
  refine (rnumber_any R v _ false _ W hr (by rw [List.length_drop, hlen]; omega)).mono ?_
  rintro e w' ⟨he, v', h1, h2⟩
  rw [hn, ht] at he h1
  have hRZ : ∀ {i : Nat} {cs : Array Value} {t : TypeId}, W.heap[i]? = some (.cells cs t (0, 0)) → 125 ≠ t → w'.heap[i]? = some (.cells cs t (0, 0)) := fun hi hne =>
    (h2.block _ (blk_lt hi) (fun e => blk_ne hr.blk hi hne e.symm)).trans hi
  refine ⟨he, v', ?_, hRZ hZ (by decide), hRZ hP (by decide), hb.trans (h2.below (fun i hi => by rw [show i = R from hi]; omega) hb.size)⟩
  rw [← List.drop_drop]
  exact h1
theorem SupAt.put {w W : World} {bs : List (BitVec 8)} {R P : Nat} {h : HeadP} {j : Nat} (hs : SupAt w bs R P h j W) (i : Nat) (x : Int) (h' : HeadP) (hh : h.cells.setIfInBounds i (.int .i64 x) = h'.cells) (hP : w.heap.size < P) :
    SupAt w bs R P h' j (W.setCell ⟨P, i, none⟩ (.int .i64 x)) := by
  obtain ⟨v, hr, hZ, hPb, hb⟩ := hs
  have hRP : R ≠ P := blk_ne hr.blk hPb (by decide)
  refine ⟨v, ⟨(Below.heap_setCell _ _ _ _ hRP).trans hr.blk, (hr.bytes.besideP (head_no8 h) hPb).mono (by simp [World.setCell])⟩, (Below.heap_setCell _ _ _ _ (by show w.heap.size ≠ P; omega)).trans hZ, ?_, hb.setCell (p := ⟨P, i, none⟩) (by show w.heap.size ≤ P; omega) _⟩
  rw [← hh]
  exact blk_set hPb i _
theorem SupAt.cell {w W : World} {bs : List (BitVec 8)} {R P : Nat} {h : HeadP} {j : Nat} (hs : SupAt w bs R P h j W) (i : Nat) {v : Value} (hv : h.cells[i]? = some v) : W.cell? ⟨P, i, none⟩ = some v ∧ W.frozen? ⟨P, i, none⟩ = false := by
  obtain ⟨_, _, _, hP, _⟩ := hs
  exact ⟨(blk_cell hP i).trans hv, blk_frozen hP i⟩
theorem kh_sz (h : HeadP) : (Try.prog.info? 35).map (·.size) = some h.cells.size := by show _ = some 15; kernel_rfl
theorem kh_one (h : HeadP) : h.cells.all (·.oneCell') = true := by simp [HeadP.cells, Value.oneCell']
theorem sunp_res (w : World) (z : Nat) (x : HeadP) (n : Int) (a : Act) (h : w.heap[z]? = some (.cells x.cells 35 (0, 0))) (h2 : a.tmps.getD 4 undef = .pointer (some ⟨z, 0, none⟩)) (h3 : a.tmps.getD 5 undef = .int .i64 n) :
    (results Try.f8 a.tmps).run Try.prog w = .ok (.tuple #[.agg x.cells, .int .i64 n]) w := by
  have h2' : a.tmps[4]?.getD undef = .pointer (some ⟨z, 0, none⟩) := by simpa using h2
  have h3' : a.tmps[5]?.getD undef = .int .i64 n := by simpa using h3
  simp [results, Try.results8, h2', h3', asAddr, run_loadVar_row w z 35 35 x.cells (0, 0) _ h Try.underlying35 rfl (kh_sz x)]
@[local go_sem] theorem build_zero (W : World) : (Instr.build 35 #[]).run Try.prog W = .ok (.agg HeadP.zero.cells) W := run_build W _ _ _ (by kernel_rfl)
@[local go_sem] theorem build_plan (p : PlanP) (g : Int) (W : World) : (Instr.build 35 #[(0, .agg p.cells), (1, .int .i64 g)]).run Try.prog W = .ok (.agg (HeadP.cells ⟨p, g, 0, 0, 0, 0, 0, 0⟩)) W := run_build W _ _ _ (by kernel_rfl)

/-- Ahead of the head: the reader. -/
def SupAt0 (w : World) (bs : List (BitVec 8)) (R j : Nat) (W : World) : Prop := ∃ v, ReaderAt W R v (bs.drop j) false ∧ W.heap[w.heap.size]? = some (.cells HeadP.zero.cells 35 (0, 0)) ∧ Below w.heap.size w W
theorem SupAt0.below {w W W' : World} {bs : List (BitVec 8)} {R j : Nat} (h : SupAt0 w bs R j W) (hb : Below W.heap.size W W') : SupAt0 w bs R j W' := by
  obtain ⟨v, h1, h2, h3⟩ := h
  exact ⟨v, h1.below hb, (hb.block _ (blk_lt h2)).trans h2, h3.trans (hb.mono h3.size)⟩
theorem SupAt0.raw {w W : World} {bs : List (BitVec 8)} {R : Nat} (hs : SupAt0 w bs R 0 W) (hlen : bs.length = 63) (hR : w.heap.size < R) :
    Calls Try.prog 33 #[.pointer (some ⟨R, 0, none⟩), .int .i64 26] W fun e w' => ∃ u, e = .returned u ∧ BytesAt w'.heap.size w' u (bs.take 26) ∧ SupAt0 w bs R 26 w' := by
  obtain ⟨v, hr, hZ, hb⟩ := hs
  have ht : tookN (bs.drop 0) true 26 = some 26 := by simp [tookN, hlen]
  refine (rraw_any R v _ false 26 W hr (by rw [List.length_drop, hlen]; omega)).mono ?_
  rintro e w' ⟨u, he, hu, v', h1, h2⟩
  rw [ht] at hu h1
  have hRZ : ∀ {i : Nat} {cs : Array Value} {t : TypeId}, W.heap[i]? = some (.cells cs t (0, 0)) → 125 ≠ t → w'.heap[i]? = some (.cells cs t (0, 0)) := fun hi hne =>
    (h2.block _ (blk_lt hi) (fun e => blk_ne hr.blk hi hne e.symm)).trans hi
  refine ⟨u, he, hu, v', h1, hRZ hZ (by decide), hb.trans (h2.below (fun i hi => by rw [show i = R from hi]; omega) hb.size)⟩
theorem SupAt.all {w W : World} {bs : List (BitVec 8)} {R P : Nat} {h : HeadP} {j : Nat} (hs : SupAt w bs R P h j W) : W.heap[P]? = some (.cells h.cells 35 (0, 0)) := by
  obtain ⟨_, _, _, hP, _⟩ := hs
  exact hP
theorem SupAt.zero {w W : World} {bs : List (BitVec 8)} {R P : Nat} {h : HeadP} {j : Nat} (hs : SupAt w bs R P h j W) : W.heap[w.heap.size]? = some (.cells HeadP.zero.cells 35 (0, 0)) ∧ Below w.heap.size w W := by
  obtain ⟨_, _, hZ, _, hb⟩ := hs
  exact ⟨hZ, hb⟩
theorem SupAt.below {w W W' : World} {bs : List (BitVec 8)} {R P : Nat} {h : HeadP} {j : Nat} (hs : SupAt w bs R P h j W) (hb : Below W.heap.size W W') : SupAt w bs R P h j W' := by
  obtain ⟨v, h1, h2, h3, h4⟩ := hs
  exact ⟨v, h1.below hb, (hb.block _ (blk_lt h2)).trans h2, (hb.block _ (blk_lt h3)).trans h3, h4.trans (hb.mono h4.size)⟩
theorem kp_szS (p : PlanP) : (Try.prog.info? 31).map (·.size) = some p.cells.size := by show _ = some 8; kernel_rfl

set_option maxRecDepth 100000 in
set_option maxHeartbeats 8000000 in
theorem sunp_any (gen : Int) (u : Value) (bs : List (BitVec 8)) (w : World) (hu : BytesAt w.heap.size w u bs) (hl : bs.length ≤ 549755813888) : Calls Try.prog 8 #[.int .i64 gen, u] w (SUnp gen bs w) := by
  obtain ⟨a, cap, hua, hcap, _⟩ := id hu
  have HZ0 : Hid ((w.alloc (.cells HeadP.zero.cells 35)).heap[w.heap.size]? = some (.cells HeadP.zero.cells 35 (0, 0))) := heap_alloc_new _ _
  have HB0 : Hid (Below w.heap.size w (w.alloc (.cells HeadP.zero.cells 35))) := (Below.refl _ _).alloc (Nat.le_refl _) _
  have hu1 : BytesAt (w.alloc (.cells HeadP.zero.cells 35)).heap.size (w.alloc (.cells HeadP.zero.cells 35)) u bs := (hu.below HB0.out).mono HB0.out.size
  have HN := Lib.hid (newReader_any u bs _ hu1 (by omega))
  have HS0 : Hid ((w.alloc (.cells HeadP.zero.cells 35)).heap.size = w.heap.size + 1) := by unfold Hid; simp
  subst hua
  clear hu1 hu
  by_cases hlen : bs.length = 63
  · have HLEN := Lib.hid hlen
    rw [hlen] at HN ⊢
    clear hlen hl
    go_enter Try.func8, Try.ntmps8
    go_upto_region 1 with (fail)
    change (Code.region _ _ _).wp _ _ _ (w.alloc (.cells HeadP.zero.cells 35))
    generalize w.alloc (.cells HeadP.zero.cells 35) = w0 at *
    go_upto_region 4 with (go_at_call 31; (with_reducible refine HN.out.mono ?_); rintro e w1 ⟨R, v, rfl, hR, hr, hb, _⟩; have HR := Lib.hid hR; have HRD := Lib.hid hr; have HB1 := Lib.hid hb; clear hR hr hb)
    have HLT : Hid (w.heap.size < R) := by
      have h2 := HS0.out
      have h3 := HR.out
      unfold Hid; omega
    have HA0 : Hid (SupAt0 w bs R 0 w1) := ⟨v, HRD.out, (HB1.out.block _ (blk_lt HZ0.out)).trans HZ0.out, HB0.out.trans (HB1.out.mono HB0.out.size)⟩
    clear HRD HB1 HR HN
    obtain ⟨q, hq⟩ : ∃ q, (PlanP.ofBytes (bs.take 26)).unp = q := ⟨_, rfl⟩
    obtain ⟨er, her⟩ : ∃ er, (PlanP.ofBytes (bs.take 26)).err = er := ⟨_, rfl⟩
    have HUN : Hid (∀ W u', BytesAt W.heap.size W u' (bs.take 26) → Calls Try.prog 32 #[u'] W fun e w' => e = .returned (.tuple #[.agg q.cells, .int .i64 er]) ∧ Below W.heap.size W w') := fun W u' h => by
      have := unpack_any u' (bs.take 26) (by rw [List.length_take, HLEN.out]; rfl) W h
      rwa [hq, her] at this
    have HQ := Lib.hid hq
    have HER := Lib.hid her
    clear hq her
    go_upto_region 5 with (first
      | (go_at_call 33; (with_reducible refine (HA0.out.raw HLEN.out HLT.out).mono ?_); rintro e w2 ⟨u2, rfl, hu2, hs2⟩; have HU2 := Lib.hid hu2; have HA2 := Lib.hid hs2; clear hu2 hs2)
      | (go_at_call 32; (with_reducible refine (HUN.out _ _ HU2.out).mono ?_); rintro e w3 ⟨rfl, hb3⟩; have HA3 := Lib.hid (HA2.out.below hb3); clear hb3)
      | (refine wpList_store_row (o := ⟨none, _, _, _, _, _⟩) rfl 31 (.tmp 7) (.tmp 20) rfl w3.heap.size q.cells rfl rfl 31 PlanP.zero.cells (heap_alloc_new _ _) (kp_szS _) rfl ?_ ?_; exact kp_one _))
    change (Code.region _ _ _).wp _ _ _ ((w3.alloc (.cells PlanP.zero.cells 31)).setRow w3.heap.size q.cells)
    have hb4 : Below w3.heap.size w3 ((w3.alloc (.cells PlanP.zero.cells 31)).setRow w3.heap.size q.cells) := below_setRow ((Below.refl _ _).alloc (Nat.le_refl _) _) (Nat.le_refl _) _
    have hq4 : ((w3.alloc (.cells PlanP.zero.cells 31)).setRow w3.heap.size q.cells).heap[w3.heap.size]? = some (.cells q.cells 31 (0, 0)) := setRow_heap _ _ _ _ _ _ (heap_alloc_new _ _)
    generalize (w3.alloc (.cells PlanP.zero.cells 31)).setRow w3.heap.size q.cells = w4 at hb4 hq4 ⊢
    have HQ4 := Lib.hid hq4
    have HA4 := Lib.hid (HA3.out.below hb4)
    clear hb4 hq4
    go_upto_region 6 with (first
      | (refine wpList_load_row (o := ⟨some 22, _, _, _, _, _⟩) rfl 31 (.tmp 7) rfl w3.heap.size rfl 31 q.cells (0, 0) _ HQ4.out Try.underlying31 rfl (kp_szS _) ?_)
      | (refine wpList_store_row (o := ⟨none, _, _, _, _, _⟩) rfl 35 (.tmp 9) (.tmp 24) rfl w4.heap.size (HeadP.cells ⟨q, gen, 0, 0, 0, 0, 0, 0⟩) rfl rfl 35 HeadP.zero.cells (heap_alloc_new _ _) (kh_sz _) rfl ?_ ?_; exact kh_one _))
    change (Code.region _ _ _).wp _ _ _ ((w4.alloc (.cells HeadP.zero.cells 35)).setRow w4.heap.size (HeadP.cells ⟨q, gen, 0, 0, 0, 0, 0, 0⟩))
    have HP : Hid (w.heap.size < w4.heap.size) := by
      obtain ⟨_, _, h2, _⟩ := HA4.out
      exact blk_lt h2
    have hb5 : Below w4.heap.size w4 ((w4.alloc (.cells HeadP.zero.cells 35)).setRow w4.heap.size (HeadP.cells ⟨q, gen, 0, 0, 0, 0, 0, 0⟩)) := below_setRow ((Below.refl _ _).alloc (Nat.le_refl _) _) (Nat.le_refl _) _
    have hs5 : SupAt w bs R w4.heap.size ⟨q, gen, 0, 0, 0, 0, 0, 0⟩ 26 ((w4.alloc (.cells HeadP.zero.cells 35)).setRow w4.heap.size (HeadP.cells ⟨q, gen, 0, 0, 0, 0, 0, 0⟩)) := by
      obtain ⟨v, h1, h2, h3⟩ := HA4.out.below hb5
      exact ⟨v, h1, h2, setRow_heap _ _ _ _ _ _ (heap_alloc_new _ _), h3⟩
    generalize (w4.alloc (.cells HeadP.zero.cells 35)).setRow w4.heap.size (HeadP.cells ⟨q, gen, 0, 0, 0, 0, 0, 0⟩) = w5 at hb5 hs5 ⊢
    have HA5 := Lib.hid hs5
    generalize w4.heap.size = P at *
    clear hb5 hs5 HA4 HQ4 HA3 HA2 HA0 HU2 HZ0 HB0 HS0 HUN
    go_upto_region 7 with (go_at_call 34; (with_reducible refine (HA5.out.num 4 4 rfl rfl (by decide) HLEN.out HLT.out).mono ?_); rintro e w6 ⟨rfl, hs⟩; obtain ⟨ca, cb⟩ := hs.cell 9 rfl; have HS := Lib.hid hs; clear hs)
    change (Code.region _ _ _).wp _ _ _ (w6.setCell ⟨P, 9, none⟩ (.int .i64 (numAt bs 26 4)))
    have hs := HS.out.put 9 (numAt bs 26 4) ⟨q, gen, numAt bs 26 4, 0, 0, 0, 0, 0⟩ rfl HP.out
    generalize w6.setCell ⟨P, 9, none⟩ (.int .i64 (numAt bs 26 4)) = w7 at hs ⊢
    have HA7 := Lib.hid hs
    clear hs HS ca cb HA5
    go_upto_region 8 with (go_at_call 34; (with_reducible refine (HA7.out.num 8 8 rfl rfl (by decide) HLEN.out HLT.out).mono ?_); rintro e w8 ⟨rfl, hs⟩; obtain ⟨ca, cb⟩ := hs.cell 10 rfl; have HS := Lib.hid hs; clear hs)
    change (Code.region _ _ _).wp _ _ _ (w8.setCell ⟨P, 10, none⟩ (.int .i64 (numAt bs 30 8)))
    have hs := HS.out.put 10 (numAt bs 30 8) ⟨q, gen, numAt bs 26 4, numAt bs 30 8, 0, 0, 0, 0⟩ rfl HP.out
    generalize w8.setCell ⟨P, 10, none⟩ (.int .i64 (numAt bs 30 8)) = w9 at hs ⊢
    have HA9 := Lib.hid hs
    clear hs HS ca cb HA7
    go_upto_region 9 with (go_at_call 34; (with_reducible refine (HA9.out.num 1 1 rfl rfl (by decide) HLEN.out HLT.out).mono ?_); rintro e w10 ⟨rfl, hs⟩; obtain ⟨ca, cb⟩ := hs.cell 11 rfl; have HS := Lib.hid hs; clear hs)
    change (Code.region _ _ _).wp _ _ _ (w10.setCell ⟨P, 11, none⟩ (.int .i64 (numAt bs 38 1)))
    have hs := HS.out.put 11 (numAt bs 38 1) ⟨q, gen, numAt bs 26 4, numAt bs 30 8, numAt bs 38 1, 0, 0, 0⟩ rfl HP.out
    generalize w10.setCell ⟨P, 11, none⟩ (.int .i64 (numAt bs 38 1)) = w11 at hs ⊢
    have HA11 := Lib.hid hs
    clear hs HS ca cb HA9
    go_upto_region 10 with (go_at_call 34; (with_reducible refine (HA11.out.num 8 8 rfl rfl (by decide) HLEN.out HLT.out).mono ?_); rintro e w12 ⟨rfl, hs⟩; obtain ⟨ca, cb⟩ := hs.cell 12 rfl; have HS := Lib.hid hs; clear hs)
    change (Code.region _ _ _).wp _ _ _ (w12.setCell ⟨P, 12, none⟩ (.int .i64 (numAt bs 39 8)))
    have hs := HS.out.put 12 (numAt bs 39 8) ⟨q, gen, numAt bs 26 4, numAt bs 30 8, numAt bs 38 1, numAt bs 39 8, 0, 0⟩ rfl HP.out
    generalize w12.setCell ⟨P, 12, none⟩ (.int .i64 (numAt bs 39 8)) = w13 at hs ⊢
    have HA13 := Lib.hid hs
    clear hs HS ca cb HA11
    go_upto_region 11 with (go_at_call 34; (with_reducible refine (HA13.out.num 8 8 rfl rfl (by decide) HLEN.out HLT.out).mono ?_); rintro e w14 ⟨rfl, hs⟩; obtain ⟨ca, cb⟩ := hs.cell 13 rfl; have HS := Lib.hid hs; clear hs)
    change (Code.region _ _ _).wp _ _ _ (w14.setCell ⟨P, 13, none⟩ (.int .i64 (numAt bs 47 8)))
    have hs := HS.out.put 13 (numAt bs 47 8) ⟨q, gen, numAt bs 26 4, numAt bs 30 8, numAt bs 38 1, numAt bs 39 8, numAt bs 47 8, 0⟩ rfl HP.out
    generalize w14.setCell ⟨P, 13, none⟩ (.int .i64 (numAt bs 47 8)) = w15 at hs ⊢
    have HA15 := Lib.hid hs
    clear hs HS ca cb HA13
    go_upto_region 12 with (go_at_call 34; (with_reducible refine (HA15.out.num 8 8 rfl rfl (by decide) HLEN.out HLT.out).mono ?_); rintro e w16 ⟨rfl, hs⟩; obtain ⟨ca, cb⟩ := hs.cell 14 rfl; have HS := Lib.hid hs; clear hs)
    change (Code.region _ _ _).wp _ _ _ (w16.setCell ⟨P, 14, none⟩ (.int .i64 (numAt bs 55 8)))
    have hs := HS.out.put 14 (numAt bs 55 8) ⟨q, gen, numAt bs 26 4, numAt bs 30 8, numAt bs 38 1, numAt bs 39 8, numAt bs 47 8, numAt bs 55 8⟩ rfl HP.out
    generalize w16.setCell ⟨P, 14, none⟩ (.int .i64 (numAt bs 55 8)) = w17 at hs ⊢
    have HA17 := Lib.hid hs
    clear hs HS ca cb HA15
    obtain ⟨h, hh⟩ : ∃ h : HeadP, (⟨q, gen, numAt bs 26 4, numAt bs 30 8, numAt bs 38 1, numAt bs 39 8, numAt bs 47 8, numAt bs 55 8⟩ : HeadP) = h := ⟨_, rfl⟩
    have hat : SupAt w bs R P h 63 w17 := by rw [← hh]; exact HA17.out
    have HH : Hid (HeadP.of q gen bs = h) := hh
    have HAT := Lib.hid hat
    have HIS : Hid (∀ W, Calls Try.prog 21 #[.agg #[.int .i64 h.plan.sectors, .int .i64 h.plan.size, .int .i64 h.plan.regions, .int .i64 h.plan.rs, .int .i64 h.plan.log, .int .i64 h.plan.depth, .int .i64 h.plan.memory, .int .u64 (U h.plan.seed), .int .i64 h.gen, .int .i64 h.page, .int .i64 h.stamp, .int .i64 h.depth, .int .i64 h.log, .int .i64 h.region, .int .i64 h.time]] W (HeadTold h W)) := fun W => isHead_any h W
    clear hat hh HA17
    cases hfit : (PlanP.ofBytes (bs.take 26)).fits with
    | false =>
      have her : er = 12 := by rw [← HER.out]; exact (plan_fit_no hfit).2
      have HGU : Hid (headOf gen bs = HeadP.zero ∧ headErr gen bs = 5) := by
        have : ¬ headGood gen bs := fun h => by have := h.2.1; rw [hfit] at this; cases this
        exact ⟨if_neg this, if_neg this⟩
      subst her
      clear hfit HIS
      go_wp2_with (first
        | (refine wpList_store_row (o := ⟨none, _, _, _, _, _⟩) rfl 35 (.tmp 4) (.tmp 58) rfl w.heap.size HeadP.zero.cells rfl rfl 35 HeadP.zero.cells HAT.out.zero.1 (kh_sz _) rfl ?_ ?_; exact kh_one _))
      have hend : (w17.setRow w.heap.size HeadP.zero.cells).heap[w.heap.size]? = some (.cells HeadP.zero.cells 35 (0, 0)) := setRow_heap _ _ _ _ _ _ HAT.out.zero.1
      refine bodyPost_ret (v := .tuple #[.agg HeadP.zero.cells, .int .i64 5]) (sunp_res _ w.heap.size _ _ _ hend rfl rfl) rfl ⟨by rw [HGU.out.1, HGU.out.2], ?_⟩
      exact below_setRow HAT.out.zero.2 (Nat.le_refl _) _
    | true =>
      have her : er = 0 := by rw [← HER.out]; exact (plan_fit_yes hfit).2
      have hqq : q = PlanP.ofBytes (bs.take 26) := by rw [← HQ.out]; unfold PlanP.unp; rw [hfit]; rfl
      subst her
      obtain ⟨d0, d1, d2, d3, d4, d5, d6, d7, d8, d9, d10, d11, d12, d13, d14⟩ := head_all HAT.out.all (Below.refl _ _)
      by_cases hok : h.Ok
      · have HGU : Hid (headOf gen bs = h ∧ headErr gen bs = 0) := by
          have : headGood gen bs := ⟨HLEN.out, hfit, by rw [← hqq, HH.out]; exact hok⟩
          refine ⟨?_, if_pos this⟩
          unfold headOf
          rw [if_pos this, ← hqq]
          exact HH.out
        have hdt : decide h.Ok = true := by simpa using hok
        have HIT : Hid (∀ W e W', HeadTold h W e W' → e = .returned (.bool true) ∧ Below W.heap.size W W') := fun W e W' ht => by
          unfold HeadTold at ht; rwa [hdt] at ht
        clear hfit hqq hok hdt
        go_upto_region 14 with (first
          | (go_at_call 21; (with_reducible refine (HIS.out _).mono ?_); rintro e w18 ht; obtain ⟨rfl, hb18⟩ := HIT.out _ _ _ ht; have HA18 := Lib.hid (HAT.out.below hb18); clear ht hb18))
        clear d0 d1 d2 d3 d4 d5 d6 d7 d8 d9 d10 d11 d12 d13 d14
        go_wp2_with (first
          | (refine wpList_load_row (o := ⟨some 59, _, _, _, _, _⟩) rfl 35 (.tmp 9) rfl P rfl 35 h.cells (0, 0) _ HA18.out.all Try.underlying35 rfl (kh_sz _) ?_)
          | (refine wpList_store_row (o := ⟨none, _, _, _, _, _⟩) rfl 35 (.tmp 4) (.tmp 59) rfl w.heap.size h.cells rfl rfl 35 HeadP.zero.cells HA18.out.zero.1 (kh_sz _) rfl ?_ ?_; exact kh_one _))
        have hend : (w18.setRow w.heap.size h.cells).heap[w.heap.size]? = some (.cells h.cells 35 (0, 0)) := setRow_heap _ _ _ _ _ _ HA18.out.zero.1
        refine bodyPost_ret (v := .tuple #[.agg h.cells, .int .i64 0]) (sunp_res _ w.heap.size _ _ _ hend rfl rfl) rfl ⟨by rw [HGU.out.1, HGU.out.2], ?_⟩
        exact below_setRow HA18.out.zero.2 (Nat.le_refl _) _
      · have HGU : Hid (headOf gen bs = HeadP.zero ∧ headErr gen bs = 5) := by
          have : ¬ headGood gen bs := fun hg => hok (by have := hg.2.2; rw [← hqq, HH.out] at this; exact this)
          exact ⟨if_neg this, if_neg this⟩
        have hdt : decide h.Ok = false := by simpa using hok
        have HIT : Hid (∀ W e W', HeadTold h W e W' → e = .returned (.bool false) ∧ Below W.heap.size W W') := fun W e W' ht => by
          unfold HeadTold at ht; rwa [hdt] at ht
        clear hfit hqq hok hdt
        go_wp2_with (first
          | (go_at_call 21; (with_reducible refine (HIS.out _).mono ?_); rintro e w18 ht; obtain ⟨rfl, hb18⟩ := HIT.out _ _ _ ht; have HA18 := Lib.hid (HAT.out.below hb18); clear ht hb18)
          | (refine wpList_store_row (o := ⟨none, _, _, _, _, _⟩) rfl 35 (.tmp 4) (.tmp 58) rfl w.heap.size HeadP.zero.cells rfl rfl 35 HeadP.zero.cells HA18.out.zero.1 (kh_sz _) rfl ?_ ?_; exact kh_one _))
        have hend : (w18.setRow w.heap.size HeadP.zero.cells).heap[w.heap.size]? = some (.cells HeadP.zero.cells 35 (0, 0)) := setRow_heap _ _ _ _ _ _ HA18.out.zero.1
        refine bodyPost_ret (v := .tuple #[.agg HeadP.zero.cells, .int .i64 5]) (sunp_res _ w.heap.size _ _ _ hend rfl rfl) rfl ⟨by rw [HGU.out.1, HGU.out.2], ?_⟩
        exact below_setRow HA18.out.zero.2 (Nat.le_refl _) _
  · have HGU : Hid (headOf gen bs = HeadP.zero ∧ headErr gen bs = 5) := by
      have : ¬ headGood gen bs := fun h => hlen h.1
      exact ⟨if_neg this, if_neg this⟩
    have e1 : ((bs.length : Int) != 63) = true := by simp; omega
    clear hlen HN
    go_enter Try.func8, Try.ntmps8
    go_upto_region 1 with (fail)
    change (Code.region _ _ _).wp _ _ _ (w.alloc (.cells HeadP.zero.cells 35))
    generalize w.alloc (.cells HeadP.zero.cells 35) = w0 at *
    go_wp2_with (first
      | (refine wpList_store_row (o := ⟨none, _, _, _, _, _⟩) rfl 35 (.tmp 4) (.tmp 13) rfl w.heap.size HeadP.zero.cells rfl rfl 35 HeadP.zero.cells HZ0.out (kh_sz _) rfl ?_ ?_; exact kh_one _))
    have hend : (w0.setRow w.heap.size HeadP.zero.cells).heap[w.heap.size]? = some (.cells HeadP.zero.cells 35 (0, 0)) := setRow_heap _ _ _ _ _ _ HZ0.out
    refine bodyPost_ret (v := .tuple #[.agg HeadP.zero.cells, .int .i64 5]) (sunp_res _ w.heap.size _ _ _ hend rfl rfl) rfl ⟨by rw [HGU.out.1, HGU.out.2], ?_⟩
    exact below_setRow HB0.out (Nat.le_refl _) _

end Go.Proofs.Ytfdipeaddofjaaa

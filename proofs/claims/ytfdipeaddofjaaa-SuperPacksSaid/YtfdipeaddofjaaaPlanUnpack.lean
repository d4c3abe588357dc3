/-
  plan.Unpack: the plan of 26 bytes.
  Conditions: none.
-/
import Derived.Test.YtfdipeaddofjaaaPlanPack
import Derived.Test.YtfdipeaddofjaaaJP2
import Derived.Test.YtfdipeaddofjaaaJW
namespace Go.Proofs.Ytfdipeaddofjaaa
open Go.RowKit

def wid (k : Nat) : Nat := ([4, 4, 2, 2, 2, 2, 2, 8] : List Nat)[k]?.getD 0
/-- The number that lies at part k. -/
def numOf (bs : List (BitVec 8)) (k : Nat) : BitVec 64 := leOf ((bs.drop (rowLen k)).take (wid k))
def numInt (bs : List (BitVec 8)) (k : Nat) : Int := wrap64 (U (numOf bs k))
def PlanP.ofBytes (bs : List (BitVec 8)) : PlanP := ⟨numInt bs 0, numInt bs 1, numInt bs 2, numInt bs 3, numInt bs 4, numInt bs 5, numInt bs 6, numOf bs 7⟩
def PlanP.zero : PlanP := ⟨0, 0, 0, 0, 0, 0, 0, 0⟩
def PlanP.unp (p : PlanP) : PlanP := if p.fits then p else PlanP.zero
def unpCells (bs : List (BitVec 8)) (k : Nat) : Array Value := ((PlanP.ofBytes bs).cells.toList.take k ++ PlanP.zero.cells.toList.drop k).toArray
theorem unp_step (bs : List (BitVec 8)) (k : Nat) (hk : k < 7) : (unpCells bs k).setIfInBounds k (.int .i64 (numInt bs k)) = unpCells bs (k + 1) := by
  rcases (by omega : k = 0 ∨ k = 1 ∨ k = 2 ∨ k = 3 ∨ k = 4 ∨ k = 5 ∨ k = 6) with rfl | rfl | rfl | rfl | rfl | rfl | rfl <;> rfl
theorem unp_last (bs : List (BitVec 8)) : (unpCells bs 7).setIfInBounds 7 (.int .u64 (U (numOf bs 7))) = (PlanP.ofBytes bs).cells := rfl
theorem unp_at (bs : List (BitVec 8)) (k : Nat) (hk : k < 7) : (unpCells bs k)[k]? = some (.int .i64 0) := by
  rcases (by omega : k = 0 ∨ k = 1 ∨ k = 2 ∨ k = 3 ∨ k = 4 ∨ k = 5 ∨ k = 6) with rfl | rfl | rfl | rfl | rfl | rfl | rfl <;> rfl

/-- What holds while numbers are read: the reader, the plan as far as it has been read, all else as it was. -/
def UnpAt (w : World) (bs : List (BitVec 8)) (R P g : Nat) (ps : Array Value) (j k : Nat) (W : World) : Prop :=
  ∃ v, ReaderAt W R v (bs.drop (rowLen j)) false ∧ W.heap[w.heap.size]? = some (.cells PlanP.zero.cells 31 (0, 0)) ∧ W.heap[P]? = some (.cells (unpCells bs k) 31 (0, 0)) ∧ W.heap[g]? = some (.cells ps 126 (0, 0)) ∧ Below w.heap.size w W
theorem UnpAt.num {w W : World} {bs : List (BitVec 8)} {R P g : Nat} {ps : Array Value} {k : Nat} (h : UnpAt w bs R P g ps k k W) (n : Int) (hn : n = wid k) (hk : k < 8) (hlen : bs.length = 26) (hR : w.heap.size < R) :
    Calls Try.prog 34 #[.pointer (some ⟨R, 0, none⟩), .int .i64 n] W fun e w' => e = .returned (.int .u64 (U (numOf bs k))) ∧ UnpAt w bs R P g ps (k + 1) k w' := by
  subst hn
  obtain ⟨v, hr, hZ, hP, hg, hb⟩ := h
  have hmay : mayB (wid k) = true := by rcases (by omega : k = 0 ∨ k = 1 ∨ k = 2 ∨ k = 3 ∨ k = 4 ∨ k = 5 ∨ k = 6 ∨ k = 7) with rfl | rfl | rfl | rfl | rfl | rfl | rfl | rfl <;> rfl
  have hrow : rowLen (k + 1) = rowLen k + wid k ∧ rowLen k + wid k ≤ 26 := by rcases (by omega : k = 0 ∨ k = 1 ∨ k = 2 ∨ k = 3 ∨ k = 4 ∨ k = 5 ∨ k = 6 ∨ k = 7) with rfl | rfl | rfl | rfl | rfl | rfl | rfl | rfl <;> decide
  have ht : tookN (bs.drop (rowLen k)) true (wid k) = some (wid k) := by simp [tookN, hlen]; omega
  refine (rnumber_any R v _ false _ W hr (by rw [List.length_drop, hlen]; omega)).mono ?_
  rintro e w' ⟨he, v', h1, h2⟩
  rw [hmay, ht] at he h1
  have hRZ : ∀ {i : Nat} {cs : Array Value} {t : TypeId}, W.heap[i]? = some (.cells cs t (0, 0)) → 125 ≠ t → w'.heap[i]? = some (.cells cs t (0, 0)) := fun hi hne =>
    (h2.block _ (blk_lt hi) (fun e => blk_ne hr.blk hi hne e.symm)).trans hi
  refine ⟨he, v', ?_, hRZ hZ (by decide), hRZ hP (by decide), hRZ hg (by decide), hb.trans (h2.below (fun i hi => by rw [show i = R from hi]; omega) hb.size)⟩
  rw [hrow.1, ← List.drop_drop]
  exact h1
theorem unp_all (bs : List (BitVec 8)) (k i : Nat) (v : Value) (h : (unpCells bs k)[i]? = some v) (x : Int) : v ≠ .int .u8 x := by
  rintro rfl
  have hm : Value.int .u8 x ∈ (unpCells bs k).toList := by
    rw [← Array.getElem?_toList] at h
    exact List.mem_of_getElem? h
  unfold unpCells at hm
  rw [List.toList_toArray] at hm
  rcases List.mem_append.1 hm with h1 | h1
  · have := List.mem_of_mem_take h1
    simp [PlanP.cells] at this
  · have := List.mem_of_mem_drop h1
    simp [PlanP.cells] at this
theorem BytesAt.besideP {n₀ P i : Nat} {w : World} {u x : Value} {bs : List (BitVec 8)} {cs : Array Value} {t : TypeId} (h : BytesAt n₀ w u bs) (hcs : ∀ (j : Nat) (v : Value), cs[j]? = some v → ∀ y : Int, v ≠ .int .u8 y) (hP : w.heap[P]? = some (.cells cs t (0, 0))) : BytesAt n₀ (w.setCell ⟨P, i, none⟩ x) u bs := by
  obtain ⟨a', cap, rfl, hl, h0, h⟩ := h
  refine ⟨a', cap, rfl, hl, h0, ?_⟩
  rcases h with h | ⟨g, off, rfl, hg, hc⟩
  · exact .inl h
  · refine .inr ⟨g, off, rfl, hg, fun j hj => ?_⟩
    have hne : g ≠ P := by
      rintro rfl
      have h1 := hc j hj
      rw [blk_cell hP] at h1
      exact hcs _ _ h1 _ rfl
    exact (World.cell?_of_block (Below.heap_setCell w ⟨P, i, none⟩ x g hne)).trans (hc j hj)
theorem UnpAt.put {w W : World} {bs : List (BitVec 8)} {R P g : Nat} {ps : Array Value} {k : Nat} (h : UnpAt w bs R P g ps (k + 1) k W) (hk : k < 7) (hP : w.heap.size < P) :
    UnpAt w bs R P g ps (k + 1) (k + 1) (W.setCell ⟨P, k, none⟩ (.int .i64 (numInt bs k))) := by
  obtain ⟨v, hr, hZ, hPb, hg, hb⟩ := h
  have hgP : g ≠ P := blk_ne hg hPb (by decide)
  have hRP : R ≠ P := blk_ne hr.blk hPb (by decide)
  refine ⟨v, ⟨(Below.heap_setCell _ _ _ _ hRP).trans hr.blk, (hr.bytes.besideP (unp_all bs k) hPb).mono (by simp [World.setCell])⟩, (Below.heap_setCell _ _ _ _ (by show w.heap.size ≠ P; omega)).trans hZ, ?_, (Below.heap_setCell _ _ _ _ hgP).trans hg, hb.setCell (p := ⟨P, k, none⟩) (by show w.heap.size ≤ P; omega) _⟩
  · rw [← unp_step bs k hk]
    exact blk_set hPb k _
theorem UnpAt.cellP {w W : World} {bs : List (BitVec 8)} {R P g : Nat} {ps : Array Value} {j k : Nat} (h : UnpAt w bs R P g ps j k W) (hk : k < 7) : W.cell? ⟨P, k, none⟩ = some (.int .i64 0) ∧ W.frozen? ⟨P, k, none⟩ = false := by
  obtain ⟨_, _, _, hP, _, _⟩ := h
  exact ⟨(blk_cell hP k).trans (unp_at bs k hk), blk_frozen hP k⟩
theorem UnpAt.cellG {w W : World} {bs : List (BitVec 8)} {R P g : Nat} {ps : Array Value} {j k : Nat} (h : UnpAt w bs R P g ps j k W) (i : Nat) : W.cell? ⟨g, i, none⟩ = ps[i]? := by
  obtain ⟨_, _, _, _, hg, _⟩ := h
  exact blk_cell hg i
theorem kp_one (p : PlanP) : p.cells.all (·.oneCell') = true := by simp [PlanP.cells, Value.oneCell']
theorem unp_res (w : World) (z : Nat) (x : PlanP) (n : Int) (a : Act) (h : w.heap[z]? = some (.cells x.cells 31 (0, 0))) (h2 : a.tmps.getD 2 undef = .pointer (some ⟨z, 0, none⟩)) (h3 : a.tmps.getD 3 undef = .int .i64 n) :
    (results Try.f32 a.tmps).run Try.prog w = .ok (.tuple #[.agg x.cells, .int .i64 n]) w := by
  have h2' : a.tmps[2]?.getD undef = .pointer (some ⟨z, 0, none⟩) := by simpa using h2
  have h3' : a.tmps[3]?.getD undef = .int .i64 n := by simpa using h3
  simp [results, Try.results32, h2', h3', asAddr, run_loadVar_row w z 31 31 x.cells (0, 0) _ h Try.underlying31 rfl (kp_sz x)]

set_option maxRecDepth 100000 in
set_option maxHeartbeats 4000000 in
theorem unpack_q (q : PlanP) (u : Value) (bs : List (BitVec 8)) (hq : PlanP.ofBytes bs = q) (hlen : bs.length = 26) (w : World) (hu : BytesAt w.heap.size w u bs) : Calls Try.prog 32 #[u] w fun e w' => e = .returned (.tuple #[.agg q.unp.cells, .int .i64 q.err]) ∧ Below w.heap.size w w' := by
  have HQE := Lib.hid hq
  clear hq
  obtain ⟨a, cap, hua, hcap, _⟩ := id hu
  go_enter Try.func32, Try.ntmps32
  go_upto_region 1 with (fail)
  change (Code.region _ _ _).wp _ _ _ (w.alloc (.cells PlanP.zero.cells 31))
  have hu1 : BytesAt (w.alloc (.cells PlanP.zero.cells 31)).heap.size (w.alloc (.cells PlanP.zero.cells 31)) u bs := (hu.below ((Below.refl _ _).alloc (Nat.le_refl _) _)).mono (by simp)
  have HN := Lib.hid (newReader_any u bs _ hu1 (by omega))
  have HZ0 : Hid ((w.alloc (.cells PlanP.zero.cells 31)).heap[w.heap.size]? = some (.cells PlanP.zero.cells 31 (0, 0))) := heap_alloc_new _ _
  have HB0 : Hid (Below w.heap.size w (w.alloc (.cells PlanP.zero.cells 31))) := (Below.refl _ _).alloc (Nat.le_refl _) _
  have HS0 : Hid ((w.alloc (.cells PlanP.zero.cells 31)).heap.size = w.heap.size + 1) := by unfold Hid; simp
  subst hua
  clear hu1 hu
  have HLEN := Lib.hid hlen
  rw [hlen] at hcap HN ⊢
  clear hlen
  generalize w.alloc (.cells PlanP.zero.cells 31) = w0 at *
  go_upto_region 4 with (go_at_call 31; (with_reducible refine HN.out.mono ?_); rintro e w1 ⟨R, v, rfl, hR, hr, hb, _⟩; have HR := Lib.hid hR; have HRD := Lib.hid hr; have HB1 := Lib.hid hb; clear hR hr hb)
  go_upto_region 5 with (fail)
  change (Code.region _ _ _).wp _ _ _ (w1.alloc (.cells PlanP.zero.cells 31))
  have HP2 : Hid ((w1.alloc (.cells PlanP.zero.cells 31)).heap[w1.heap.size]? = some (.cells PlanP.zero.cells 31 (0, 0))) := heap_alloc_new _ _
  have HS2 : Hid ((w1.alloc (.cells PlanP.zero.cells 31)).heap.size = w1.heap.size + 1) := by unfold Hid; simp
  have hB12 : Below w1.heap.size w1 (w1.alloc (.cells PlanP.zero.cells 31)) := (Below.refl _ _).alloc (Nat.le_refl _) _
  have HRD2 := Lib.hid (HRD.out.below hB12)
  have HLT : Hid (w.heap.size < w1.heap.size ∧ w.heap.size < R) := by
    have h1 := HB1.out.size
    have h2 := HS0.out
    have h3 := HR.out
    exact ⟨by omega, by omega⟩
  have HZ2 : Hid ((w1.alloc (.cells PlanP.zero.cells 31)).heap[w.heap.size]? = some (.cells PlanP.zero.cells 31 (0, 0))) := (hB12.block _ HLT.out.1).trans ((HB1.out.block _ (blk_lt HZ0.out)).trans HZ0.out)
  have HB2 : Hid (Below w.heap.size w (w1.alloc (.cells PlanP.zero.cells 31))) := (HB0.out.trans (HB1.out.mono (by rw [HS0.out]; omega))).trans (hB12.mono (by have := HLT.out.1; omega))
  clear hB12 HRD HB1 HZ0 HB0 HN HR HS0
  generalize w1.alloc (.cells PlanP.zero.cells 31) = w2 at *
  generalize w1.heap.size = P at *
  have hstart : ∀ (ps : Array Value) (W : World), W = w2.alloc (.cells ps 126) → UnpAt w bs R P w2.heap.size ps 0 0 W := by
    rintro ps W rfl
    exact ⟨v, HRD2.out.below ((Below.refl _ _).alloc (Nat.le_refl _) _), blk_alloc HZ2.out _, blk_alloc HP2.out _, heap_alloc_new _ _, HB2.out.alloc HB2.out.size _⟩
  have HST := Lib.hid hstart
  clear hstart HRD2 HP2 HZ2 HB2
  go_wp2
  have HST1 := Lib.hid (HST.out #[.pointer (some ⟨P, 0, none⟩), .pointer (some ⟨P, 1, none⟩)] _ rfl)
  generalize w2.heap.size = g at *
  go_loopw [22] (fun iv wr => ∃ k : Nat, k ≤ 2 ∧ iv = .int .i64 k ∧ UnpAt w bs R P g #[.pointer (some ⟨P, 0, none⟩), .pointer (some ⟨P, 1, none⟩)] k k wr) (fun iv _ => 2 - (intOf iv).toNat)
  case atStart => exact ⟨0, by omega, rfl, HST1.out⟩
  case round =>
    obtain ⟨k, hk, rfl, hU⟩ := hrel
    by_cases hlt : k < 2
    · have k1 : (k : Int) < 2 := by omega
      have hc : wr.cell? ⟨g, k, none⟩ = some (.pointer (some ⟨P, k, none⟩)) := by
        rw [hU.cellG]
        rcases (by omega : k = 0 ∨ k = 1) with rfl | rfl <;> rfl
      have HNUM := Lib.hid (hU.num 4 (by rcases (by omega : k = 0 ∨ k = 1) with rfl | rfl <;> rfl) (by omega) HLEN.out HLT.out.2)
      have HI : Hid (wrap64 (U (numOf bs k)) = numInt bs k) := rfl
      have HPUT := Lib.hid (fun W (h : UnpAt w bs R P g #[.pointer (some ⟨P, 0, none⟩), .pointer (some ⟨P, 1, none⟩)] (k + 1) k W) => h.put (by omega) HLT.out.1)
      generalize numOf bs k = nv at HNUM HI
      generalize numInt bs k = ni at HPUT HI
      clear hU
      go_wp2_with (go_at_call 34; (with_reducible refine HNUM.out.mono ?_); rintro e w3 ⟨rfl, hu3⟩; obtain ⟨q3, f3⟩ := hu3.cellP (by omega); have HU3 := Lib.hid hu3; clear hu3)
      go_roundw
      case rel => exact ⟨k + 1, by omega, by go_num, by rw [HI.out]; exact HPUT.out _ HU3.out⟩
      case measure => simp [intOf]; omega
    · obtain rfl : k = 2 := by omega
      have HS3 : ∀ (ps : Array Value) (W : World), W = wr.alloc (.cells ps 126) → UnpAt w bs R P wr.heap.size ps 2 2 W := by
        rintro ps W rfl
        obtain ⟨v2, hr, hZ, hPb, hg, hb⟩ := hU
        exact ⟨v2, hr.below ((Below.refl _ _).alloc (Nat.le_refl _) _), blk_alloc hZ _, blk_alloc hPb _, heap_alloc_new _ _, hb.alloc hb.size _⟩
      have HST3 := Lib.hid HS3
      clear HS3 hU
      go_wp2
      have HST4 := Lib.hid (HST3.out #[.pointer (some ⟨P, 2, none⟩), .pointer (some ⟨P, 3, none⟩), .pointer (some ⟨P, 4, none⟩), .pointer (some ⟨P, 5, none⟩), .pointer (some ⟨P, 6, none⟩)] _ rfl)
      obtain ⟨wo, rfl⟩ : ∃ wo : World, wo = wr := ⟨_, rfl⟩
      obtain ⟨g2, hg2⟩ : ∃ g2, wo.heap.size = g2 := ⟨_, rfl⟩
      rw [hg2] at HST4 ⊢
      clear HST3
      go_loopw [39] (fun iv wr => ∃ k : Nat, k ≤ 5 ∧ iv = .int .i64 k ∧ UnpAt w bs R P g2 #[.pointer (some ⟨P, 2, none⟩), .pointer (some ⟨P, 3, none⟩), .pointer (some ⟨P, 4, none⟩), .pointer (some ⟨P, 5, none⟩), .pointer (some ⟨P, 6, none⟩)] (k + 2) (k + 2) wr) (fun iv _ => 5 - (intOf iv).toNat)
      case atStart => exact ⟨0, by omega, rfl, HST4.out⟩
      case round =>
        obtain ⟨k, hk, rfl, hU⟩ := hrel
        by_cases hlt : k < 5
        · have k1 : (k : Int) < 5 := by omega
          have hc : wr.cell? ⟨g2, k, none⟩ = some (.pointer (some ⟨P, k + 2, none⟩)) := by
            rw [hU.cellG]
            rcases (by omega : k = 0 ∨ k = 1 ∨ k = 2 ∨ k = 3 ∨ k = 4) with rfl | rfl | rfl | rfl | rfl <;> rfl
          have HNUM := Lib.hid (hU.num 2 (by rcases (by omega : k = 0 ∨ k = 1 ∨ k = 2 ∨ k = 3 ∨ k = 4) with rfl | rfl | rfl | rfl | rfl <;> rfl) (by omega) HLEN.out HLT.out.2)
          have HI : Hid (wrap64 (U (numOf bs (k + 2))) = numInt bs (k + 2)) := rfl
          have HPUT := Lib.hid (fun W (h : UnpAt w bs R P g2 #[.pointer (some ⟨P, 2, none⟩), .pointer (some ⟨P, 3, none⟩), .pointer (some ⟨P, 4, none⟩), .pointer (some ⟨P, 5, none⟩), .pointer (some ⟨P, 6, none⟩)] (k + 2 + 1) (k + 2) W) => h.put (by omega) HLT.out.1)
          generalize numOf bs (k + 2) = nv at HNUM HI
          generalize numInt bs (k + 2) = ni at HPUT HI
          clear hU
          go_wp2_with (go_at_call 34; (with_reducible refine HNUM.out.mono ?_); rintro e w3 ⟨rfl, hu3⟩; obtain ⟨q3, f3⟩ := hu3.cellP (by omega); have HU3 := Lib.hid hu3; clear hu3)
          go_roundw
          case rel => (repeat apply Exists.intro); exact ⟨⟨k + 1, by omega, by go_num, by rw [HI.out, show k + 1 + 2 = k + 2 + 1 by omega]; exact HPUT.out _ HU3.out⟩, rfl⟩
          case measure => simp [intOf]; omega
        · obtain rfl : k = 5 := by omega
          have HNUM := Lib.hid (hU.num 8 rfl (by omega) HLEN.out HLT.out.2)
          have HQ := Lib.hid (fit_any q)
          clear hU HST1 HST HST4
          go_upto_region 16 with (go_at_call 34; (with_reducible refine HNUM.out.mono ?_); rintro e w3 ⟨rfl, hu3⟩; obtain ⟨_, hr3, hZ3, hP3, _, hb3⟩ := hu3; have q3 : w3.cell? ⟨P, 7, none⟩ = some (.int .u64 0) := blk_cell hP3 7; have f3 := blk_frozen hP3 7; have HZ3 := Lib.hid hZ3; have HP3 := Lib.hid hP3; have HB3 := Lib.hid hb3; clear hr3 hZ3 hP3 hb3)
          have hP4 : (w3.setCell ⟨P, 7, none⟩ (.int .u64 (U (numOf bs 7)))).heap[P]? = some (.cells q.cells 31 (0, 0)) := by
            rw [← HQE.out, ← unp_last]; exact blk_set HP3.out 7 _
          have hZ4 : (w3.setCell ⟨P, 7, none⟩ (.int .u64 (U (numOf bs 7)))).heap[w.heap.size]? = some (.cells PlanP.zero.cells 31 (0, 0)) := (Below.heap_setCell _ _ _ _ (by show w.heap.size ≠ P; have := HLT.out.1; omega)).trans HZ3.out
          have hB4 : Below w.heap.size w (w3.setCell ⟨P, 7, none⟩ (.int .u64 (U (numOf bs 7)))) := HB3.out.setCell (p := ⟨P, 7, none⟩) (by show w.heap.size ≤ P; have := HLT.out.1; omega) _
          change (Code.region _ _ _).wp _ _ _ (w3.setCell ⟨P, 7, none⟩ (.int .u64 (U (numOf bs 7))))
          generalize w3.setCell ⟨P, 7, none⟩ (.int .u64 (U (numOf bs 7))) = w4 at hP4 hZ4 hB4 ⊢
          have HP4 := Lib.hid hP4
          have HZ4 := Lib.hid hZ4
          have HB4 := Lib.hid hB4
          clear hP4 hZ4 hB4 q3 f3 HP3 HZ3 HB3 HNUM
          go_upto_region 17 with (first
            | (refine wpList_load_row (o := ⟨some 53, _, _, _, _, _⟩) rfl 31 (.tmp 5) rfl P rfl 31 q.cells (0, 0) _ HP4.out Try.underlying31 rfl (kp_sz q) ?_)
            | (go_at_call 20; (with_reducible refine (HQ.out _).mono ?_); rintro e w5 ⟨rfl, hb5⟩; have HB5 := Lib.hid hb5; clear hb5)
            | (refine wpList_store_row (o := ⟨none, _, _, _, _, _⟩) rfl 60 (.tmp 10) (.tmp 55) rfl w5.heap.size q.fit.cells rfl rfl 60 LayP.zero.cells (heap_alloc_new _ _) (kl_sz _) rfl ?_ ?_; exact kl_one _))
          have hsz : w.heap.size < w5.heap.size ∧ P < w5.heap.size := ⟨Nat.lt_of_lt_of_le (blk_lt HZ4.out) HB5.out.size, Nat.lt_of_lt_of_le (blk_lt HP4.out) HB5.out.size⟩
          obtain ⟨hsz1, hsz2⟩ := hsz
          change (Code.region _ _ _).wp _ _ _ ((w5.alloc (.cells LayP.zero.cells 60)).setRow w5.heap.size q.fit.cells)
          have hZ6 : ((w5.alloc (.cells LayP.zero.cells 60)).setRow w5.heap.size q.fit.cells).heap[w.heap.size]? = some (.cells PlanP.zero.cells 31 (0, 0)) := by
            rw [setRow_other (by omega), Below.heap_alloc _ _ _ hsz1, HB5.out.block _ (blk_lt HZ4.out)]
            exact HZ4.out
          have hP6 : ((w5.alloc (.cells LayP.zero.cells 60)).setRow w5.heap.size q.fit.cells).heap[P]? = some (.cells q.cells 31 (0, 0)) := by
            rw [setRow_other (by omega), Below.heap_alloc _ _ _ hsz2, HB5.out.block _ (blk_lt HP4.out)]
            exact HP4.out
          have hB6 : Below w.heap.size w ((w5.alloc (.cells LayP.zero.cells 60)).setRow w5.heap.size q.fit.cells) := below_setRow ((HB4.out.trans (HB5.out.mono HB4.out.size)).alloc (by omega) _) (by omega) _
          generalize (w5.alloc (.cells LayP.zero.cells 60)).setRow w5.heap.size q.fit.cells = V at hZ6 hP6 hB6 ⊢
          have HZ6 := Lib.hid hZ6
          have HP6 := Lib.hid hP6
          have HB6 := Lib.hid hB6
          clear hZ6 hP6 hB6 hsz1 hsz2 HQ HB5 HP4 HZ4 HB4
          cases hf : q.fits with
          | true =>
            obtain ⟨_, e2⟩ := fit_yes hf
            have hu : Hid (q.unp = q) := by unfold Hid PlanP.unp; rw [hf]; rfl
            have HE2 := Lib.hid e2
            rw [e2]
            clear hf e2
            go_wp2_with (first
              | (refine wpList_load_row (o := ⟨some 61, _, _, _, _, _⟩) rfl 31 (.tmp 5) rfl P rfl 31 q.cells (0, 0) _ HP6.out Try.underlying31 rfl (kp_sz q) ?_)
              | (refine wpList_store_row (o := ⟨none, _, _, _, _, _⟩) rfl 31 (.tmp 2) (.tmp 61) rfl w.heap.size q.cells rfl rfl 31 PlanP.zero.cells HZ6.out (kp_sz _) rfl ?_ ?_; exact kp_one _))
            have hend : (V.setRow w.heap.size q.cells).heap[w.heap.size]? = some (.cells q.cells 31 (0, 0)) := setRow_heap _ _ _ _ _ _ HZ6.out
            refine bodyPost_ret (v := .tuple #[.agg q.cells, .int .i64 0]) (unp_res _ w.heap.size _ _ _ hend rfl rfl) rfl ⟨by rw [hu.out, HE2.out], ?_⟩
            exact below_setRow HB6.out (Nat.le_refl _) _
          | false =>
            obtain ⟨_, e2⟩ := fit_no hf
            have hu : Hid (q.unp = PlanP.zero) := by unfold Hid PlanP.unp; rw [hf]; rfl
            have HE2 := Lib.hid e2
            rw [e2]
            clear hf e2
            go_wp2_with (refine wpList_store_row (o := ⟨none, _, _, _, _, _⟩) rfl 31 (.tmp 2) (.tmp 59) rfl w.heap.size PlanP.zero.cells rfl rfl 31 PlanP.zero.cells HZ6.out (kp_sz _) rfl ?_ ?_; exact kp_one _)
            have hend : (V.setRow w.heap.size PlanP.zero.cells).heap[w.heap.size]? = some (.cells PlanP.zero.cells 31 (0, 0)) := setRow_heap _ _ _ _ _ _ HZ6.out
            refine bodyPost_ret (v := .tuple #[.agg PlanP.zero.cells, .int .i64 12]) (unp_res _ w.heap.size _ _ _ hend rfl rfl) rfl ⟨by rw [hu.out, HE2.out], ?_⟩
            exact below_setRow HB6.out (Nat.le_refl _) _
theorem unpack_any (u : Value) (bs : List (BitVec 8)) (hlen : bs.length = 26) (w : World) (hu : BytesAt w.heap.size w u bs) : Calls Try.prog 32 #[u] w fun e w' => e = .returned (.tuple #[.agg (PlanP.ofBytes bs).unp.cells, .int .i64 (PlanP.ofBytes bs).err]) ∧ Below w.heap.size w w' := unpack_q _ u bs rfl hlen w hu
end Go.Proofs.Ytfdipeaddofjaaa

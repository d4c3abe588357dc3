/-
  BucketElders: taken out one behind the other, the eldest come by their regions, then by their places.
  Conditions: none.
-/
import Derived.Test.YtnjpppeljpcndaaOpenBkt
import Derived.Test.YtnjpppeljpcndaaBkt9
import Derived.Test.YtnjpppeljpcndaaEldMath
import Derived.Test.YtnjpppeljpcndaaRightCall
namespace Go.Proofs.Ytnjpppeljpcndaa
open Go.ChangeShapes Go.WideShapes Go.ChangeAt Go.RowKit

/-- What stands at a round's head. -/
structure ElAt (d p : Int) (w3 : World) (N : Nat) (k : Nat) (ps : List Ent) (last : Ent) (a : Option Addr) (n c : Nat) (W : World) : Prop where
  bel : Below w3.heap.size w3 W
  size : w3.heap.size + 2 ≤ W.heap.size
  pb : W.heap[w3.heap.size]? = some (.cells (bktC d p (.slice a n c)) 31 (0, 0))
  lb : W.heap[w3.heap.size + 1]? = some (.cells last.cells 53 (0, 0))
  ents : EntsAt W.heap.size W (.slice a n c) ps
  apart : ps ≠ [] → ∀ g, (Value.slice a n c).ownBlock = some g → g ≠ w3.heap.size + 1
  once : Once ps
  len : ps.length + k = N
  old : 0 < k → ∀ z ∈ ps, ¬ ltA z last
theorem eld_pos {ps : List Ent} {v : Int} (h : ElderIs ps v) (hp : 1 ≤ ps.length) : ∃ n : Nat, n < ps.length ∧ ps[n]?.getD default = minE ps ∧ v = n := by
  rcases h with ⟨rfl, _⟩ | ⟨n, h1, h2, h3, _⟩
  · simp at hp
  · exact ⟨n, h1, h2, h3⟩
theorem eld_none {v : Int} (h : ElderIs [] v) : v = -1 := by
  rcases h with ⟨_, h⟩ | ⟨n, h1, _⟩
  · exact h
  · simp at h1
/-- The next round's head. -/
theorem ElAt.next {d p : Int} {w3 W W7 w8 : World} {N k : Nat} {ps : List Ent} {last x : Ent} {a a' : Option Addr} {n c n' c' : Nat} (h : ElAt d p w3 N k ps last a n c W) (hb : Below W.heap.size W W7) (hx : x = minE ps) (hp : 1 ≤ ps.length)
    (h8 : Below W7.heap.size (W7.setRow (w3.heap.size + 1) x.cells) w8) (he : EntsAt w8.heap.size w8 (.slice a' n' c') (ps.filter fun y => !decide (y.hash = x.hash))) (hf : FreshS W7.heap.size (.slice a' n' c')) :
    ElAt d p w3 N (k + 1) (ps.filter fun y => !decide (y.hash = x.hash)) x a' n' c' (w8.setRow w3.heap.size (bktC d p (.slice a' n' c'))) := by
  have hs := h.size
  have hs7 := hb.size
  have hs8 : W7.heap.size ≤ w8.heap.size := by have := h8.size; rwa [setRow_size] at this
  have hmem : x ∈ ps := by
    obtain ⟨n, hn, he⟩ := minUp_mem ps ps.length hp (Nat.le_refl _)
    have e : ps[n]?.getD default = x := he.trans hx.symm
    rw [List.getElem?_eq_getElem hn, Option.getD_some] at e
    rw [← e]; exact List.getElem_mem hn
  have k7 : ∀ b, b < W7.heap.size → b ≠ w3.heap.size + 1 → w8.heap[b]? = W7.heap[b]? := fun b h1 h2 => (h8.block b h1).trans (setRow_other _ _ _ _ h2)
  have p7 : w8.heap[w3.heap.size]? = some (.cells (bktC d p (.slice a n c)) 31 (0, 0)) := (k7 _ (by omega) (by omega)).trans ((hb.block _ (by omega)).trans h.pb)
  have l7 : w8.heap[w3.heap.size + 1]? = some (.cells x.cells 53 (0, 0)) := (h8.block _ (by omega)).trans (setRow_heap _ _ _ _ _ _ ((hb.block _ (by omega)).trans h.lb))
  refine ⟨?_, by rw [setRow_size]; omega, setRow_heap _ _ _ _ _ _ p7, (setRow_other _ _ _ _ (by omega)).trans l7, ?_, ?_, once_drop h.once x, ?_, ?_⟩
  · refine below_setRow ?_ (Nat.le_refl _) _
    exact ((h.bel.trans (hb.mono (by omega))).trans ((below_setRow (Below.refl w3.heap.size W7) (by omega) _).trans (h8.mono (by omega))))
  · exact (he.setRow p7 (bkt_no _ _ _ _ _) _).mono (by rw [setRow_size]; exact Nat.le_refl _)
  · intro _ g hg e
    have := hf g hg
    omega
  · have := once_len h.once hmem
    have := h.len
    omega
  · intro _ z hz
    rw [hx]
    exact minE_least hp (List.mem_filter.1 hz).1

set_option maxRecDepth 100000 in
set_option maxHeartbeats 16000000 in
theorem bucketElders_walk (d p : Int) (v : Value) (es : List Ent) (w : World) (hE : EntsAt w.heap.size w v es) (hm : es.length ≤ maxLen) : Calls Try.prog 7 #[.agg #[.int .i64 d, .int .i64 p, v]] w (Good w) := by
  unfold maxLen at hm
  obtain ⟨a, c, rfl, hc0⟩ := hE.slice
  obtain ⟨w1, hw1⟩ : ∃ w1, w.alloc (.cells #[.int .i64 d, .int .i64 p, .slice a es.length c] 24) = w1 := ⟨_, rfl⟩
  have hb1 : Below w.heap.size w w1 := by rw [← hw1]; exact (Below.refl _ w).alloc (Nat.le_refl _) _
  have hk1 : w1.heap[w.heap.size]? = some (.cells #[.int .i64 d, .int .i64 p, .slice a es.length c] 24 (0, 0)) := by rw [← hw1]; exact heap_alloc_new _ _
  have hE1 : EntsAt w1.heap.size w1 (.slice a es.length c) es := hE.next hb1
  have HW1 := Lib.hid hw1
  clear hw1
  by_cases hbig : 255 < es.length
  · have h1 : (255 : Int) < es.length := by omega
    go_enter Try.func7, Try.ntmps7
    go_wp2
    go_ret
    refine ⟨rfl, ?_⟩
    rw [HW1.out]; exact hb1
  have h1 : (es.length : Int) ≤ 255 := by omega
  have hl : es.length ≤ 255 := by omega
  have c0 : w1.cell? ⟨w.heap.size, 0, none⟩ = some (.int .i64 d) := blk_cell hk1 0
  have c1 : w1.cell? ⟨w.heap.size, 1, none⟩ = some (.int .i64 p) := blk_cell hk1 1
  have c2 : w1.cell? ⟨w.heap.size, 2, none⟩ = some (.slice a es.length c) := blk_cell hk1 2
  have HAW := Lib.hid (fun W => awake14 W)
  have HB1 := Lib.hid hb1
  have hR1 : RightCall d p 255 (.slice a es.length c) es w1 := refRight_any d p 255 a es.length c es w1 hE1
  by_cases hR : Right14 d p 255 es
  · have HRC := Lib.hid (right_is hR1 hR)
    have HON := Lib.hid (once_of hR)
    have HC : Hid (∀ W, Below w1.heap.size w1 W → W.cell? ⟨w.heap.size, 0, none⟩ = some (.int .i64 d) ∧ W.cell? ⟨w.heap.size, 1, none⟩ = some (.int .i64 p) ∧ W.cell? ⟨w.heap.size, 2, none⟩ = some (.slice a es.length c)) := fun W h =>
      ⟨(h.cell (p := ⟨w.heap.size, 0, none⟩) (blk_lt hk1)).trans c0, (h.cell (p := ⟨w.heap.size, 1, none⟩) (blk_lt hk1)).trans c1, (h.cell (p := ⟨w.heap.size, 2, none⟩) (blk_lt hk1)).trans c2⟩
    have HOF : Hid (∀ W, Below w1.heap.size w1 W → Calls Try.prog 10 #[.agg #[.int .i64 d, .int .i64 p, .slice a es.length c]] W (BktLit d p es W)) := fun W h => of_any d p a _ c es W ((hE1.below h).mono h.size) (by omega)
    have HBK1 := Lib.hid hk1
    have hlt1 := blk_lt hk1
    clear hk1 hE1 hb1 hR1 hR hE hbig
    go_enter Try.func7, Try.ntmps7
    go_upto_region 5 with (first
      | (go_at_call 13; rw [HW1.out]; (with_reducible refine HRC.out.mono ?_); rintro e w2 ⟨rfl, hb2⟩; have HB2 := Lib.hid hb2; obtain ⟨d0, d1, d2⟩ := HC.out _ hb2; clear hb2)
      | (go_at_call 10; (with_reducible refine (HOF.out _ HB2.out).mono ?_); rintro e w3 ⟨a3, n3, k3, rfl, h3, hb3⟩; have HE3 := Lib.hid h3; have HB3 := Lib.hid (HB2.out.trans (hb3.mono HB2.out.size)); clear h3 hb3))
    have hEL : ElAt d p w3 es.length 0 es ⟨0#64, 0, 0, 0⟩ a3 n3 k3 ((w3.alloc (.cells #[.int .i64 d, .int .i64 p, .slice a3 n3 k3] 31)).alloc (.cells #[.int .u64 0, .int .i64 0, .int .i64 0, .int .i64 0] 53)) := by
      have b := ((Below.refl _ w3).alloc (Nat.le_refl _) (.cells #[.int .i64 d, .int .i64 p, .slice a3 n3 k3] 31)).alloc (by simp) (.cells #[.int .u64 0, .int .i64 0, .int .i64 0, .int .i64 0] 53)
      refine ⟨b, by simp, blk_alloc (heap_alloc_new _ _) _, ?_, HE3.out.next b, ?_, HON.out, rfl, fun h => absurd h (by omega)⟩
      · have := heap_alloc_new (w3.alloc (.cells #[.int .i64 d, .int .i64 p, .slice a3 n3 k3] 31)) (.cells #[.int .u64 0, .int .i64 0, .int .i64 0, .int .i64 0] 53)
        rw [World.size_alloc] at this
        exact this
      · intro hne g hg
        obtain ⟨_, _, e, _, h⟩ := HE3.out
        rcases h with h | ⟨g', off, h, hlt, _⟩
        · exact absurd h hne
        · cases e
          subst h
          have : g' = g := by simpa [Value.ownBlock] using hg
          omega
    have HEL := Lib.hid hEL
    have HWB := Lib.hid (show w.heap.size < w3.heap.size from Nat.lt_of_lt_of_le hlt1 HB3.out.size)
    clear hEL d0 d1 d2 c0 c1 c2
    go_wp2
    go_loopw [5] (fun i wr => ∃ (k : Nat) (ps : List Ent) (last : Ent) (a' : Option Addr) (n' c' : Nat), k ≤ es.length ∧ i = .int .i64 k ∧ ElAt d p w3 es.length k ps last a' n' c' wr) (fun i _ => es.length - (intOf i).toNat)
    case atStart => exact ⟨0, es, _, _, _, _, Nat.zero_le _, rfl, HEL.out⟩
    case round =>
      obtain ⟨k, ps, last, a', n', c', hk, rfl, hL⟩ := hrel
      clear HEL
      have hlb := HWB.out
      have HCW := Lib.hid (fun W (h : Below wr.heap.size wr W) => HC.out W (HB3.out.trans ((hL.bel.trans (h.mono (by have := hL.size; omega))).mono HB3.out.size)))
      obtain ⟨d0, d1, d2⟩ := HCW.out wr (Below.refl _ _)
      have p0 : wr.cell? ⟨w3.heap.size, 0, none⟩ = some (.int .i64 d) := blk_cell hL.pb 0
      have p1 : wr.cell? ⟨w3.heap.size, 1, none⟩ = some (.int .i64 p) := blk_cell hL.pb 1
      have p2 : wr.cell? ⟨w3.heap.size, 2, none⟩ = some (.slice a' n' c') := blk_cell hL.pb 2
      obtain ⟨_, _, e0, hcc⟩ := hL.ents.slice
      cases e0
      by_cases hlt : k < es.length
      · have hp : 1 ≤ ps.length := by have := hL.len; omega
        have hpl : ps.length ≤ 255 := by have := hL.len; omega
        have k1 : (k : Int) < es.length := by omega
        have HELD := Lib.hid (elder_any d p a' ps.length c' ps wr hL.ents (by omega))
        have HLL := Lib.hid hL
        have HPP := Lib.hid hp
        have HPL := Lib.hid hpl
        have HPC : Hid (∀ W, Below wr.heap.size wr W → W.cell? ⟨w3.heap.size, 0, none⟩ = some (.int .i64 d) ∧ W.cell? ⟨w3.heap.size, 1, none⟩ = some (.int .i64 p) ∧ W.cell? ⟨w3.heap.size, 2, none⟩ = some (.slice a' ps.length c')) := fun W h =>
          ⟨(h.cell (p := ⟨w3.heap.size, 0, none⟩) (blk_lt hL.pb)).trans p0, (h.cell (p := ⟨w3.heap.size, 1, none⟩) (blk_lt hL.pb)).trans p1, (h.cell (p := ⟨w3.heap.size, 2, none⟩) (blk_lt hL.pb)).trans p2⟩
        have hpl1 : (ps.length : Int) ≤ 255 := by omega
        have hcc1 : (ps.length : Int) ≤ c' := by omega
        clear hL hp hpl hcc
        go_upto_region 11 with (first
          | (go_at_call 29; (with_reducible refine HELD.out.mono ?_); rintro e w6 ⟨v6, hv6, rfl, hb6⟩; obtain ⟨n6, hn6, hx6, rfl⟩ := eld_pos hv6 HPP.out; have HB6 := Lib.hid hb6; obtain ⟨f0, f1, f2⟩ := HPC.out _ hb6; have HN6 := Lib.hid hn6; have HX6 := Lib.hid hx6; have n61 : (n6 : Int) < ps.length := (by omega); clear hv6 hb6 hx6))
        obtain ⟨g, off, rfl, hg, e4⟩ := HLL.out.ents.get HN6.out
        have q0 := (HB6.out.cell (p := ⟨g, off + n6 * 4, none⟩) hg).trans e4.1
        have q1 := (HB6.out.cell (p := ⟨g, off + n6 * 4 + 1, none⟩) hg).trans e4.2.1
        have q2 := (HB6.out.cell (p := ⟨g, off + n6 * 4 + 2, none⟩) hg).trans e4.2.2.1
        have q3 := (HB6.out.cell (p := ⟨g, off + n6 * 4 + 3, none⟩) hg).trans e4.2.2.2
        have hmem : (ps[n6]?.getD default) ∈ ps := by
          rw [List.getElem?_eq_getElem HN6.out, Option.getD_some]
          exact List.getElem_mem HN6.out
        have hold : 0 < k → ¬ ltA (ps[n6]?.getD default) last := fun h => HLL.out.old h _ hmem
        have HX := HX6
        clear HX6 hmem
        generalize ps[n6]?.getD default = x at q0 q1 q2 q3 HX hold e4
        have hk7 : (w6.alloc (.cells #[.int .u64 (U x.hash), .int .i64 x.reg, .int .i64 x.at_, .int .i64 x.size] 53)).heap[w6.heap.size]? = some (.cells x.cells 53 (0, 0)) := heap_alloc_new _ _
        have hb7 : Below wr.heap.size wr (w6.alloc (.cells #[.int .u64 (U x.hash), .int .i64 x.reg, .int .i64 x.at_, .int .i64 x.size] 53)) := HB6.out.alloc HB6.out.size _
        obtain ⟨w7, hw7⟩ : ∃ w7, w6.alloc (.cells #[.int .u64 (U x.hash), .int .i64 x.reg, .int .i64 x.at_, .int .i64 x.size] 53) = w7 := ⟨_, rfl⟩
        have hX7 : w6.heap.size < w7.heap.size := by rw [← hw7]; simp
        rw [hw7] at hk7 hb7
        have HW7 := Lib.hid hw7
        have hL7 := (hb7.block _ (blk_lt HLL.out.lb)).trans HLL.out.lb
        have hP7 := (hb7.block _ (blk_lt HLL.out.pb)).trans HLL.out.pb
        have hE7 : EntsAt w7.heap.size w7 (.slice (some ⟨g, off, none⟩) ps.length c') ps := HLL.out.ents.next hb7
        have hne : ps ≠ [] := fun h => by have := HPP.out; rw [h] at this; simp at this
        have hgne : g ≠ w3.heap.size + 1 := HLL.out.apart hne g rfl
        have hsz := HLL.out.size
        have hs6 := HB6.out.size
        have t0 : w7.cell? ⟨w6.heap.size, 0, none⟩ = some (.int .u64 (U x.hash)) := blk_cell hk7 0
        have t1 : w7.cell? ⟨w6.heap.size, 1, none⟩ = some (.int .i64 x.reg) := blk_cell hk7 1
        have t2 : w7.cell? ⟨w6.heap.size, 2, none⟩ = some (.int .i64 x.at_) := blk_cell hk7 2
        have t3 : w7.cell? ⟨w6.heap.size, 3, none⟩ = some (.int .i64 x.size) := blk_cell hk7 3
        have l1 : w7.cell? ⟨w3.heap.size + 1, 1, none⟩ = some (.int .i64 last.reg) := blk_cell hL7 1
        have l2 : w7.cell? ⟨w3.heap.size + 1, 2, none⟩ = some (.int .i64 last.at_) := blk_cell hL7 2
        -- behind the store
        obtain ⟨w8, hw8⟩ : ∃ w8, w7.setRow (w3.heap.size + 1) x.cells = w8 := ⟨_, rfl⟩
        have hP8 : w8.heap[w3.heap.size]? = some (.cells (bktC d p (.slice (some ⟨g, off, none⟩) ps.length c')) 31 (0, 0)) := by rw [← hw8]; exact (setRow_other _ _ _ _ (by omega)).trans hP7
        have hT8 : w8.heap[w6.heap.size]? = some (.cells x.cells 53 (0, 0)) := by rw [← hw8]; exact (setRow_other _ _ _ _ (by omega)).trans hk7
        have hE8 : EntsAt w8.heap.size w8 (.slice (some ⟨g, off, none⟩) ps.length c') ps := by
          rw [← hw8]
          refine hE7.keep (keepsAt_setRow _ _ _) (fun k e _ => ?_) (by rw [setRow_size]; exact Nat.le_refl _)
          have : g = k := by simpa [Value.ownBlock] using e
          omega
        have HDR := Lib.hid (drop_any d p x.hash (some ⟨g, off, none⟩) ps.length c' ps w8 hE8 (by have := HPL.out; omega))
        have hs78 : w7.heap.size = w8.heap.size := by rw [← hw8, setRow_size]
        have HNX := Lib.hid (fun a2 n2 c2 w9 (h8 : Below w8.heap.size w8 w9) he hf => HLL.out.next hb7 HX.out HPP.out (a' := a2) (n' := n2) (c' := c2) (w8 := w9) (by rw [hw8, hs78]; exact h8) he (by rw [hs78]; exact hf))
        have HW8 := Lib.hid hw8
        have HL7 := Lib.hid hL7
        have HP8 := Lib.hid hP8
        have p80 : w8.cell? ⟨w3.heap.size, 0, none⟩ = some (.int .i64 d) := blk_cell hP8 0
        have p81 : w8.cell? ⟨w3.heap.size, 1, none⟩ = some (.int .i64 p) := blk_cell hP8 1
        have p82 : w8.cell? ⟨w3.heap.size, 2, none⟩ = some (.slice (some ⟨g, off, none⟩) ps.length c') := blk_cell hP8 2
        have t80 : w8.cell? ⟨w6.heap.size, 0, none⟩ = some (.int .u64 (U x.hash)) := blk_cell hT8 0
        have hcase : (decide (0 < k) = false) ∨ (decide (0 < k) = true ∧ decide (x.reg < last.reg) = false ∧ (x.reg == last.reg) = false) ∨ (decide (0 < k) = true ∧ decide (x.reg < last.reg) = false ∧ (x.reg == last.reg) = true ∧ decide (x.at_ < last.at_) = false) := by
          by_cases h0 : 0 < k
          · have ho := hold h0
            unfold ltA at ho
            have e0 : decide (0 < k) = true := by simp; omega
            have e1 : decide (x.reg < last.reg) = false := by simp; omega
            by_cases h1 : x.reg = last.reg
            · exact .inr (.inr ⟨e0, e1, beq_iff_eq.2 h1, by simp; omega⟩)
            · exact .inr (.inl ⟨e0, e1, beq_eq_false_iff_ne.2 h1⟩)
          · exact .inl (by simp; omega)
        have hkk : ((0 : Int) < k) = (0 < k) := by simp
        clear hw7 hw8 hL7 hP7 hP8 hT8 hE8 hE7 hk7 hb7 hold e4 hne hgne HELD d0 d1 d2 p0 p1 p2
        generalize ps.length = m at *
        rcases hcase with v0 | ⟨v0, v1, v2⟩ | ⟨v0, v1, v2, v3⟩
        · go_upto_region 12 with (fail)
          rw [HW7.out]
          go_upto_region 14 with (fail)
          refine wp_region_list ?_
          refine wpList_plain rfl fun KK hKK => ?_
          go_simp
          refine hKK _ _ ?_
          refine wpList_store_row (o := ⟨none, _, _, _, _, _⟩) rfl 53 (.tmp 4) (.tmp 79) rfl (w3.heap.size + 1) x.cells rfl rfl 53 last.cells HL7.out (ent_sz x) rfl (ent_oneB x) ?_
          rw [HW8.out]
          go_upto_region 15 with (fail)
          refine wp_region_list ?_
          refine wpList_plain rfl fun KK hKK => ?_
          go_simp
          refine hKK _ _ ?_
          clear hKK KK
          refine wpList_plain rfl fun KK hKK => ?_
          go_simp
          refine hKK _ _ ?_
          clear hKK KK
          refine wpList_plain rfl fun KK hKK => ?_
          go_simp
          refine hKK _ _ ?_
          clear hKK KK
          refine wpList_plain rfl fun KK hKK => ?_
          go_simp
          refine HDR.out.mono ?_
          rintro e w9 ⟨a9, n9, c9, rfl, he9, hf9, hb9⟩
          dsimp only
          refine hKK _ _ ?_
          clear hKK KK
          have HNN := Lib.hid (HNX.out _ _ _ _ hb9 he9 hf9)
          have HP9 := Lib.hid ((hb9.block _ (blk_lt HP8.out)).trans HP8.out)
          clear he9 hf9 hb9
          refine wpList_plain rfl fun KK hKK => ?_
          go_simp
          refine hKK _ _ ?_
          clear hKK KK
          refine wpList_plain rfl fun KK hKK => ?_
          go_simp
          refine hKK _ _ ?_
          clear hKK KK
          refine wpList_plain rfl fun KK hKK => ?_
          go_simp
          refine hKK _ _ ?_
          clear hKK KK
          refine wpList_store_row (o := ⟨none, _, _, _, _, _⟩) rfl 31 (.tmp 3) (.tmp 85) rfl w3.heap.size (bktC d p (.slice a9 n9 c9)) rfl rfl 31 (bktC d p (.slice (some ⟨g, off, none⟩) m c')) HP9.out (bkt_sz _ _ _) rfl (bkt_one _ _ _ _ _) ?_
          obtain ⟨w10, hw10⟩ : ∃ w10, w9.setRow w3.heap.size (bktC d p (.slice a9 n9 c9)) = w10 := ⟨_, rfl⟩
          rw [hw10] at HNN ⊢
          clear hw10 HNX HDR
          go_wp2
          go_roundw
          case rel => exact ⟨k + 1, _, x, a9, n9, c9, by omega, by go_num, HNN.out⟩
          case measure => simp [intOf]; omega
        · go_upto_region 12 with (fail)
          rw [HW7.out]
          go_upto_region 14 with (fail)
          refine wp_region_list ?_
          refine wpList_plain rfl fun KK hKK => ?_
          go_simp
          refine hKK _ _ ?_
          refine wpList_store_row (o := ⟨none, _, _, _, _, _⟩) rfl 53 (.tmp 4) (.tmp 79) rfl (w3.heap.size + 1) x.cells rfl rfl 53 last.cells HL7.out (ent_sz x) rfl (ent_oneB x) ?_
          rw [HW8.out]
          go_upto_region 15 with (fail)
          refine wp_region_list ?_
          refine wpList_plain rfl fun KK hKK => ?_
          go_simp
          refine hKK _ _ ?_
          clear hKK KK
          refine wpList_plain rfl fun KK hKK => ?_
          go_simp
          refine hKK _ _ ?_
          clear hKK KK
          refine wpList_plain rfl fun KK hKK => ?_
          go_simp
          refine hKK _ _ ?_
          clear hKK KK
          refine wpList_plain rfl fun KK hKK => ?_
          go_simp
          refine HDR.out.mono ?_
          rintro e w9 ⟨a9, n9, c9, rfl, he9, hf9, hb9⟩
          dsimp only
          refine hKK _ _ ?_
          clear hKK KK
          have HNN := Lib.hid (HNX.out _ _ _ _ hb9 he9 hf9)
          have HP9 := Lib.hid ((hb9.block _ (blk_lt HP8.out)).trans HP8.out)
          clear he9 hf9 hb9
          refine wpList_plain rfl fun KK hKK => ?_
          go_simp
          refine hKK _ _ ?_
          clear hKK KK
          refine wpList_plain rfl fun KK hKK => ?_
          go_simp
          refine hKK _ _ ?_
          clear hKK KK
          refine wpList_plain rfl fun KK hKK => ?_
          go_simp
          refine hKK _ _ ?_
          clear hKK KK
          refine wpList_store_row (o := ⟨none, _, _, _, _, _⟩) rfl 31 (.tmp 3) (.tmp 85) rfl w3.heap.size (bktC d p (.slice a9 n9 c9)) rfl rfl 31 (bktC d p (.slice (some ⟨g, off, none⟩) m c')) HP9.out (bkt_sz _ _ _) rfl (bkt_one _ _ _ _ _) ?_
          obtain ⟨w10, hw10⟩ : ∃ w10, w9.setRow w3.heap.size (bktC d p (.slice a9 n9 c9)) = w10 := ⟨_, rfl⟩
          rw [hw10] at HNN ⊢
          clear hw10 HNX HDR
          go_wp2
          go_roundw
          case rel => exact ⟨k + 1, _, x, a9, n9, c9, by omega, by go_num, HNN.out⟩
          case measure => simp [intOf]; omega
        · go_upto_region 12 with (fail)
          rw [HW7.out]
          go_upto_region 14 with (fail)
          refine wp_region_list ?_
          refine wpList_plain rfl fun KK hKK => ?_
          go_simp
          refine hKK _ _ ?_
          refine wpList_store_row (o := ⟨none, _, _, _, _, _⟩) rfl 53 (.tmp 4) (.tmp 79) rfl (w3.heap.size + 1) x.cells rfl rfl 53 last.cells HL7.out (ent_sz x) rfl (ent_oneB x) ?_
          rw [HW8.out]
          go_upto_region 15 with (fail)
          refine wp_region_list ?_
          refine wpList_plain rfl fun KK hKK => ?_
          go_simp
          refine hKK _ _ ?_
          clear hKK KK
          refine wpList_plain rfl fun KK hKK => ?_
          go_simp
          refine hKK _ _ ?_
          clear hKK KK
          refine wpList_plain rfl fun KK hKK => ?_
          go_simp
          refine hKK _ _ ?_
          clear hKK KK
          refine wpList_plain rfl fun KK hKK => ?_
          go_simp
          refine HDR.out.mono ?_
          rintro e w9 ⟨a9, n9, c9, rfl, he9, hf9, hb9⟩
          dsimp only
          refine hKK _ _ ?_
          clear hKK KK
          have HNN := Lib.hid (HNX.out _ _ _ _ hb9 he9 hf9)
          have HP9 := Lib.hid ((hb9.block _ (blk_lt HP8.out)).trans HP8.out)
          clear he9 hf9 hb9
          refine wpList_plain rfl fun KK hKK => ?_
          go_simp
          refine hKK _ _ ?_
          clear hKK KK
          refine wpList_plain rfl fun KK hKK => ?_
          go_simp
          refine hKK _ _ ?_
          clear hKK KK
          refine wpList_plain rfl fun KK hKK => ?_
          go_simp
          refine hKK _ _ ?_
          clear hKK KK
          refine wpList_store_row (o := ⟨none, _, _, _, _, _⟩) rfl 31 (.tmp 3) (.tmp 85) rfl w3.heap.size (bktC d p (.slice a9 n9 c9)) rfl rfl 31 (bktC d p (.slice (some ⟨g, off, none⟩) m c')) HP9.out (bkt_sz _ _ _) rfl (bkt_one _ _ _ _ _) ?_
          obtain ⟨w10, hw10⟩ : ∃ w10, w9.setRow w3.heap.size (bktC d p (.slice a9 n9 c9)) = w10 := ⟨_, rfl⟩
          rw [hw10] at HNN ⊢
          clear hw10 HNX HDR
          go_wp2
          go_roundw
          case rel => exact ⟨k + 1, _, x, a9, n9, c9, by omega, by go_num, HNN.out⟩
          case measure => simp [intOf]; omega
      · obtain rfl : k = es.length := by omega
        have hps : ps = [] := List.eq_nil_of_length_eq_zero (by have := hL.len; omega)
        subst hps
        have HELD := Lib.hid (elder_any d p a' 0 c' [] wr hL.ents (by simp))
        have HBL := Lib.hid (HB1.out.trans ((HB3.out.trans (hL.bel.mono HB3.out.size)).mono HB1.out.size))
        clear hL
        go_wp2_with (first
          | (go_at_call 29; (with_reducible refine HELD.out.mono ?_); rintro e w6 ⟨v6, hv6, rfl, hb6⟩; obtain rfl := eld_none hv6; have HB6 := Lib.hid hb6; clear hv6 hb6)
          | (go_at_call 14; (with_reducible refine (HAW.out _).mono ?_); rintro e w7 ⟨rfl, hb7⟩; have HB7 := Lib.hid hb7; clear hb7))
        go_ret
        exact ⟨rfl, HBL.out.trans ((HB6.out.trans (HB7.out.mono HB6.out.size)).mono HBL.out.size)⟩
  · have HRC := Lib.hid (right_not hR1 hR)
    clear hk1 hE1 hb1 hR1 hR hE hbig
    go_enter Try.func7, Try.ntmps7
    go_wp2_with (first
      | (go_at_call 13; rw [HW1.out]; (with_reducible refine HRC.out.mono ?_); rintro e w2 ⟨rfl, hb2⟩; have HB2 := Lib.hid hb2; have d2 : w2.cell? ⟨w.heap.size, 2, none⟩ = some (.slice a es.length c) := (hb2.cell (World.block_lt_of_cell? _ _ c2)).trans c2; clear hb2)
      | (go_at_call 14; (with_reducible refine (HAW.out _).mono ?_); rintro e w6 ⟨rfl, hb6⟩; have HB6 := Lib.hid hb6; clear hb6))
    go_ret
    exact ⟨rfl, HB1.out.trans ((HB2.out.trans (HB6.out.mono HB2.out.size)).mono HB1.out.size)⟩
set_option maxRecDepth 100000 in
theorem bucketElders_lifted (os : Os) (started : os.Started) (H : Type) (enc : TypeId × Value → H) :
    ReturnsInHanded {} Try.checked os 7 .any (Rows.bucketEldersSpec.pre6 enc Try.prog Try.f7 Rows.bucketEldersRow.domain false) (Rows.bucketEldersSpec.post enc Try.prog Try.f7 false true false false) :=
  law_lifted 7 Try.f7 Rows.bucketEldersSpec Try.func7 (by kernel_rfl) rfl rfl
    (fun ds h => by match ds, h with | [_], _ => rfl) (by kernel_rfl) os started
    (ChangeSpec.witness6 (enc := enc) (C := Try.checked) false ⟨#[], #[.agg #[.int .i64 0, .int .i64 0, .slice none 0 0]], []⟩ 8 (by kernel_rfl) (by kernel_rfl) (by kernel_rfl) (by kernel_rfl))
    fun W args ds ps hval hA => by
      rw [Try.params7] at hA hval
      obtain ⟨v0, vs0, d0, ds0, p0, q0, hargs, rfl, rfl, h0, r0⟩ := trodAll_cons hA
      obtain ⟨rfl, rfl, rfl⟩ := trodAll_nil r0
      obtain rfl : args = #[v0] := by cases args; simp_all
      obtain ⟨b0, o0⟩ := hval 0 _ v0 rfl rfl
      obtain ⟨q0, rfl, hq0⟩ := open_bkt o0 h0
      exact bucketElders_walk q0.1 q0.2.1 q0.2.2.1 q0.2.2.2 W hq0.1 hq0.2.1

/-- The statement. -/
theorem bucketElders_holds : Rows.BucketEldersSaid :=
  OpenClaim.holds_of_wide 7 Try.f7 rfl rfl rfl rfl rfl rfl rfl ⟨rfl, rfl, rfl, rfl, rfl⟩ rfl rfl rfl rfl rfl (by kernel_rfl) Try.func7 (by kernel_rfl)
    (of_decide_eq_true (by kernel_rfl)) (by unfold Func.isWrapper; first | (rw [if_pos (by decide +kernel)]; kernel_rfl) | (rw [if_neg (by decide +kernel)]; exact ⟨rfl, rfl⟩))
    (fun os started H enc _ => bucketElders_lifted os started H enc)
#print axioms bucketElders_holds
end Go.Proofs.Ytnjpppeljpcndaa

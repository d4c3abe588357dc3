/-
  BucketHalves: Split's entries together are the bucket's, in their order; each half is a bucket, but at the greatest depth.
  Conditions: none.
-/
import Derived.Test.YtnjpppeljpcndaaOpenBkt
import Derived.Test.YtnjpppeljpcndaaBkt9
import Derived.Test.YtnjpppeljpcndaaRightCall
import Derived.Test.YtnjpppeljpcndaaRight2
import Derived.Test.YtnjpppeljpcndaaHalfMath
import Derived.Test.YtnjpppeljpcndaaAppEnts
import Derived.Deep.RegionHeldLaw
namespace Go.Proofs.Ytnjpppeljpcndaa
open Go.ChangeShapes Go.WideShapes Go.ChangeAt Go.RowKit

theorem own_emptyE (w : World) (base n : Nat) (hn : n = w.heap.size) (hb : base ≤ n) : (w.alloc (.cells #[] 53)).ownsRow base 53 4 (.slice (some ⟨n, 0, none⟩) 0 0) ([] : List Ent).length (ents []) := by
  subst hn
  exact World.ownsRow_made w #[] 0 hb (by unfold maxLen; omega) rfl
/-- Two buckets that are answered, their cells written out. -/
def SplitLit (D PN : Nat) (l : List Ent) (w : World) (e : Ending) (w' : World) : Prop := ∃ a n c b m k, e = .returned (.agg #[.int .i64 ((D : Int) + 1), .int .i64 ((PN : Int) * 2), .slice a n c, .int .i64 ((D : Int) + 1), .int .i64 ((PN : Int) * 2 + 1), .slice b m k]) ∧ EntsAt w'.heap.size w' (.slice a n c) (l.filter fun x => preI x.hash ((D : Int) + 1) == (PN : Int) * 2) ∧ EntsAt w'.heap.size w' (.slice b m k) (l.filter fun x => !(preI x.hash ((D : Int) + 1) == (PN : Int) * 2)) ∧ (NilS (.slice a n c) ∧ NilS (.slice b m k)) ∧ Below w.heap.size w w'
section
attribute [-go_sem] run_eql_struct run_eqGuard_agg
attribute [local go_sem] ent_neq ent_guard
set_option maxRecDepth 100000 in
set_option maxHeartbeats 16000000 in
theorem bucketHalves_walk (d p : Int) (v : Value) (es : List Ent) (w : World) (hE : EntsAt w.heap.size w v es) (hm : es.length ≤ maxLen) : Calls Try.prog 6 #[.agg #[.int .i64 d, .int .i64 p, v]] w (Good w) := by
  unfold maxLen at hm
  obtain ⟨i0, hi, hz0, hz1, hz2⟩ := info_parts4 infoEnt
  obtain ⟨a, c, rfl, hc0⟩ := hE.slice
  obtain ⟨w1, hw1⟩ : ∃ w1, w.alloc (.cells #[.int .i64 d, .int .i64 p, .slice a es.length c] 24) = w1 := ⟨_, rfl⟩
  have hb1 : Below w.heap.size w w1 := by rw [← hw1]; exact (Below.refl _ w).alloc (Nat.le_refl _) _
  have hk1 : w1.heap[w.heap.size]? = some (.cells #[.int .i64 d, .int .i64 p, .slice a es.length c] 24 (0, 0)) := by rw [← hw1]; exact heap_alloc_new _ _
  have hE1 : EntsAt w1.heap.size w1 (.slice a es.length c) es := hE.next hb1
  have HW1 := Lib.hid hw1
  clear hw1
  by_cases hbig : 255 < es.length
  · have h1 : (255 : Int) < es.length := by omega
    go_enter Try.func6, Try.ntmps6
    go_wp2
    go_ret
    refine ⟨rfl, ?_⟩
    rw [HW1.out]; exact hb1
  have h1 : (es.length : Int) ≤ 255 := by omega
  have hl : es.length ≤ 255 := by omega
  have c0 : w1.cell? ⟨w.heap.size, 0, none⟩ = some (.int .i64 d) := blk_cell hk1 0
  have c1 : w1.cell? ⟨w.heap.size, 1, none⟩ = some (.int .i64 p) := blk_cell hk1 1
  have c2 : w1.cell? ⟨w.heap.size, 2, none⟩ = some (.slice a es.length c) := blk_cell hk1 2
  have HAW := Lib.hid (fun W => awake14 W)
  have HB1 := Lib.hid hb1
  have hR1 : RightCall d p 255 (.slice a es.length c) es w1 := refRight_any d p 255 a es.length c es w1 hE1
  by_cases hR : Right14 d p 255 es
  · obtain ⟨D, hD⟩ := Int.eq_ofNat_of_zero_le hR.head.d0
    obtain ⟨PN, hPN⟩ := Int.eq_ofNat_of_zero_le hR.p0
    subst hD hPN
    have hD8 : D ≤ 8 := by have := hR.head.d1; omega
    have hPN8 : PN < 1048576 := by
      have h2 := hR.p1
      have h3 : (2 : Nat) ^ D ≤ 2 ^ 8 := Nat.pow_le_pow_right (by decide) hD8
      have h4 : ((2 : Int) ^ ((D : Int)).toNat) = ((2 ^ D : Nat) : Int) := by simp
      rw [h4] at h2
      generalize (2 : Nat) ^ D = M at h2 h3
      omega
    have HRC := Lib.hid (right_is hR1 hR)
    obtain ⟨hwhole, hhalf⟩ := halves hR
    have HWH := Lib.hid hwhole
    have HHA := Lib.hid hhalf
    have HC : Hid (∀ W, Below w1.heap.size w1 W → W.cell? ⟨w.heap.size, 0, none⟩ = some (.int .i64 D) ∧ W.cell? ⟨w.heap.size, 1, none⟩ = some (.int .i64 PN) ∧ W.cell? ⟨w.heap.size, 2, none⟩ = some (.slice a es.length c)) := fun W h =>
      ⟨(h.cell (p := ⟨w.heap.size, 0, none⟩) (blk_lt hk1)).trans c0, (h.cell (p := ⟨w.heap.size, 1, none⟩) (blk_lt hk1)).trans c1, (h.cell (p := ⟨w.heap.size, 2, none⟩) (blk_lt hk1)).trans c2⟩
    have HOF : Hid (∀ W, Below w1.heap.size w1 W → Calls Try.prog 10 #[.agg #[.int .i64 D, .int .i64 PN, .slice a es.length c]] W (BktLit D PN es W)) := fun W h => of_any D PN a _ c es W ((hE1.below h).mono h.size) (by omega)
    have HSP : Hid (∀ (a : Option Addr) (n c : Nat) W, EntsAt W.heap.size W (.slice a n c) es → Calls Try.prog 22 #[.agg #[.int .i64 D, .int .i64 PN, .slice a n c]] W (SplitLit D PN es W)) := fun a n c W h => split_any D PN hD8 hPN8 a n c es W h (by omega)
    have HEN : Hid (EntsAt w1.heap.size w1 (.slice a es.length c) es) := hE1
    have hlt1 := blk_lt hk1
    have hd8 : (D : Int) ≤ 8 := by omega
    obtain ⟨L1, hL1⟩ : ∃ L, (es.filter fun x => preI x.hash ((D : Int) + 1) == (PN : Int) * 2) = L := ⟨_, rfl⟩
    obtain ⟨L2, hL2⟩ : ∃ L, (es.filter fun x => !(preI x.hash ((D : Int) + 1) == (PN : Int) * 2)) = L := ⟨_, rfl⟩
    unfold SplitLit at HSP
    rw [hL1, hL2] at HWH HHA HSP
    have hll : L1.length + L2.length = es.length := by rw [← HWH.out, List.length_append]
    clear hk1 hE1 hb1 hR1 hR hE hbig hwhole hhalf hL1 hL2
    go_enter Try.func6, Try.ntmps6
    go_upto_region 4 with (first
      | (go_at_call 13; rw [HW1.out]; (with_reducible refine HRC.out.mono ?_); rintro e w2 ⟨rfl, hb2⟩; have HB2 := Lib.hid hb2; obtain ⟨d0, d1, d2⟩ := HC.out _ hb2; clear hb2)
      | (go_at_call 10; (with_reducible refine (HOF.out _ HB2.out).mono ?_); rintro e w3 ⟨a3, n3, k3, rfl, h3, hb3⟩; have HE3 := Lib.hid h3; have HB3 := Lib.hid (HB2.out.trans (hb3.mono HB2.out.size)); clear h3 hb3)
      | (go_at_call 22; (with_reducible refine (HSP.out _ _ _ _ HE3.out).mono ?_); rintro e w4 ⟨a4, n4, k4, b4, m4, j4, rfl, h4, h5, hn4, hb4⟩; have HE4 := Lib.hid h4; have HE5 := Lib.hid h5; have HN4 := Lib.hid hn4; have HB4 := Lib.hid (HB3.out.trans (hb4.mono HB3.out.size)); clear h4 h5 hn4 hb4))
    have hk5 : (w4.alloc (.cells #[.int .i64 ((D : Int) + 1), .int .i64 ((PN : Int) * 2), .slice a4 n4 k4, .int .i64 ((D : Int) + 1), .int .i64 ((PN : Int) * 2 + 1), .slice b4 m4 j4] 57)).heap[w4.heap.size]? = some (.cells #[.int .i64 ((D : Int) + 1), .int .i64 ((PN : Int) * 2), .slice a4 n4 k4, .int .i64 ((D : Int) + 1), .int .i64 ((PN : Int) * 2 + 1), .slice b4 m4 j4] 57 (0, 0)) := heap_alloc_new _ _
    have hb5 := HB4.out.alloc HB4.out.size (.cells #[.int .i64 ((D : Int) + 1), .int .i64 ((PN : Int) * 2), .slice a4 n4 k4, .int .i64 ((D : Int) + 1), .int .i64 ((PN : Int) * 2 + 1), .slice b4 m4 j4] 57)
    have hbb := (Below.refl w4.heap.size w4).alloc (Nat.le_refl _) (.cells #[.int .i64 ((D : Int) + 1), .int .i64 ((PN : Int) * 2), .slice a4 n4 k4, .int .i64 ((D : Int) + 1), .int .i64 ((PN : Int) * 2 + 1), .slice b4 m4 j4] 57)
    have hE4 := HE4.out.next hbb
    have hE5 := HE5.out.next hbb
    obtain ⟨w5, hw5⟩ : ∃ w5, w4.alloc (.cells #[.int .i64 ((D : Int) + 1), .int .i64 ((PN : Int) * 2), .slice a4 n4 k4, .int .i64 ((D : Int) + 1), .int .i64 ((PN : Int) * 2 + 1), .slice b4 m4 j4] 57) = w5 := ⟨_, rfl⟩
    rw [hw5] at hk5 hb5 hE4 hE5 ⊢
    clear hw5 hbb HE4 HE5 d0 d1 d2 c0 c1 c2
    generalize w4.heap.size = LB at hk5 ⊢
    have HK5 := Lib.hid hk5
    have HB5 := Lib.hid hb5
    have HE4 := Lib.hid hE4
    have HE5 := Lib.hid hE5
    have HS : Hid (∀ W, Below w5.heap.size w5 W → W.cell? ⟨LB, 2, none⟩ = some (.slice a4 n4 k4) ∧ W.cell? ⟨LB, 5, none⟩ = some (.slice b4 m4 j4)) := fun W h =>
      ⟨(h.cell (p := ⟨LB, 2, none⟩) (blk_lt hk5)).trans (blk_cell hk5 2), (h.cell (p := ⟨LB, 5, none⟩) (blk_lt hk5)).trans (blk_cell hk5 5)⟩
    have hBc := Lib.hid ((Below.refl w5.heap.size w5).drew)
    have HLL := Lib.hid hll
    have HL255 := Lib.hid hl
    clear hk5 hb5 hE4 hE5 hll hl
    go_region_held_law (fun W => W.cell? ⟨LB, 2, none⟩ = some (.slice a4 n4 k4) ∧ W.cell? ⟨LB, 5, none⟩ = some (.slice b4 m4 j4))
      (first | exact HS.out _ hBc.out | exact HS.out _ (hBc.out.alloc hBc.out.size _))
      (first
        | (refine step_append_ents (by rfl) _ _ (by rfl) (by rfl) w5.heap.size i0 hi hz0 hz1 hz2 v8 (by rfl) L1 HO8.out (.slice b4 m4 j4) (by rfl) _ L2 (HE5.out.below hBc.out) HN4.out.2 (by have := HLL.out; have := HL255.out; omega) hBc.out.size ?_; intro v9 w9 n9 hn9 hown9 hg9 hat9; have HO9 : Hid (w9.ownsRow w5.heap.size 53 4 v9 es.length (ents es)) := (by unfold Hid; rw [hn9.out, HWH.out] at hown9; exact hown9); obtain ⟨a9, c9, rfl⟩ := owns_slice HO9.out; have hBn := hBc.out.grown hg9 hBc.out.size (fun k e => (HO8.out.lt k e).1); clear hBc hn9 hown9 hg9 hat9; have hBc := Lib.hid hBn; clear hBn)
        | (refine step_append_ents (by rfl) _ _ (by rfl) (by rfl) w5.heap.size i0 hi hz0 hz1 hz2 _ (by rfl) [] (own_emptyE _ w5.heap.size _ rfl hBc.out.size) (.slice a4 n4 k4) (by rfl) _ L1 (HE4.out.below (hBc.out.alloc hBc.out.size _)) HN4.out.1 (by have := HLL.out; have := HL255.out; simp; omega) (hBc.out.alloc hBc.out.size _).size ?_; intro v8 w8 n8 hn8 hown8 hg8 hat8; have HO8 : Hid (w8.ownsRow w5.heap.size 53 4 v8 L1.length (ents L1)) := (by unfold Hid; rw [hn8.out] at hown8; simpa using hown8); have hBn := (hBc.out.alloc hBc.out.size _).grown hg8 (hBc.out.alloc hBc.out.size _).size (fun k e => (by have : w5.heap.size ≤ k := (by simp [Value.ownBlock] at e; omega); exact this)); clear hBc hn8 hown8 hg8 hat8; have hBc := Lib.hid hBn; clear hBn))
    have HE9 := Lib.hid (EntsAt.of_owns HO9.out rfl)
    have hb9 := HB5.out.trans (hBc.out.mono HB5.out.size)
    have HB9 := Lib.hid hb9
    obtain ⟨d0, d1, d2⟩ := HC.out _ hb9
    have HU : Hid (∀ W, Below w5.heap.size w5 W → W.cell? ⟨LB, 0, none⟩ = some (.int .i64 ((D : Int) + 1)) ∧ W.cell? ⟨LB, 1, none⟩ = some (.int .i64 ((PN : Int) * 2)) ∧ W.cell? ⟨LB, 2, none⟩ = some (.slice a4 n4 k4) ∧ W.cell? ⟨LB, 3, none⟩ = some (.int .i64 ((D : Int) + 1)) ∧ W.cell? ⟨LB, 4, none⟩ = some (.int .i64 ((PN : Int) * 2 + 1)) ∧ W.cell? ⟨LB, 5, none⟩ = some (.slice b4 m4 j4)) := fun W h => ⟨(h.cell (p := ⟨LB, 0, none⟩) (blk_lt HK5.out)).trans (blk_cell HK5.out 0), (h.cell (p := ⟨LB, 1, none⟩) (blk_lt HK5.out)).trans (blk_cell HK5.out 1), (h.cell (p := ⟨LB, 2, none⟩) (blk_lt HK5.out)).trans (blk_cell HK5.out 2), (h.cell (p := ⟨LB, 3, none⟩) (blk_lt HK5.out)).trans (blk_cell HK5.out 3), (h.cell (p := ⟨LB, 4, none⟩) (blk_lt HK5.out)).trans (blk_cell HK5.out 4), (h.cell (p := ⟨LB, 5, none⟩) (blk_lt HK5.out)).trans (blk_cell HK5.out 5)⟩
    clear hb9 HO8
    go_wp2
    go_loopw [5] (fun i wr => ∃ k : Nat, k ≤ es.length ∧ i = .int .i64 k ∧ Below w9.heap.size w9 wr) (fun i _ => es.length - (intOf i).toNat)
    case atStart => exact ⟨0, Nat.zero_le _, rfl, Below.refl _ _⟩
    case round =>
      obtain ⟨k, hk, rfl, hB⟩ := hrel
      clear d0 d1 d2
      have h1r := HB9.out.trans (hB.mono HB9.out.size)
      have HB0 := Lib.hid hB
      by_cases hlt : k < es.length
      · obtain ⟨g, off, rfl, hg, e4⟩ := HEN.out.get hlt
        obtain ⟨g', off', rfl, hg', f4⟩ := HE9.out.get hlt
        have k1 : (k : Int) < es.length := by omega
        have hgw : w1.heap.size ≤ w9.heap.size := HB9.out.size
        have HS2 : Hid (∀ W, Below w9.heap.size w9 W → W.cell? ⟨w.heap.size, 2, none⟩ = some (.slice (some ⟨g, off, none⟩) es.length c) ∧ (W.cell? ⟨g, off + k * 4, none⟩ = some (.int .u64 (U (es[k]?.getD default).hash)) ∧ W.cell? ⟨g, off + k * 4 + 1, none⟩ = some (.int .i64 (es[k]?.getD default).reg) ∧ W.cell? ⟨g, off + k * 4 + 2, none⟩ = some (.int .i64 (es[k]?.getD default).at_) ∧ W.cell? ⟨g, off + k * 4 + 3, none⟩ = some (.int .i64 (es[k]?.getD default).size)) ∧ (W.cell? ⟨g', off' + k * 4, none⟩ = some (.int .u64 (U (es[k]?.getD default).hash)) ∧ W.cell? ⟨g', off' + k * 4 + 1, none⟩ = some (.int .i64 (es[k]?.getD default).reg) ∧ W.cell? ⟨g', off' + k * 4 + 2, none⟩ = some (.int .i64 (es[k]?.getD default).at_) ∧ W.cell? ⟨g', off' + k * 4 + 3, none⟩ = some (.int .i64 (es[k]?.getD default).size))) := fun W h =>
          have q := HB9.out.trans (h.mono HB9.out.size)
          ⟨(HC.out _ q).2.2, ⟨(q.cell (p := ⟨g, _, none⟩) (show g < w1.heap.size by omega)).trans e4.1, (q.cell (p := ⟨g, _, none⟩) (show g < w1.heap.size by omega)).trans e4.2.1, (q.cell (p := ⟨g, _, none⟩) (show g < w1.heap.size by omega)).trans e4.2.2.1, (q.cell (p := ⟨g, _, none⟩) (show g < w1.heap.size by omega)).trans e4.2.2.2⟩,
            ⟨(h.cell (p := ⟨g', _, none⟩) (show g' < w9.heap.size by omega)).trans f4.1, (h.cell (p := ⟨g', _, none⟩) (show g' < w9.heap.size by omega)).trans f4.2.1, (h.cell (p := ⟨g', _, none⟩) (show g' < w9.heap.size by omega)).trans f4.2.2.1, (h.cell (p := ⟨g', _, none⟩) (show g' < w9.heap.size by omega)).trans f4.2.2.2⟩⟩
        generalize es[k]?.getD default = x at HS2 e4 f4
        have HENT : Hid (∀ W, Calls Try.prog 20 #[.agg #[.int .u64 (U x.hash), .int .i64 x.reg, .int .i64 x.at_, .int .i64 x.size]] W fun e w' => e = .returned (.agg #[.int .u64 (U x.hash), .int .i64 x.reg, .int .i64 x.at_, .int .i64 x.size]) ∧ Below W.heap.size W w') := fun W => entry_any x W
        have hBd := Lib.hid (HB0.out.drew)
        clear e4 f4 hB h1r hgw hg hg'
        go_upto_region 10 with (fail)
        go_region_held3 (fun W => W.cell? ⟨w.heap.size, 2, none⟩ = some (.slice (some ⟨g, off, none⟩) es.length c) ∧ (W.cell? ⟨g, off + k * 4, none⟩ = some (.int .u64 (U x.hash)) ∧ W.cell? ⟨g, off + k * 4 + 1, none⟩ = some (.int .i64 x.reg) ∧ W.cell? ⟨g, off + k * 4 + 2, none⟩ = some (.int .i64 x.at_) ∧ W.cell? ⟨g, off + k * 4 + 3, none⟩ = some (.int .i64 x.size)) ∧ (W.cell? ⟨g', off' + k * 4, none⟩ = some (.int .u64 (U x.hash)) ∧ W.cell? ⟨g', off' + k * 4 + 1, none⟩ = some (.int .i64 x.reg) ∧ W.cell? ⟨g', off' + k * 4 + 2, none⟩ = some (.int .i64 x.at_) ∧ W.cell? ⟨g', off' + k * 4 + 3, none⟩ = some (.int .i64 x.size)))
          (exact HS2.out _ hBd.out)
          ((go_at_call 20; (with_reducible refine (HENT.out _).mono ?_); rintro e w7 ⟨rfl, hb7⟩; have hBn := hBd.out.trans (hb7.mono hBd.out.size); clear hBd hb7; have hBd := Lib.hid hBn; clear hBn))
        all_goals
          go_wp2
          go_roundw
          case rel => exact ⟨k + 1, by omega, by go_num, hBd.out⟩
          case measure => simp [intOf]; omega
      · obtain rfl : k = es.length := by omega
        have h5r := hBc.out.trans (hB.mono hBc.out.size)
        have HBR := Lib.hid h5r
        obtain ⟨x0, x1, x2, x3, x4, x5⟩ := HU.out _ h5r
        obtain ⟨d0, d1, d2⟩ := HC.out _ h1r
        clear hB h1r h5r
        by_cases hD : D < 8
        · have hRR := HHA.out (by omega)
          have HRY1 : Hid (∀ W, Below w5.heap.size w5 W → Calls Try.prog 12 #[.agg #[.int .i64 ((D : Int) + 1), .int .i64 ((PN : Int) * 2), .slice a4 n4 k4], .int .i64 255] W fun e W' => e = .returned (.bool true) ∧ Below W.heap.size W W') := fun W h => right_yes _ _ _ _ _ _ _ _ (HE4.out.next h) hRR.1
          have HRY2 : Hid (∀ W, Below w5.heap.size w5 W → Calls Try.prog 12 #[.agg #[.int .i64 ((D : Int) + 1), .int .i64 ((PN : Int) * 2 + 1), .slice b4 m4 j4], .int .i64 255] W fun e W' => e = .returned (.bool true) ∧ Below W.heap.size W W') := fun W h => right_yes _ _ _ _ _ _ _ _ (HE5.out.next h) hRR.2
          have hne : ((D : Int) == 8) = false := beq_eq_false_iff_ne.2 (by omega)
          clear hRR
          go_wp2_with (first
            | (go_at_call 12; (with_reducible refine (HRY1.out _ HBR.out).mono ?_); rintro e w6 ⟨rfl, hb6⟩; have HB6 := Lib.hid (HBR.out.trans (hb6.mono HBR.out.size)); obtain ⟨y0, y1, y2, y3, y4, y5⟩ := HU.out _ HB6.out; clear hb6)
            | (go_at_call 12; (with_reducible refine (HRY2.out _ HB6.out).mono ?_); rintro e w7 ⟨rfl, hb7⟩; have HB7 := Lib.hid (HB6.out.trans (hb7.mono HB6.out.size)); clear hb7)
            | (go_at_call 14; (with_reducible refine (HAW.out _).mono ?_); rintro e w8 ⟨rfl, hb8⟩; have HB8 := Lib.hid hb8; clear hb8))
          go_ret
          exact ⟨rfl, HB1.out.trans ((HB5.out.trans ((HB7.out.trans (HB8.out.mono HB7.out.size)).mono HB5.out.size)).mono HB1.out.size)⟩
        · obtain rfl : D = 8 := by omega
          go_wp2_with (first
            | (go_at_call 14; (with_reducible refine (HAW.out _).mono ?_); rintro e w8 ⟨rfl, hb8⟩; have HB8 := Lib.hid hb8; clear hb8))
          go_ret
          exact ⟨rfl, HB1.out.trans ((HB5.out.trans ((HBR.out.trans (HB8.out.mono HBR.out.size)).mono HB5.out.size)).mono HB1.out.size)⟩
  · have HRC := Lib.hid (right_not hR1 hR)
    clear hk1 hE1 hb1 hR1 hR hE hbig
    go_enter Try.func6, Try.ntmps6
    go_wp2_with (first
      | (go_at_call 13; rw [HW1.out]; (with_reducible refine HRC.out.mono ?_); rintro e w2 ⟨rfl, hb2⟩; have HB2 := Lib.hid hb2; have d2 : w2.cell? ⟨w.heap.size, 2, none⟩ = some (.slice a es.length c) := (hb2.cell (World.block_lt_of_cell? _ _ c2)).trans c2; clear hb2)
      | (go_at_call 14; (with_reducible refine (HAW.out _).mono ?_); rintro e w6 ⟨rfl, hb6⟩; have HB6 := Lib.hid hb6; clear hb6))
    go_ret
    exact ⟨rfl, HB1.out.trans ((HB2.out.trans (HB6.out.mono HB2.out.size)).mono HB1.out.size)⟩
end
set_option maxRecDepth 100000 in
theorem bucketHalves_lifted (os : Os) (started : os.Started) (H : Type) (enc : TypeId × Value → H) :
    ReturnsInHanded {} Try.checked os 6 .any (Rows.bucketHalvesSpec.pre6 enc Try.prog Try.f6 Rows.bucketHalvesRow.domain false) (Rows.bucketHalvesSpec.post enc Try.prog Try.f6 false true false false) :=
  law_lifted 6 Try.f6 Rows.bucketHalvesSpec Try.func6 (by kernel_rfl) rfl rfl
    (fun ds h => by match ds, h with | [_], _ => rfl) (by kernel_rfl) os started
    (ChangeSpec.witness6 (enc := enc) (C := Try.checked) false ⟨#[], #[.agg #[.int .i64 0, .int .i64 0, .slice none 0 0]], []⟩ 8 (by kernel_rfl) (by kernel_rfl) (by kernel_rfl) (by kernel_rfl))
    fun W args ds ps hval hA => by
      rw [Try.params6] at hA hval
      obtain ⟨v0, vs0, d0, ds0, p0, q0, hargs, rfl, rfl, h0, r0⟩ := trodAll_cons hA
      obtain ⟨rfl, rfl, rfl⟩ := trodAll_nil r0
      obtain rfl : args = #[v0] := by cases args; simp_all
      obtain ⟨b0, o0⟩ := hval 0 _ v0 rfl rfl
      obtain ⟨q0, rfl, hq0⟩ := open_bkt o0 h0
      exact bucketHalves_walk q0.1 q0.2.1 q0.2.2.1 q0.2.2.2 W hq0.1 hq0.2.1

/-- The statement. -/
theorem bucketHalves_holds : Rows.BucketHalvesSaid :=
  OpenClaim.holds_of_wide 6 Try.f6 rfl rfl rfl rfl rfl rfl rfl ⟨rfl, rfl, rfl, rfl, rfl⟩ rfl rfl rfl rfl rfl (by kernel_rfl) Try.func6 (by kernel_rfl)
    (of_decide_eq_true (by kernel_rfl)) (by unfold Func.isWrapper; first | (rw [if_pos (by decide +kernel)]; kernel_rfl) | (rw [if_neg (by decide +kernel)]; exact ⟨rfl, rfl⟩))
    (fun os started H enc _ => bucketHalves_lifted os started H enc)
#print axioms bucketHalves_holds
end Go.Proofs.Ytnjpppeljpcndaa

/-
  BucketTurns: what is found in any bucket, what becomes of it by an entry that is put, one that is dropped, what is stale, parted.
  Conditions: none.
-/
import Derived.Test.YtpihncafmjbccaaBkt31
import Derived.Test.YtpihncafmjbccaaBkt7
import Derived.Test.YtpihncafmjbccaaBkt9
import Derived.Test.YtpihncafmjbccaaRightCall
import Derived.Deep.RegionHeld3
namespace Go.Proofs.Ytpihncafmjbccaa
open Go.ChangeShapes Go.WideShapes Go.ChangeAt Go.RowKit
attribute [local go_sem] Oper.semAt_some

/-- What Find answers, of the program's and of the document's. -/
def FoundIs (es : List Ent) (f : Bool) (r a s iv : Int) : Prop := (f = true ∧ ∃ i : Nat, i < es.length ∧ iv = i ∧ (es[i]?.getD default).reg = r ∧ (es[i]?.getD default).at_ = a ∧ (es[i]?.getD default).size = s) ∨ (f = false ∧ iv = -1 ∧ r = 0 ∧ a = 0 ∧ s = 0)
theorem found_any (d p : Int) (h : BitVec 64) (es : List Ent) (hlen : es.length ≤ 100000) : ∃ (f : Bool) (r a s iv : Int), FoundIs es f r a s iv ∧
    (∀ (b : Option Addr) (n c : Nat) (W : World), EntsAt W.heap.size W (.slice b n c) es → Calls Try.prog 7 #[.agg #[.int .i64 d, .int .i64 p, .slice b n c], .int .u64 (U h)] W fun e w' => e = .returned (.tuple #[.agg #[.int .i64 r, .int .i64 a, .int .i64 s], .bool f]) ∧ Below W.heap.size W w') ∧
    (∀ (b : Option Addr) (n c : Nat) (W : World), EntsAt W.heap.size W (.slice b n c) es → Calls Try.prog 8 #[.agg #[.int .i64 d, .int .i64 p, .slice b n c], .int .u64 (U h)] W fun e w' => e = .returned (.int .i64 iv) ∧ Below W.heap.size W w') ∧
    decide (0 < (es.filter fun x => decide (x.hash = h)).length) = f := by
  by_cases he : ∃ i, i < es.length ∧ (es[i]?.getD default).hash = h
  · obtain ⟨n0, hn0⟩ := he
    obtain ⟨i, _, ⟨hi, hh⟩, hj⟩ := exists_least (P := fun i => i < es.length ∧ (es[i]?.getD default).hash = h) n0 hn0
    have hno : NoHash h es i := fun j hji e => hj j hji ⟨by omega, e⟩
    have same : ∀ j, (es[j]?.getD default).hash = h → NoHash h es j → j < es.length → j = i := fun j hjh hjn hjl => by
      rcases Nat.lt_trichotomy j i with h9 | h9 | h9
      · exact absurd hjh (hno j h9)
      · exact h9
      · exact absurd hh (hjn i h9)
    refine ⟨true, (es[i]?.getD default).reg, (es[i]?.getD default).at_, (es[i]?.getD default).size, i, .inl ⟨rfl, i, hi, rfl, rfl, rfl, rfl⟩, fun b n c W hE => (find_any d p h b n c es W hE hlen).mono fun e w' hr => ?_, fun b n c W hE => (refFind_any d p h b n c es W hE hlen).mono fun e w' hr => ?_, gone_yes hi hh⟩
    · rcases hr with ⟨hb, ⟨j, hjl, hjh, hjn, e9⟩ | ⟨hn, _⟩⟩
      · obtain rfl := same j hjh hjn hjl
        exact ⟨e9, hb⟩
      · exact absurd hh (hn i hi)
    · rcases hr with ⟨hb, ⟨j, hjl, hjh, hjn, e9⟩ | ⟨hn, _⟩⟩
      · obtain rfl := same j hjh hjn hjl
        exact ⟨e9, hb⟩
      · exact absurd hh (hn i hi)
  · have hn : NoHash h es es.length := fun i hi e => he ⟨i, hi, e⟩
    refine ⟨false, 0, 0, 0, -1, .inr ⟨rfl, rfl, rfl, rfl, rfl⟩, fun b n c W hE => (find_any d p h b n c es W hE hlen).mono fun e w' hr => ?_, fun b n c W hE => (refFind_any d p h b n c es W hE hlen).mono fun e w' hr => ?_, gone_no hn⟩
    · rcases hr with ⟨hb, ⟨j, hjl, hjh, _⟩ | ⟨_, e9⟩⟩
      · exact absurd hjh (hn j hjl)
      · exact ⟨e9, hb⟩
    · rcases hr with ⟨hb, ⟨j, hjl, hjh, _⟩ | ⟨_, e9⟩⟩
      · exact absurd hjh (hn j hjl)
      · exact ⟨e9, hb⟩
section
attribute [-go_sem] run_eql_struct run_eqGuard_agg
attribute [local go_sem] locs_neq locs_guard
set_option maxRecDepth 100000 in
set_option maxHeartbeats 16000000 in
theorem bucketTurns_walk (d p : Int) (v : Value) (es : List Ent) (y : Ent) (o : Int) (w : World) (hE : EntsAt w.heap.size w v es) (hm : es.length ≤ maxLen) (hnil : NilS v) : Calls Try.prog 3 #[.agg #[.int .i64 d, .int .i64 p, v], .agg #[.int .u64 (U y.hash), .int .i64 y.reg, .int .i64 y.at_, .int .i64 y.size], .int .i64 o] w (Good w) := by
  unfold maxLen at hm
  obtain ⟨a, c, rfl, hc0⟩ := hE.slice
  obtain ⟨w1, hw1⟩ : ∃ w1, (w.alloc (.cells #[.int .i64 d, .int .i64 p, .slice a es.length c] 24)).alloc (.cells #[.int .u64 (U y.hash), .int .i64 y.reg, .int .i64 y.at_, .int .i64 y.size] 27) = w1 := ⟨_, rfl⟩
  have hb1 : Below w.heap.size w w1 := by rw [← hw1]; exact ((Below.refl _ w).alloc (Nat.le_refl _) _).alloc (by simp) _
  have hk1 : w1.heap[w.heap.size]? = some (.cells #[.int .i64 d, .int .i64 p, .slice a es.length c] 24 (0, 0)) := by rw [← hw1]; exact blk_alloc (heap_alloc_new _ _) _
  have hx1 : w1.heap[w.heap.size + 1]? = some (.cells #[.int .u64 (U y.hash), .int .i64 y.reg, .int .i64 y.at_, .int .i64 y.size] 27 (0, 0)) := by
    rw [← hw1]
    have := heap_alloc_new (w.alloc (.cells #[.int .i64 d, .int .i64 p, .slice a es.length c] 24)) (.cells #[.int .u64 (U y.hash), .int .i64 y.reg, .int .i64 y.at_, .int .i64 y.size] 27)
    rw [World.size_alloc] at this
    exact this
  have hE1 : EntsAt w1.heap.size w1 (.slice a es.length c) es := hE.next hb1
  have HW1 := Lib.hid hw1
  clear hw1
  by_cases hbig : 255 < es.length
  · as_aux_lemma =>
    have h1 : (255 : Int) < es.length := by omega
    go_enter Try.func3, Try.ntmps3
    go_wp2
    go_ret
    refine ⟨rfl, ?_⟩
    rw [HW1.out]; exact hb1
  have h1 : (es.length : Int) ≤ 255 := by omega
  have hl : es.length ≤ 255 := by omega
  have c0 : w1.cell? ⟨w.heap.size, 0, none⟩ = some (.int .i64 d) := blk_cell hk1 0
  have c1 : w1.cell? ⟨w.heap.size, 1, none⟩ = some (.int .i64 p) := blk_cell hk1 1
  have c2 : w1.cell? ⟨w.heap.size, 2, none⟩ = some (.slice a es.length c) := blk_cell hk1 2
  have HAW := Lib.hid (fun W => awake14 W)
  have HB1 := Lib.hid hb1
  have hR1 : RightCall d p 255 (.slice a es.length c) es w1 := refRight_any d p 255 a es.length c es w1 hE1
  by_cases hR : Right14 d p 255 es
  · obtain ⟨D, hD⟩ := Int.eq_ofNat_of_zero_le hR.head.d0
    obtain ⟨PN, hPN⟩ := Int.eq_ofNat_of_zero_le hR.p0
    subst hD hPN
    have hD8 : D ≤ 8 := by have := hR.head.d1; omega
    have hPN8 : PN < 1048576 := by
      have h2 := hR.p1
      have h3 : (2 : Nat) ^ D ≤ 2 ^ 8 := Nat.pow_le_pow_right (by decide) hD8
      have h4 : ((2 : Int) ^ ((D : Int)).toNat) = ((2 ^ D : Nat) : Int) := by simp
      rw [h4] at h2
      generalize (2 : Nat) ^ D = M at h2 h3
      omega
    obtain ⟨f, r0, a0, s0, iv, hfd, hfind, hrfind, hgone⟩ := found_any D PN y.hash es (by omega)
    obtain ⟨ev, hev⟩ := elderIs_ex es
    have HRC := Lib.hid (right_is hR1 hR)
    have HFD := Lib.hid hfd
    have HFI := Lib.hid hfind
    have HRFI := Lib.hid hrfind
    obtain ⟨lD, hlD⟩ : ∃ l, (es.filter fun x => !decide (x.hash = y.hash)) = l := ⟨_, rfl⟩
    obtain ⟨lF, hlF⟩ : ∃ l, (es.filter fun x => !decide (x.reg < o)) = l := ⟨_, rfl⟩
    obtain ⟨l0, hl0⟩ : ∃ l, (es.filter fun x => preI x.hash ((D : Int) + 1) == (PN : Int) * 2) = l := ⟨_, rfl⟩
    obtain ⟨l1, hl1⟩ : ∃ l, (es.filter fun x => !(preI x.hash ((D : Int) + 1) == (PN : Int) * 2)) = l := ⟨_, rfl⟩
    obtain ⟨lP, hlP⟩ : ∃ l, putE y es = l := ⟨_, rfl⟩
    have HLD : Hid (lD.length ≤ 255) := by unfold Hid; rw [← hlD]; exact Nat.le_trans (List.length_filter_le _ _) hl
    have HLF : Hid (lF.length ≤ 255) := by unfold Hid; rw [← hlF]; exact Nat.le_trans (List.length_filter_le _ _) hl
    have HL0 : Hid (l0.length ≤ 255) := by unfold Hid; rw [← hl0]; exact Nat.le_trans (List.length_filter_le _ _) hl
    have HL1 : Hid (l1.length ≤ 255) := by unfold Hid; rw [← hl1]; exact Nat.le_trans (List.length_filter_le _ _) hl
    have HLP : Hid (lP.length ≤ 256) := by unfold Hid; rw [← hlP]; have := putE_len y es; omega
    have HPUT : Hid (∀ (b : Option Addr) (n k : Nat) W, EntsAt W.heap.size W (.slice b n k) es → Calls Try.prog 13 #[.agg #[.int .i64 D, .int .i64 PN, .slice b n k], .agg #[.int .u64 (U y.hash), .int .i64 y.reg, .int .i64 y.at_, .int .i64 y.size]] W (BktLit D PN lP W)) := fun b n k W h => by rw [← hlP]; exact bktPut_any D PN y b n k es W h (by omega)
    have HRPUT : Hid (∀ W, EntsAt W.heap.size W (.slice a es.length c) es → Calls Try.prog 14 #[.agg #[.int .i64 D, .int .i64 PN, .slice a es.length c], .agg #[.int .u64 (U y.hash), .int .i64 y.reg, .int .i64 y.at_, .int .i64 y.size]] W (BktLit D PN lP W)) := fun W h => by rw [← hlP]; exact refPut_any D PN y a _ c es W h (by omega) hnil hR.asc
    have HDROP : Hid (∀ (b : Option Addr) (n k : Nat) W, EntsAt W.heap.size W (.slice b n k) es → Calls Try.prog 10 #[.agg #[.int .i64 D, .int .i64 PN, .slice b n k], .int .u64 (U y.hash)] W fun e w' => ∃ b n k, e = .returned (.tuple #[.agg #[.int .i64 D, .int .i64 PN, .slice b n k], .bool f]) ∧ EntsAt w'.heap.size w' (.slice b n k) lD ∧ Below W.heap.size W w') := fun b n k W h => (drop_any D PN y.hash b n k es W h (by omega)).mono fun e w' ⟨b, n, k, he, h1, _, h2⟩ => ⟨b, n, k, by rw [hgone] at he; exact he, by rw [← hlD]; exact h1, h2⟩
    have HRDROP : Hid (∀ W, EntsAt W.heap.size W (.slice a es.length c) es → Calls Try.prog 15 #[.agg #[.int .i64 D, .int .i64 PN, .slice a es.length c], .int .u64 (U y.hash)] W (BktLit D PN lD W)) := fun W h => by rw [← hlD]; exact refDrop_any D PN y.hash a _ c es W h (by omega)
    have HFRE : Hid (∀ (b : Option Addr) (n k : Nat) W, EntsAt W.heap.size W (.slice b n k) es → Calls Try.prog 16 #[.agg #[.int .i64 D, .int .i64 PN, .slice b n k], .int .i64 o] W (BktLit D PN lF W)) := fun b n k W h => by rw [← hlF]; exact fresh_any D PN o b n k es W h (by omega)
    have HRFRE : Hid (∀ W, EntsAt W.heap.size W (.slice a es.length c) es → Calls Try.prog 17 #[.agg #[.int .i64 D, .int .i64 PN, .slice a es.length c], .int .i64 o] W (BktLit D PN lF W)) := fun W h => by rw [← hlF]; exact refFresh_any D PN o a _ c es W h (by omega)
    have HSPL : Hid (∀ (b : Option Addr) (n k : Nat) W, EntsAt W.heap.size W (.slice b n k) es → Calls Try.prog 11 #[.agg #[.int .i64 D, .int .i64 PN, .slice b n k]] W fun e w' => ∃ b0 m0 j0 b1 m1 j1, e = .returned (.agg #[.int .i64 ((D : Int) + 1), .int .i64 ((PN : Int) * 2), .slice b0 m0 j0, .int .i64 ((D : Int) + 1), .int .i64 ((PN : Int) * 2 + 1), .slice b1 m1 j1]) ∧ EntsAt w'.heap.size w' (.slice b0 m0 j0) l0 ∧ EntsAt w'.heap.size w' (.slice b1 m1 j1) l1 ∧ Below W.heap.size W w') := fun b n k W h => (split_any D PN hD8 hPN8 b n k es W h (by omega)).mono fun e w' ⟨b0, m0, j0, b1, m1, j1, he, h0, h1, _, h2⟩ => ⟨b0, m0, j0, b1, m1, j1, he, by rw [← hl0]; exact h0, by rw [← hl1]; exact h1, h2⟩
    have HRS0 : Hid (∀ W, EntsAt W.heap.size W (.slice a es.length c) es → Calls Try.prog 18 #[.agg #[.int .i64 D, .int .i64 PN, .slice a es.length c], .int .i64 0] W (BktLit (D + 1) (PN * 2) l0 W)) := fun W h => by rw [← hl0]; exact refSplit0 D PN hD8 hPN8 a _ c es W h (by omega)
    have HRS1 : Hid (∀ W, EntsAt W.heap.size W (.slice a es.length c) es → Calls Try.prog 18 #[.agg #[.int .i64 D, .int .i64 PN, .slice a es.length c], .int .i64 1] W (BktLit (D + 1) (PN * 2 + 1) l1 W)) := fun W h => by rw [← hl1]; exact refSplit1 D PN 255 hD8 hPN8 a _ c es W h (by omega) hR
    have HELD : Hid (∀ (b : Option Addr) (n k : Nat) W, EntsAt W.heap.size W (.slice b n k) es → Calls Try.prog 19 #[.agg #[.int .i64 D, .int .i64 PN, .slice b n k]] W fun e w' => e = .returned (.int .i64 ev) ∧ Below W.heap.size W w') := fun b n k W h => (elder_any D PN b n k es W h (by omega)).mono fun e w' h => elder_is hev h
    have HRELD : Hid (∀ W, EntsAt W.heap.size W (.slice a es.length c) es → Calls Try.prog 20 #[.agg #[.int .i64 D, .int .i64 PN, .slice a es.length c]] W fun e w' => e = .returned (.int .i64 ev) ∧ Below W.heap.size W w') := fun W h => (refElder_any D PN a _ c es W h (by omega)).mono fun e w' h => elder_is hev h
    have HENT : Hid (∀ (x : Ent) W, Calls Try.prog 9 #[.agg #[.int .u64 (U x.hash), .int .i64 x.reg, .int .i64 x.at_, .int .i64 x.size]] W fun e w' => e = .returned (.agg #[.int .u64 (U x.hash), .int .i64 x.reg, .int .i64 x.at_, .int .i64 x.size]) ∧ Below W.heap.size W w') := fun x W => entry_any x W
    have HOF : Hid (∀ W, Below w1.heap.size w1 W → Calls Try.prog 6 #[.agg #[.int .i64 D, .int .i64 PN, .slice a es.length c]] W (BktLit D PN es W)) := fun W h => of_any D PN a _ c es W ((hE1.below h).mono h.size) (by omega)
    have HC : Hid (∀ W, Below w1.heap.size w1 W → ((W.cell? ⟨w.heap.size, 0, none⟩ = some (.int .i64 D) ∧ W.cell? ⟨w.heap.size, 1, none⟩ = some (.int .i64 PN) ∧ W.cell? ⟨w.heap.size, 2, none⟩ = some (.slice a es.length c)) ∧ (W.cell? ⟨w.heap.size + 1, 0, none⟩ = some (.int .u64 (U y.hash)) ∧ W.cell? ⟨w.heap.size + 1, 1, none⟩ = some (.int .i64 y.reg) ∧ W.cell? ⟨w.heap.size + 1, 2, none⟩ = some (.int .i64 y.at_) ∧ W.cell? ⟨w.heap.size + 1, 3, none⟩ = some (.int .i64 y.size))) ∧ EntsAt W.heap.size W (.slice a es.length c) es) := fun W h => ⟨⟨⟨(h.cell (p := ⟨w.heap.size, 0, none⟩) (blk_lt hk1)).trans (blk_cell hk1 0), (h.cell (p := ⟨w.heap.size, 1, none⟩) (blk_lt hk1)).trans (blk_cell hk1 1), (h.cell (p := ⟨w.heap.size, 2, none⟩) (blk_lt hk1)).trans (blk_cell hk1 2)⟩, ⟨(h.cell (p := ⟨w.heap.size + 1, 0, none⟩) (blk_lt hx1)).trans (blk_cell hx1 0), (h.cell (p := ⟨w.heap.size + 1, 1, none⟩) (blk_lt hx1)).trans (blk_cell hx1 1), (h.cell (p := ⟨w.heap.size + 1, 2, none⟩) (blk_lt hx1)).trans (blk_cell hx1 2), (h.cell (p := ⟨w.heap.size + 1, 3, none⟩) (blk_lt hx1)).trans (blk_cell hx1 3)⟩⟩, hE1.next h⟩
    unfold BktLit at HPUT HRPUT HRDROP HFRE HRFRE HRS0 HRS1 HOF
    have hd8 : (D : Int) ≤ 8 := by omega
    clear hk1 hx1 hE1 hb1 hR1 hR hE hbig hfd hfind hrfind hgone hlD hlF hl0 hl1 hlP hev hnil hc0 hm hPN8 hD8
    go_enter Try.func3, Try.ntmps3
    go_upto_region 3 with (go_at_call 4; rw [HW1.out]; (with_reducible refine HRC.out.mono ?_); rintro e w2 ⟨rfl, hb2⟩; have HB2 := Lib.hid hb2; obtain ⟨⟨⟨d0, d1, d2⟩, _⟩, _⟩ := HC.out _ hb2; clear hb2 c0 c1 c2)
    go_upto_region 4 with (go_at_call 6; (with_reducible refine (HOF.out _ HB2.out).mono ?_); rintro e w3 ⟨a3, n3, k3, rfl, h3, hb3⟩; have HE3 := Lib.hid h3; have HB3 := Lib.hid (HB2.out.trans (hb3.mono HB2.out.size)); clear h3 hb3)
    have hk4 : (w3.alloc (.cells #[.int .i64 D, .int .i64 PN, .slice a3 n3 k3] 32)).heap[w3.heap.size]? = some (.cells #[.int .i64 D, .int .i64 PN, .slice a3 n3 k3] 32 (0, 0)) := heap_alloc_new _ _
    have hb4 := HB3.out.alloc HB3.out.size (.cells #[.int .i64 D, .int .i64 PN, .slice a3 n3 k3] 32)
    have he4 := HE3.out.next ((Below.refl _ w3).alloc (Nat.le_refl _) (.cells #[.int .i64 D, .int .i64 PN, .slice a3 n3 k3] 32))
    obtain ⟨w4, hw4⟩ : ∃ w4, w3.alloc (.cells #[.int .i64 D, .int .i64 PN, .slice a3 n3 k3] 32) = w4 := ⟨_, rfl⟩
    rw [hw4] at hk4 hb4 he4 ⊢
    clear hw4 d0 d1 d2 HB2 HE3
    generalize w3.heap.size = Q3 at hk4 ⊢
    have HB4 := Lib.hid hb4
    have HS4 : Hid (∀ W, Below w4.heap.size w4 W → (((W.cell? ⟨w.heap.size, 0, none⟩ = some (.int .i64 D) ∧ W.cell? ⟨w.heap.size, 1, none⟩ = some (.int .i64 PN) ∧ W.cell? ⟨w.heap.size, 2, none⟩ = some (.slice a es.length c)) ∧ (W.cell? ⟨w.heap.size + 1, 0, none⟩ = some (.int .u64 (U y.hash)) ∧ W.cell? ⟨w.heap.size + 1, 1, none⟩ = some (.int .i64 y.reg) ∧ W.cell? ⟨w.heap.size + 1, 2, none⟩ = some (.int .i64 y.at_) ∧ W.cell? ⟨w.heap.size + 1, 3, none⟩ = some (.int .i64 y.size))) ∧ (W.cell? ⟨Q3, 0, none⟩ = some (.int .i64 D) ∧ W.cell? ⟨Q3, 1, none⟩ = some (.int .i64 PN) ∧ W.cell? ⟨Q3, 2, none⟩ = some (.slice a3 n3 k3))) ∧ EntsAt W.heap.size W (.slice a es.length c) es ∧ EntsAt W.heap.size W (.slice a3 n3 k3) es) := fun W h =>
      have q := HC.out W (HB4.out.trans (h.mono HB4.out.size))
      ⟨⟨q.1, ⟨(h.cell (p := ⟨Q3, 0, none⟩) (blk_lt hk4)).trans (blk_cell hk4 0), (h.cell (p := ⟨Q3, 1, none⟩) (blk_lt hk4)).trans (blk_cell hk4 1), (h.cell (p := ⟨Q3, 2, none⟩) (blk_lt hk4)).trans (blk_cell hk4 2)⟩⟩, q.2, he4.next h⟩
    clear hk4 hb4 he4
    obtain ⟨⟨⟨_, ⟨x0, _⟩⟩, ⟨p0, p1, p2⟩⟩, _⟩ := HS4.out w4 (Below.refl _ _)
    go_upto_region 5 with (go_at_call 7; (with_reducible refine (HFI.out _ _ _ _ (HS4.out w4 (Below.refl _ _)).2.2).mono ?_); rintro e w5 ⟨rfl, hb5⟩; have HB5 := Lib.hid hb5; clear hb5)
    have hk6 : (w5.alloc (.cells #[.int .i64 r0, .int .i64 a0, .int .i64 s0] 35)).heap[w5.heap.size]? = some (.cells #[.int .i64 r0, .int .i64 a0, .int .i64 s0] 35 (0, 0)) := heap_alloc_new _ _
    have hb6 := HB5.out.alloc HB5.out.size (.cells #[.int .i64 r0, .int .i64 a0, .int .i64 s0] 35)
    obtain ⟨w6, hw6⟩ : ∃ w6, w5.alloc (.cells #[.int .i64 r0, .int .i64 a0, .int .i64 s0] 35) = w6 := ⟨_, rfl⟩
    rw [hw6] at hk6 hb6 ⊢
    clear hw6 x0 p0 p1 p2
    generalize w5.heap.size = Q5 at hk6 ⊢
    have HB6 := Lib.hid hb6
    have HS6 : Hid (∀ W, Below w6.heap.size w6 W → ((((W.cell? ⟨w.heap.size, 0, none⟩ = some (.int .i64 D) ∧ W.cell? ⟨w.heap.size, 1, none⟩ = some (.int .i64 PN) ∧ W.cell? ⟨w.heap.size, 2, none⟩ = some (.slice a es.length c)) ∧ (W.cell? ⟨w.heap.size + 1, 0, none⟩ = some (.int .u64 (U y.hash)) ∧ W.cell? ⟨w.heap.size + 1, 1, none⟩ = some (.int .i64 y.reg) ∧ W.cell? ⟨w.heap.size + 1, 2, none⟩ = some (.int .i64 y.at_) ∧ W.cell? ⟨w.heap.size + 1, 3, none⟩ = some (.int .i64 y.size))) ∧ (W.cell? ⟨Q3, 0, none⟩ = some (.int .i64 D) ∧ W.cell? ⟨Q3, 1, none⟩ = some (.int .i64 PN) ∧ W.cell? ⟨Q3, 2, none⟩ = some (.slice a3 n3 k3))) ∧ (W.cell? ⟨Q5, 0, none⟩ = some (.int .i64 r0) ∧ W.cell? ⟨Q5, 1, none⟩ = some (.int .i64 a0) ∧ W.cell? ⟨Q5, 2, none⟩ = some (.int .i64 s0))) ∧ EntsAt W.heap.size W (.slice a es.length c) es ∧ EntsAt W.heap.size W (.slice a3 n3 k3) es) := fun W h =>
      have q := HS4.out W (HB6.out.trans (h.mono HB6.out.size))
      ⟨⟨q.1, ⟨(h.cell (p := ⟨Q5, 0, none⟩) (blk_lt hk6)).trans (blk_cell hk6 0), (h.cell (p := ⟨Q5, 1, none⟩) (blk_lt hk6)).trans (blk_cell hk6 1), (h.cell (p := ⟨Q5, 2, none⟩) (blk_lt hk6)).trans (blk_cell hk6 2)⟩⟩, q.2⟩
    clear hk6 hb6
    obtain ⟨⟨⟨⟨⟨d0, d1, d2⟩, ⟨x0, _⟩⟩, _⟩, _⟩, _⟩ := HS6.out w6 (Below.refl _ _)
    go_upto_region 6 with (go_at_call 8; (with_reducible refine (HRFI.out _ _ _ _ (HS6.out w6 (Below.refl _ _)).2.1).mono ?_); rintro e w7 ⟨rfl, hb7⟩; have HB7 := Lib.hid hb7; clear hb7)
    clear d0 d1 d2 x0
    have HB17 := Lib.hid (HB4.out.trans ((HB6.out.trans (HB7.out.mono HB6.out.size)).mono HB4.out.size))
    have q1 : ∀ q : After w7, q.v.cell? ⟨w.heap.size, 2, none⟩ = some (.slice a es.length c) := fun q => (HS6.out q.v (HB7.out.trans (q.h.mono HB7.out.size))).1.1.1.1.2.2
    have q2 : ∀ q : After w7, q.v.cell? ⟨Q5, 0, none⟩ = some (.int .i64 r0) := fun q => (HS6.out q.v (HB7.out.trans (q.h.mono HB7.out.size))).1.2.1
    have q3 : ∀ q : After w7, q.v.cell? ⟨Q5, 1, none⟩ = some (.int .i64 a0) := fun q => (HS6.out q.v (HB7.out.trans (q.h.mono HB7.out.size))).1.2.2.1
    have q4 : ∀ q : After w7, q.v.cell? ⟨Q5, 2, none⟩ = some (.int .i64 s0) := fun q => (HS6.out q.v (HB7.out.trans (q.h.mono HB7.out.size))).1.2.2.2
    go_cut [69] (fun s69 wx => s69 = .bool false ∧ ∃ wy, wy = wx ∧ Below w7.heap.size w7 wy)
    case first =>
      as_aux_lemma =>
      rcases HFD.out with ⟨rfl, i, hi, rfl, e1, e2, e3⟩ | ⟨rfl, rfl, rfl, rfl, rfl⟩
      · obtain ⟨g, off, rfl, hg, f4⟩ := (HS6.out w7 HB7.out).2.1.get hi
        have k1 : (i : Int) < es.length := by omega
        obtain ⟨x, hx⟩ : ∃ x, (es[i]?.getD default) = x := ⟨_, rfl⟩
        rw [hx] at e1 e2 e3 f4
        subst e1 e2 e3
        have y0 : ∀ q : After w7, q.v.cell? ⟨g, off + i * 4, none⟩ = some (.int .u64 (U x.hash)) := after_cell f4.1
        have y1 : ∀ q : After w7, q.v.cell? ⟨g, off + i * 4 + 1, none⟩ = some (.int .i64 x.reg) := after_cell f4.2.1
        have y2 : ∀ q : After w7, q.v.cell? ⟨g, off + i * 4 + 2, none⟩ = some (.int .i64 x.at_) := after_cell f4.2.2.1
        have y3 : ∀ q : After w7, q.v.cell? ⟨g, off + i * 4 + 3, none⟩ = some (.int .i64 x.size) := after_cell f4.2.2.2
        have HEN : Hid (∀ q : After w7, Calls Try.prog 9 #[.agg #[.int .u64 (U x.hash), .int .i64 x.reg, .int .i64 x.at_, .int .i64 x.size]] q.v fun e w' => e = .returned (.agg #[.int .u64 (U x.hash), .int .i64 x.reg, .int .i64 x.at_, .int .i64 x.size]) ∧ Below q.v.heap.size q.v w') := fun q => HENT.out x q.v
        have hfd : ∀ V : World, (Instr.field 40 (.agg #[.int .u64 (U x.hash), .int .i64 x.reg, .int .i64 x.at_, .int .i64 x.size]) 1).run Try.prog V = .ok (.agg #[.int .i64 x.reg, .int .i64 x.at_, .int .i64 x.size]) V := fun _ => by kernel_rfl
        clear f4 hi hx hg
        refine wp_region_after (by kernel_rfl) (by kernel_rfl) ?_
        repeat (go_big_quiet_step ((go_at_call 9; with_reducible exact after_call (HEN.out _))))
        refine wpQuiet_nil ?_
        rintro W9 ⟨⟨_, hW9⟩, rfl⟩
        (go_wp2_with fail)
        go_meet
        exact ⟨rfl, _, rfl, hW9⟩
      · refine wp_region_after (by kernel_rfl) (by kernel_rfl) ?_
        repeat (go_big_quiet_step ((fail)))
        refine wpQuiet_nil ?_
        rintro W9 ⟨⟨_, hW9⟩, rfl⟩
        (go_wp2_with fail)
        go_meet
        exact ⟨rfl, _, rfl, hW9⟩
    case rest =>
      obtain ⟨rfl, w8, rfl, hb8⟩ := hcut
      clear q1 q2 q3 q4
      have h68 := HB7.out.trans (hb8.mono HB7.out.size)
      have H68 := Lib.hid h68
      have H18 := Lib.hid (HB17.out.trans (hb8.mono HB17.out.size))
      obtain ⟨⟨⟨⟨_, ⟨x0, _⟩⟩, ⟨p0, p1, p2⟩⟩, _⟩, _⟩ := HS6.out _ h68
      clear hb8 h68
      go_upto_region 9 with (go_at_call 10; (with_reducible refine (HDROP.out _ _ _ _ (HS6.out _ H68.out).2.2).mono ?_); rintro e w9 ⟨a9, n9, k9, rfl, h9, hb9⟩; have HE9 := Lib.hid h9; have H69 := Lib.hid (H68.out.trans (hb9.mono H68.out.size)); have H19 := Lib.hid (H18.out.trans (hb9.mono H18.out.size)); clear h9 hb9)
      have hk10 : (w9.alloc (.cells #[.int .i64 D, .int .i64 PN, .slice a9 n9 k9] 32)).heap[w9.heap.size]? = some (.cells #[.int .i64 D, .int .i64 PN, .slice a9 n9 k9] 32 (0, 0)) := heap_alloc_new _ _
      have hb10 := H69.out.alloc H69.out.size (.cells #[.int .i64 D, .int .i64 PN, .slice a9 n9 k9] 32)
      have h110 := H19.out.alloc H19.out.size (.cells #[.int .i64 D, .int .i64 PN, .slice a9 n9 k9] 32)
      have he10 := HE9.out.next ((Below.refl _ w9).alloc (Nat.le_refl _) (.cells #[.int .i64 D, .int .i64 PN, .slice a9 n9 k9] 32))
      obtain ⟨w10, hw10⟩ : ∃ w10, w9.alloc (.cells #[.int .i64 D, .int .i64 PN, .slice a9 n9 k9] 32) = w10 := ⟨_, rfl⟩
      rw [hw10] at hk10 hb10 he10 h110 ⊢
      clear hw10 x0 p0 p1 p2 HE9
      generalize w9.heap.size = Q9 at hk10 ⊢
      have HB10 := Lib.hid hb10
      have H110 := Lib.hid h110
      have HS10 : Hid (∀ W, Below w10.heap.size w10 W → (((((W.cell? ⟨w.heap.size, 0, none⟩ = some (.int .i64 D) ∧ W.cell? ⟨w.heap.size, 1, none⟩ = some (.int .i64 PN) ∧ W.cell? ⟨w.heap.size, 2, none⟩ = some (.slice a es.length c)) ∧ (W.cell? ⟨w.heap.size + 1, 0, none⟩ = some (.int .u64 (U y.hash)) ∧ W.cell? ⟨w.heap.size + 1, 1, none⟩ = some (.int .i64 y.reg) ∧ W.cell? ⟨w.heap.size + 1, 2, none⟩ = some (.int .i64 y.at_) ∧ W.cell? ⟨w.heap.size + 1, 3, none⟩ = some (.int .i64 y.size))) ∧ (W.cell? ⟨Q3, 0, none⟩ = some (.int .i64 D) ∧ W.cell? ⟨Q3, 1, none⟩ = some (.int .i64 PN) ∧ W.cell? ⟨Q3, 2, none⟩ = some (.slice a3 n3 k3))) ∧ (W.cell? ⟨Q5, 0, none⟩ = some (.int .i64 r0) ∧ W.cell? ⟨Q5, 1, none⟩ = some (.int .i64 a0) ∧ W.cell? ⟨Q5, 2, none⟩ = some (.int .i64 s0))) ∧ (W.cell? ⟨Q9, 0, none⟩ = some (.int .i64 D) ∧ W.cell? ⟨Q9, 1, none⟩ = some (.int .i64 PN) ∧ W.cell? ⟨Q9, 2, none⟩ = some (.slice a9 n9 k9))) ∧ (EntsAt W.heap.size W (.slice a es.length c) es ∧ EntsAt W.heap.size W (.slice a3 n3 k3) es) ∧ EntsAt W.heap.size W (.slice a9 n9 k9) lD) := fun W h =>
        have q := HS6.out W (HB10.out.trans (h.mono HB10.out.size))
        ⟨⟨q.1, ⟨(h.cell (p := ⟨Q9, 0, none⟩) (blk_lt hk10)).trans (blk_cell hk10 0), (h.cell (p := ⟨Q9, 1, none⟩) (blk_lt hk10)).trans (blk_cell hk10 1), (h.cell (p := ⟨Q9, 2, none⟩) (blk_lt hk10)).trans (blk_cell hk10 2)⟩⟩, q.2, he10.next h⟩
      clear hk10 hb10 he10 h110
      obtain ⟨⟨⟨⟨_, ⟨p0, p1, p2⟩⟩, _⟩, _⟩, _⟩ := HS10.out w10 (Below.refl _ _)
      go_upto_region 10 with (go_at_call 11; (with_reducible refine (HSPL.out _ _ _ _ (HS10.out w10 (Below.refl _ _)).2.1.2).mono ?_); rintro e w11 ⟨b0, m0, j0, b1, m1, j1, rfl, h0, h1, hb11⟩; have HE0 := Lib.hid h0; have HE1 := Lib.hid h1; have HB11 := Lib.hid hb11; clear h0 h1 hb11)
      have hk12 : (w11.alloc (.cells #[.int .i64 ((D : Int) + 1), .int .i64 ((PN : Int) * 2), .slice b0 m0 j0, .int .i64 ((D : Int) + 1), .int .i64 ((PN : Int) * 2 + 1), .slice b1 m1 j1] 44)).heap[w11.heap.size]? = some (.cells #[.int .i64 ((D : Int) + 1), .int .i64 ((PN : Int) * 2), .slice b0 m0 j0, .int .i64 ((D : Int) + 1), .int .i64 ((PN : Int) * 2 + 1), .slice b1 m1 j1] 44 (0, 0)) := heap_alloc_new _ _
      have hb12 := HB11.out.alloc HB11.out.size (.cells #[.int .i64 ((D : Int) + 1), .int .i64 ((PN : Int) * 2), .slice b0 m0 j0, .int .i64 ((D : Int) + 1), .int .i64 ((PN : Int) * 2 + 1), .slice b1 m1 j1] 44)
      have he12 := HE0.out.next ((Below.refl _ w11).alloc (Nat.le_refl _) (.cells #[.int .i64 ((D : Int) + 1), .int .i64 ((PN : Int) * 2), .slice b0 m0 j0, .int .i64 ((D : Int) + 1), .int .i64 ((PN : Int) * 2 + 1), .slice b1 m1 j1] 44))
      have hf12 := HE1.out.next ((Below.refl _ w11).alloc (Nat.le_refl _) (.cells #[.int .i64 ((D : Int) + 1), .int .i64 ((PN : Int) * 2), .slice b0 m0 j0, .int .i64 ((D : Int) + 1), .int .i64 ((PN : Int) * 2 + 1), .slice b1 m1 j1] 44))
      obtain ⟨w12, hw12⟩ : ∃ w12, w11.alloc (.cells #[.int .i64 ((D : Int) + 1), .int .i64 ((PN : Int) * 2), .slice b0 m0 j0, .int .i64 ((D : Int) + 1), .int .i64 ((PN : Int) * 2 + 1), .slice b1 m1 j1] 44) = w12 := ⟨_, rfl⟩
      rw [hw12] at hk12 hb12 he12 hf12 ⊢
      clear hw12 p0 p1 p2 HE0 HE1
      generalize w11.heap.size = Q11 at hk12 ⊢
      have HB12 := Lib.hid hb12
      have HS12 : Hid (∀ W, Below w12.heap.size w12 W → ((((W.cell? ⟨w.heap.size, 0, none⟩ = some (.int .i64 D) ∧ W.cell? ⟨w.heap.size, 1, none⟩ = some (.int .i64 PN) ∧ W.cell? ⟨w.heap.size, 2, none⟩ = some (.slice a es.length c)) ∧ (W.cell? ⟨w.heap.size + 1, 0, none⟩ = some (.int .u64 (U y.hash)) ∧ W.cell? ⟨w.heap.size + 1, 1, none⟩ = some (.int .i64 y.reg) ∧ W.cell? ⟨w.heap.size + 1, 2, none⟩ = some (.int .i64 y.at_) ∧ W.cell? ⟨w.heap.size + 1, 3, none⟩ = some (.int .i64 y.size))) ∧ (W.cell? ⟨Q3, 0, none⟩ = some (.int .i64 D) ∧ W.cell? ⟨Q3, 1, none⟩ = some (.int .i64 PN) ∧ W.cell? ⟨Q3, 2, none⟩ = some (.slice a3 n3 k3))) ∧ (W.cell? ⟨Q9, 0, none⟩ = some (.int .i64 D) ∧ W.cell? ⟨Q9, 1, none⟩ = some (.int .i64 PN) ∧ W.cell? ⟨Q9, 2, none⟩ = some (.slice a9 n9 k9)) ∧ (W.cell? ⟨Q11, 0, none⟩ = some (.int .i64 ((D : Int) + 1)) ∧ W.cell? ⟨Q11, 1, none⟩ = some (.int .i64 ((PN : Int) * 2)) ∧ W.cell? ⟨Q11, 2, none⟩ = some (.slice b0 m0 j0) ∧ W.cell? ⟨Q11, 3, none⟩ = some (.int .i64 ((D : Int) + 1)) ∧ W.cell? ⟨Q11, 4, none⟩ = some (.int .i64 ((PN : Int) * 2 + 1)) ∧ W.cell? ⟨Q11, 5, none⟩ = some (.slice b1 m1 j1))) ∧ (EntsAt W.heap.size W (.slice a es.length c) es ∧ EntsAt W.heap.size W (.slice a3 n3 k3) es) ∧ EntsAt W.heap.size W (.slice a9 n9 k9) lD ∧ EntsAt W.heap.size W (.slice b0 m0 j0) l0 ∧ EntsAt W.heap.size W (.slice b1 m1 j1) l1) := fun W h =>
        have q := HS10.out W (HB12.out.trans (h.mono HB12.out.size))
        ⟨⟨q.1.1.1, q.1.2, ⟨(h.cell (p := ⟨Q11, 0, none⟩) (blk_lt hk12)).trans (blk_cell hk12 0), (h.cell (p := ⟨Q11, 1, none⟩) (blk_lt hk12)).trans (blk_cell hk12 1), (h.cell (p := ⟨Q11, 2, none⟩) (blk_lt hk12)).trans (blk_cell hk12 2), (h.cell (p := ⟨Q11, 3, none⟩) (blk_lt hk12)).trans (blk_cell hk12 3), (h.cell (p := ⟨Q11, 4, none⟩) (blk_lt hk12)).trans (blk_cell hk12 4), (h.cell (p := ⟨Q11, 5, none⟩) (blk_lt hk12)).trans (blk_cell hk12 5)⟩⟩, q.2.1, q.2.2, he12.next h, hf12.next h⟩
      have HEND := Lib.hid (HB1.out.trans ((H110.out.trans (HB12.out.mono H110.out.size)).mono HB1.out.size))
      have hBc := Lib.hid ((Below.refl w12.heap.size w12).drew)
      clear hk12 hb12 he12 hf12
      go_cut [6] (fun s6 wx => s6 = .bool true ∧ ∃ wy, wy = wx ∧ Below w12.heap.size w12 wy)
      case first =>
        as_aux_lemma =>
        go_region_held3 (fun (W : World) => (((W.cell? ⟨w.heap.size, 0, none⟩ = some (.int .i64 D) ∧ W.cell? ⟨w.heap.size, 1, none⟩ = some (.int .i64 PN) ∧ W.cell? ⟨w.heap.size, 2, none⟩ = some (.slice a es.length c)) ∧ (W.cell? ⟨w.heap.size + 1, 0, none⟩ = some (.int .u64 (U y.hash)) ∧ W.cell? ⟨w.heap.size + 1, 1, none⟩ = some (.int .i64 y.reg) ∧ W.cell? ⟨w.heap.size + 1, 2, none⟩ = some (.int .i64 y.at_) ∧ W.cell? ⟨w.heap.size + 1, 3, none⟩ = some (.int .i64 y.size))) ∧ (W.cell? ⟨Q3, 0, none⟩ = some (.int .i64 D) ∧ W.cell? ⟨Q3, 1, none⟩ = some (.int .i64 PN) ∧ W.cell? ⟨Q3, 2, none⟩ = some (.slice a3 n3 k3))) ∧ (W.cell? ⟨Q9, 0, none⟩ = some (.int .i64 D) ∧ W.cell? ⟨Q9, 1, none⟩ = some (.int .i64 PN) ∧ W.cell? ⟨Q9, 2, none⟩ = some (.slice a9 n9 k9)) ∧ (W.cell? ⟨Q11, 0, none⟩ = some (.int .i64 ((D : Int) + 1)) ∧ W.cell? ⟨Q11, 1, none⟩ = some (.int .i64 ((PN : Int) * 2)) ∧ W.cell? ⟨Q11, 2, none⟩ = some (.slice b0 m0 j0) ∧ W.cell? ⟨Q11, 3, none⟩ = some (.int .i64 ((D : Int) + 1)) ∧ W.cell? ⟨Q11, 4, none⟩ = some (.int .i64 ((PN : Int) * 2 + 1)) ∧ W.cell? ⟨Q11, 5, none⟩ = some (.slice b1 m1 j1)))
          (exact (HS12.out _ hBc.out).1)
          (first
            | (go_at_call 9; (with_reducible refine (HENT.out y _).mono ?_); rintro e wq ⟨rfl, hbq⟩; (first | (have HRn := Lib.hid (HPr.out.next hbq); clear HPr; have HPr := HRn; clear HRn) | skip); (first | (have HRn := Lib.hid (HRf.out.next hbq); clear HRf; have HRf := HRn; clear HRn) | skip); have hBn := hBc.out.trans (hbq.mono hBc.out.size); clear hBc; have hBc := Lib.hid hBn; clear hBn; clear hbq)
            | (go_at_call 13; (with_reducible refine (HPUT.out _ _ _ _ (HS12.out _ hBc.out).2.1.2).mono ?_); rintro e wq ⟨aq, nq, kq, rfl, hq, hbq⟩; (first | (have HRn := Lib.hid (HPr.out.next hbq); clear HPr; have HPr := HRn; clear HRn) | skip); (first | (have HRn := Lib.hid (HRf.out.next hbq); clear HRf; have HRf := HRn; clear HRn) | skip); have hBn := hBc.out.trans (hbq.mono hBc.out.size); clear hBc; have hBc := Lib.hid hBn; clear hBn; have HPr := Lib.hid hq; clear hq hbq)
            | (go_at_call 14; (with_reducible refine (HRPUT.out _ (HS12.out _ hBc.out).2.1.1).mono ?_); rintro e wq ⟨aq, nq, kq, rfl, hq, hbq⟩; (first | (have HRn := Lib.hid (HPr.out.next hbq); clear HPr; have HPr := HRn; clear HRn) | skip); (first | (have HRn := Lib.hid (HRf.out.next hbq); clear HRf; have HRf := HRn; clear HRn) | skip); have hBn := hBc.out.trans (hbq.mono hBc.out.size); clear hBc; have hBc := Lib.hid hBn; clear hBn; have HRf := Lib.hid hq; clear hq hbq)
            | (go_at_call 15; (with_reducible refine (HRDROP.out _ (HS12.out _ hBc.out).2.1.1).mono ?_); rintro e wq ⟨aq, nq, kq, rfl, hq, hbq⟩; (first | (have HRn := Lib.hid (HPr.out.next hbq); clear HPr; have HPr := HRn; clear HRn) | skip); (first | (have HRn := Lib.hid (HRf.out.next hbq); clear HRf; have HRf := HRn; clear HRn) | skip); have hBn := hBc.out.trans (hbq.mono hBc.out.size); clear hBc; have hBc := Lib.hid hBn; clear hBn; have HRf := Lib.hid hq; clear hq hbq)
            | (go_at_call 16; (with_reducible refine (HFRE.out _ _ _ _ (HS12.out _ hBc.out).2.1.2).mono ?_); rintro e wq ⟨aq, nq, kq, rfl, hq, hbq⟩; (first | (have HRn := Lib.hid (HPr.out.next hbq); clear HPr; have HPr := HRn; clear HRn) | skip); (first | (have HRn := Lib.hid (HRf.out.next hbq); clear HRf; have HRf := HRn; clear HRn) | skip); have hBn := hBc.out.trans (hbq.mono hBc.out.size); clear hBc; have hBc := Lib.hid hBn; clear hBn; have HPr := Lib.hid hq; clear hq hbq)
            | (go_at_call 17; (with_reducible refine (HRFRE.out _ (HS12.out _ hBc.out).2.1.1).mono ?_); rintro e wq ⟨aq, nq, kq, rfl, hq, hbq⟩; (first | (have HRn := Lib.hid (HPr.out.next hbq); clear HPr; have HPr := HRn; clear HRn) | skip); (first | (have HRn := Lib.hid (HRf.out.next hbq); clear HRf; have HRf := HRn; clear HRn) | skip); have hBn := hBc.out.trans (hbq.mono hBc.out.size); clear hBc; have hBc := Lib.hid hBn; clear hBn; have HRf := Lib.hid hq; clear hq hbq)
            | (go_at_call 18; (with_reducible refine (HRS0.out _ (HS12.out _ hBc.out).2.1.1).mono ?_); rintro e wq ⟨aq, nq, kq, rfl, hq, hbq⟩; (first | (have HRn := Lib.hid (HPr.out.next hbq); clear HPr; have HPr := HRn; clear HRn) | skip); (first | (have HRn := Lib.hid (HRf.out.next hbq); clear HRf; have HRf := HRn; clear HRn) | skip); have hBn := hBc.out.trans (hbq.mono hBc.out.size); clear hBc; have hBc := Lib.hid hBn; clear hBn; have HRf := Lib.hid hq; clear hq hbq)
            | (go_at_call 18; (with_reducible refine (HRS1.out _ (HS12.out _ hBc.out).2.1.1).mono ?_); rintro e wq ⟨aq, nq, kq, rfl, hq, hbq⟩; (first | (have HRn := Lib.hid (HPr.out.next hbq); clear HPr; have HPr := HRn; clear HRn) | skip); (first | (have HRn := Lib.hid (HRf.out.next hbq); clear HRf; have HRf := HRn; clear HRn) | skip); have hBn := hBc.out.trans (hbq.mono hBc.out.size); clear hBc; have hBc := Lib.hid hBn; clear hBn; have HRf := Lib.hid hq; clear hq hbq)
            | (go_at_call 19; (with_reducible refine (HELD.out _ _ _ _ (HS12.out _ hBc.out).2.1.2).mono ?_); rintro e wq ⟨rfl, hbq⟩; (first | (have HRn := Lib.hid (HPr.out.next hbq); clear HPr; have HPr := HRn; clear HRn) | skip); (first | (have HRn := Lib.hid (HRf.out.next hbq); clear HRf; have HRf := HRn; clear HRn) | skip); have hBn := hBc.out.trans (hbq.mono hBc.out.size); clear hBc; have hBc := Lib.hid hBn; clear hBn; clear hbq)
            | (go_at_call 20; (with_reducible refine (HRELD.out _ (HS12.out _ hBc.out).2.1.1).mono ?_); rintro e wq ⟨rfl, hbq⟩; (first | (have HRn := Lib.hid (HPr.out.next hbq); clear HPr; have HPr := HRn; clear HRn) | skip); (first | (have HRn := Lib.hid (HRf.out.next hbq); clear HRf; have HRf := HRn; clear HRn) | skip); have hBn := hBc.out.trans (hbq.mono hBc.out.size); clear hBc; have hBc := Lib.hid hBn; clear hBn; clear hbq)
            | (go_at_call 12; (with_reducible refine (told_any _ _ _ _ _ _ _ _ _ _ (HPr.out) (HRf.out) (by have := HLP.out; omega)).mono ?_); rintro e wq ⟨rfl, hbq⟩; have hBn := hBc.out.trans (hbq.mono hBc.out.size); clear hBc; have hBc := Lib.hid hBn; clear hBn hbq; try clear HRf; try clear HPr)
            | (go_at_call 12; (with_reducible refine (told_any _ _ _ _ _ _ _ _ _ _ (HPr.out) (HRf.out) (by have := HLF.out; omega)).mono ?_); rintro e wq ⟨rfl, hbq⟩; have hBn := hBc.out.trans (hbq.mono hBc.out.size); clear hBc; have hBc := Lib.hid hBn; clear hBn hbq; try clear HRf; try clear HPr)
            | (go_at_call 12; (with_reducible refine (told_any _ _ _ _ _ _ _ _ _ _ ((HS12.out _ hBc.out).2.2.1) (HRf.out) (by have := HLD.out; omega)).mono ?_); rintro e wq ⟨rfl, hbq⟩; have hBn := hBc.out.trans (hbq.mono hBc.out.size); clear hBc; have hBc := Lib.hid hBn; clear hBn hbq; try clear HRf; try clear HPr)
            | (go_at_call 12; (with_reducible refine (told_any _ _ _ _ _ _ _ _ _ _ ((HS12.out _ hBc.out).2.2.2.1) (HRf.out) (by have := HL0.out; omega)).mono ?_); rintro e wq ⟨rfl, hbq⟩; have hBn := hBc.out.trans (hbq.mono hBc.out.size); clear hBc; have hBc := Lib.hid hBn; clear hBn hbq; try clear HRf; try clear HPr)
            | (go_at_call 12; (with_reducible refine (told_any _ _ _ _ _ _ _ _ _ _ ((HS12.out _ hBc.out).2.2.2.2) (HRf.out) (by have := HL1.out; omega)).mono ?_); rintro e wq ⟨rfl, hbq⟩; have hBn := hBc.out.trans (hbq.mono hBc.out.size); clear hBc; have hBc := Lib.hid hBn; clear hBn hbq; try clear HRf; try clear HPr)
            | (go_at_call 12; (with_reducible refine (told_any _ _ _ _ _ _ _ _ _ _ ((HS12.out _ hBc.out).2.1.2) ((HS12.out _ hBc.out).2.1.1) (by have := hl; omega)).mono ?_); rintro e wq ⟨rfl, hbq⟩; have hBn := hBc.out.trans (hbq.mono hBc.out.size); clear hBc; have hBc := Lib.hid hBn; clear hBn hbq; try clear HRf; try clear HPr)
            | (go_at_call 5; (with_reducible refine (HAW.out _).mono ?_); rintro e wq ⟨rfl, hbq⟩; (first | (have HRn := Lib.hid (HPr.out.next hbq); clear HPr; have HPr := HRn; clear HRn) | skip); (first | (have HRn := Lib.hid (HRf.out.next hbq); clear HRf; have HRf := HRn; clear HRn) | skip); have hBn := hBc.out.trans (hbq.mono hBc.out.size); clear hBc; have hBc := Lib.hid hBn; clear hBn; clear hbq))
        all_goals (go_wp2_with fail)
        all_goals go_meet
        all_goals exact ⟨rfl, _, rfl, hBc.out⟩
      case rest =>
        obtain ⟨rfl, wf, rfl, hbf⟩ := hcut
        go_wp2
        go_ret
        exact ⟨rfl, HEND.out.trans (hbf.mono HEND.out.size)⟩
  · as_aux_lemma =>
    have HRC := Lib.hid (right_not hR1 hR)
    clear hk1 hx1 hE1 hb1 hR1 hR hE hbig
    go_enter Try.func3, Try.ntmps3
    go_wp2_with (first
      | (go_at_call 4; rw [HW1.out]; (with_reducible refine HRC.out.mono ?_); rintro e w2 ⟨rfl, hb2⟩; have HB2 := Lib.hid hb2; have d2 : w2.cell? ⟨w.heap.size, 2, none⟩ = some (.slice a es.length c) := (hb2.cell (World.block_lt_of_cell? _ _ c2)).trans c2; clear hb2)
      | (go_at_call 5; (with_reducible refine (HAW.out _).mono ?_); rintro e w6 ⟨rfl, hb6⟩; have HB6 := Lib.hid hb6; clear hb6))
    go_ret
    exact ⟨rfl, HB1.out.trans ((HB2.out.trans (HB6.out.mono HB2.out.size)).mono HB1.out.size)⟩
end
set_option maxRecDepth 100000 in
theorem bucketTurns_lifted (os : Os) (started : os.Started) (H : Type) (enc : TypeId × Value → H) :
    ReturnsInHanded {} Try.checked os 3 .any (Rows.bucketTurnsSpec.pre6 enc Try.prog Try.f3 Rows.bucketTurnsRow.domain false) (Rows.bucketTurnsSpec.post enc Try.prog Try.f3 false true false false) :=
  law_lifted 3 Try.f3 Rows.bucketTurnsSpec Try.func3 (by kernel_rfl) rfl rfl
    (fun ds h => by match ds, h with | [_, _, _], _ => rfl) (by kernel_rfl) os started
    (ChangeSpec.witness6 (enc := enc) (C := Try.checked) false ⟨#[], #[.agg #[.int .i64 0, .int .i64 0, .slice none 0 0], .agg #[.int .u64 0, .int .i64 0, .int .i64 0, .int .i64 0], .int .i64 0], []⟩ 8 (by kernel_rfl) (by kernel_rfl) (by kernel_rfl) (by kernel_rfl))
    fun W args ds ps hval hA => by
      rw [Try.params3] at hA hval
      obtain ⟨v0, vs0, d0, ds0, p0, q0, hargs, rfl, rfl, h0, r0⟩ := trodAll_cons hA
      obtain ⟨v1, vs1, d1, ds1, p1, q1, rfl, rfl, rfl, h1, r1⟩ := trodAll_cons r0
      obtain ⟨v2, vs2, d2, ds2, p2, q2, rfl, rfl, rfl, h2, r2⟩ := trodAll_cons r1
      obtain ⟨rfl, rfl, rfl⟩ := trodAll_nil r2
      obtain rfl : args = #[v0, v1, v2] := by cases args; simp_all
      obtain ⟨b0, o0⟩ := hval 0 _ v0 rfl rfl
      obtain ⟨b1, o1⟩ := hval 1 _ v1 rfl rfl
      obtain ⟨b2, o2⟩ := hval 2 _ v2 rfl rfl
      obtain ⟨q0, rfl, hq0⟩ := open_bkt2 o0 h0
      obtain ⟨q1, rfl, hq1⟩ := open_entD o1 h1
      obtain ⟨a2, rfl, rfl, rfl, w2⟩ := open_int Try.underlying3 o2 h2
      exact bucketTurns_walk q0.1 q0.2.1 q0.2.2.1 q0.2.2.2 q1 a2 W hq0.1.1 hq0.1.2.1 hq0.2

/-- The statement. -/
theorem bucketTurns_holds : Rows.BucketTurnsSaid :=
  OpenClaim.holds_of_wide 3 Try.f3 rfl rfl rfl rfl rfl rfl rfl ⟨rfl, rfl, rfl, rfl, rfl⟩ rfl rfl rfl rfl rfl (by kernel_rfl) Try.func3 (by kernel_rfl)
    (of_decide_eq_true (by kernel_rfl)) (by unfold Func.isWrapper; first | (rw [if_pos (by decide +kernel)]; kernel_rfl) | (rw [if_neg (by decide +kernel)]; exact ⟨rfl, rfl⟩))
    (fun os started H enc _ => bucketTurns_lifted os started H enc)
#print axioms bucketTurns_holds
end Go.Proofs.Ytpihncafmjbccaa

/-
  bucket.Unpack.
  Conditions: none.
-/
import Derived.Test.YtlpfjmahinfeoaaBkt15
import Derived.Test.YtlpfjmahinfeoaaBkt13
import Derived.Deep.RegionHeldLaw
import Derived.Deep.AppendLies
namespace Go.Proofs.Ytlpfjmahinfeoaa
open Go.RowKit
attribute [local go_sem] Oper.semAt_some

/-- The entry of some bytes. -/
def entOf (b : List (BitVec 8)) : Ent := ⟨leOf (b.take 8), locR (b.drop 8), locA (b.drop 8), locS (b.drop 8)⟩
/-- The first n entries of a load. -/
def entsOf (l : List (BitVec 8)) (n : Nat) : List Ent := (List.range n).map fun j => entOf (l.drop (10 + 20 * j))
theorem entsOf_len (l : List (BitVec 8)) (n : Nat) : (entsOf l n).length = n := by simp [entsOf]
theorem entsOf_snoc (l : List (BitVec 8)) (n : Nat) : entsOf l (n + 1) = entsOf l n ++ [entOf (l.drop (10 + 20 * n))] := by unfold entsOf; rw [List.range_succ, List.map_append]; rfl
/-- What Unpack answers. -/
def UnpRet (d p : Int) (es : List Ent) (er : Int) (w : World) (e : Ending) (w' : World) : Prop := ∃ a n c, e = .returned (.tuple #[.agg (bktC d p (.slice a n c)), .int .i64 er]) ∧ EntsAt w'.heap.size w' (.slice a n c) es ∧ Below w.heap.size w w'
/-- What Unpack answers of a load as long as it says. -/
def UnpRes (d p : Int) (es : List Ent) (r : Bool) (w : World) (e : Ending) (w' : World) : Prop := (r = true ∧ UnpRet d p es 0 w e w') ∨ (r = false ∧ UnpRet 0 0 [] 5 w e w')
theorem unpack_res (w : World) (g : Nat) (cs : Array Value) (n : Int) (a : Act) (h4 : a.tmps.getD 4 undef = .pointer (some ⟨g, 0, none⟩)) (h5 : a.tmps.getD 5 undef = .int .i64 n) (hg : w.heap[g]? = some (.cells cs 31 (0, 0))) (hs : (Try.prog.info? 31).map (·.size) = some cs.size) :
    (results Try.f12 a.tmps).run Try.prog w = .ok (.tuple #[.agg cs, .int .i64 n]) w := by
  have h4' : a.tmps[4]?.getD undef = .pointer (some ⟨g, 0, none⟩) := by simpa using h4
  have h5' : a.tmps[5]?.getD undef = .int .i64 n := by simpa using h5
  simp [results, Try.results12, h4', h5', asAddr, run_loadVar_row w g 31 31 cs (0, 0) _ hg Try.underlying31 rfl hs]
/-- A reader made of bytes: they lie below what comes then. -/
theorem newRd2_any (u : Value) (bs : List (BitVec 8)) (w : World) (hu : BytesAt w.heap.size w u bs) (hl : bs.length ≤ 1099511627776) : Calls Try.prog 39 #[u] w fun e W => ∃ R, e = .returned (.pointer (some ⟨R, 0, none⟩)) ∧ w.heap.size ≤ R ∧ R < W.heap.size ∧ Rd W.heap.size W R bs ∧ Below w.heap.size w W :=
  (newReader_any u bs w hu hl).mono fun _ _ ⟨R, v, he, hR, hr, hb, _⟩ => ⟨R, he, hR, blk_lt hr.blk, ⟨v, hr.blk, hr.bytes⟩, hb⟩
/-- Between two rounds of Unpack. -/
structure UpAt (w : World) (n₀ R P : Nat) (d p : Int) (l : List (BitVec 8)) (k : Nat) (W : World) : Prop where
  rd : Rd n₀ W R (l.drop (10 + 20 * k))
  res : W.heap[w.heap.size]? = some (.cells (bktC 0 0 (.slice none 0 0)) 31 (0, 0))
  row : ∃ v, W.heap[P]? = some (.cells (bktC d p v) 31 (0, 0)) ∧ W.ownsRow n₀ 53 4 v k (ents (entsOf l k))
  bel : Below w.heap.size w W
  size : n₀ ≤ W.heap.size
theorem up_next {w W9 W10 : World} {n₀ R P k : Nat} {d p : Int} {l : List (BitVec 8)} {v v' : Value} {tmp : Obj} {cs : List Value} (hR : R < n₀) (hPn : n₀ ≤ P) (hPw : P ≠ w.heap.size) (hw2 : w.heap.size ≤ n₀) (hlw : w.heap.size < n₀)
    (hres : W9.heap[w.heap.size]? = some (.cells (bktC 0 0 (.slice none 0 0)) 31 (0, 0))) (hP : W9.heap[P]? = some (.cells (bktC d p v) 31 (0, 0))) (hrow : W9.ownsRow n₀ 53 4 v k (ents (entsOf l k))) (hbel : Below w.heap.size w W9) (hsz : n₀ ≤ W9.heap.size) (hrd : Rd n₀ W9 R (l.drop (10 + 20 * (k + 1))))
    (hgrow : (W9.alloc tmp).grownBy W10 v.ownBlock) (hown : W10.ownsRow n₀ 53 4 v' (k + 1) cs) (hcs : ents (entsOf l (k + 1)) = cs) :
    W10.heap[P]? = some (.cells (bktC d p v) 31 (0, 0)) ∧ UpAt w n₀ R P d p l (k + 1) (W10.setCell ⟨P, 2, none⟩ v') := by
  subst hcs
  have hm : Moves (fun j => v.ownBlock = some j) W9 W10 := (Moves.of_below ((Below.refl W9.heap.size W9).alloc (Nat.le_refl _) tmp)).trans (Moves.of_grown hgrow (fun _ e => e)) (fun _ _ h => h)
  have hS : ∀ j, v.ownBlock = some j → n₀ ≤ j := fun j e => (hrow.lt j e).1
  have hP10 : W10.heap[P]? = some (.cells (bktC d p v) 31 (0, 0)) := (hm.block P (blk_lt hP) (fun e => own_ne hrow hP (by decide) e)).trans hP
  have hms : Moves (fun j => j = P) W10 (W10.setCell ⟨P, 2, none⟩ v') := (Moves.refl (fun j => j = P) W10).setCell (p := ⟨P, 2, none⟩) (fun _ => rfl) v'
  have hz10 : n₀ ≤ W10.heap.size := Nat.le_trans hsz hm.size
  refine ⟨hP10, ⟨(hrd.other hR hsz hm hS).other hR hz10 hms (fun j (e : j = P) => by omega), ?_, ⟨v', ?_, ?_⟩, ?_, Nat.le_trans hz10 hms.size⟩⟩
  · refine (Below.heap_setCell _ _ _ _ (Ne.symm hPw)).trans ((hm.block _ (blk_lt hres) (fun e => ?_)).trans hres)
    have := hS _ e
    omega
  · have := blk_set hP10 2 v'
    simpa [bktC] using this
  · exact hms.row hown (fun j e (ej : j = P) => by subst ej; exact own_ne hown hP10 (by decide) e)
  · exact (hbel.trans (hm.below (fun j e => Nat.le_trans hw2 (hS j e)) hbel.size)).trans (hms.below (fun j (e : j = P) => by omega) (Nat.le_trans hbel.size hm.size))
set_option maxRecDepth 100000 in
set_option maxHeartbeats 8000000 in
theorem unpack_long (l : List (BitVec 8)) (v : Value) (s : Int) (w : World) (d p : Int) (C : Nat) (hv : BytesAt w.heap.size w v l) (hC : C ≤ 255)
    (e1 : wrap64 (U (leOf (l.take 1))) = d) (e2 : wrap64 (U (leOf ((l.drop 1).take 1))) = (C : Int)) (e3 : wrap64 (U (leOf ((l.drop 2).take 8))) = p) (hlen : l.length = 10 + 20 * C) (r : Bool) (hR : r = true ↔ Right14 d p s (entsOf l C)) :
    Calls Try.prog 12 #[v, .int .i64 s] w (UnpRes d p (entsOf l C) r w) := by
  obtain ⟨i0, hi, hz0, hz1, hz2⟩ := info_parts4 infoEnt
  obtain ⟨w1, hw1⟩ : ∃ w1, w.alloc (.cells #[.int .i64 0, .int .i64 0, .slice none 0 0] 31) = w1 := ⟨_, rfl⟩
  have hb1 : Below w.heap.size w w1 := by rw [← hw1]; exact (Below.refl _ w).alloc (Nat.le_refl _) _
  have hg1 : w1.heap[w.heap.size]? = some (.cells (bktC 0 0 (.slice none 0 0)) 31 (0, 0)) := by rw [← hw1]; exact heap_alloc_new _ _
  have HW1 := Lib.hid hw1
  have HB1 := Lib.hid hb1
  have HG1 := Lib.hid hg1
  have HNR := Lib.hid (newRd2_any v l w1 ((hv.below hb1).mono hb1.size) (by omega))
  have HN1 := Lib.hid (fun n₀ R W (h : Rd n₀ W R l) (hn : n₀ ≤ W.heap.size) => (show Calls Try.prog 40 #[.pointer (some ⟨R, 0, none⟩), .int .i64 1] W _ from numberR_any n₀ R 1 l W h hn rfl (by decide) (by decide) (by omega) (by omega)))
  have HN2 := Lib.hid (fun n₀ R W (h : Rd n₀ W R (l.drop 1)) (hn : n₀ ≤ W.heap.size) => (show Calls Try.prog 40 #[.pointer (some ⟨R, 0, none⟩), .int .i64 1] W _ from numberR_any n₀ R 1 _ W h hn rfl (by decide) (by decide) (by rw [List.length_drop]; omega) (by rw [List.length_drop]; omega)))
  have HN3 := Lib.hid (fun n₀ R W (h : Rd n₀ W R ((l.drop 1).drop 1)) (hn : n₀ ≤ W.heap.size) => (show Calls Try.prog 40 #[.pointer (some ⟨R, 0, none⟩), .int .i64 8] W _ from numberR_any n₀ R 8 _ W h hn rfl (by decide) (by decide) (by rw [List.length_drop, List.length_drop]; omega) (by rw [List.length_drop, List.length_drop]; omega)))
  have e3' : wrap64 (U (leOf (((l.drop 1).drop 1).take 8))) = p := by rw [List.drop_drop]; exact e3
  obtain ⟨x1, hx1⟩ : ∃ x, leOf (l.take 1) = x := ⟨_, rfl⟩
  obtain ⟨x2, hx2⟩ : ∃ x, leOf ((l.drop 1).take 1) = x := ⟨_, rfl⟩
  obtain ⟨x3, hx3⟩ : ∃ x, leOf (((l.drop 1).drop 1).take 8) = x := ⟨_, rfl⟩
  rw [hx1] at HN1 e1
  rw [hx2] at HN2 e2
  rw [hx3] at HN3 e3'
  have hd3 : ((l.drop 1).drop 1).drop 8 = l.drop 10 := by rw [List.drop_drop, List.drop_drop]
  rw [hd3] at HN3
  obtain ⟨a, c, rfl, _⟩ := id hv
  have HLB := Lib.hid (fun W => loadBytes_any C (by omega) W)
  have hcl : (C : Int) ≤ 255 := by omega
  have hcmp : ((l.length : Int) != (10 + (C : Int) * 20)) = false := by
    have : (l.length : Int) = 10 + C * 20 := by omega
    rw [this]
    exact bne_self_eq_false _
  have HLEN := Lib.hid hlen
  have HE1 := Lib.hid e1
  have HE2 := Lib.hid e2
  have HE3 := Lib.hid e3'
  clear hw1 hb1 hg1 hv hx1 hx2 hx3 hd3 e3 e1 e2 e3' hlen
  go_enter Try.func12, Try.ntmps12
  go_upto_region 1 with (fail)
  rw [HW1.out]
  go_upto_region 3 with (first
    | (go_at_call 39; (with_reducible refine HNR.out.mono ?_); rintro e w2 ⟨R, rfl, hR1, hR2, hr, hb2⟩; have HRR := Lib.hid (And.intro hR1 (And.intro hR2 hr)); have HB2 := Lib.hid hb2; have HNA := Lib.hid (HN1.out _ _ _ hr (Nat.le_refl _)); clear hR1 hR2 hr hb2)
    | (go_at_call 40; (with_reducible refine HNA.out.mono ?_); rintro e w3 ⟨rfl, hr3, hm3⟩; have HM3 := Lib.hid hm3; have HR3 := Lib.hid hr3; clear hr3 hm3))
  rw [HE1.out]
  obtain ⟨w4, hw4⟩ : ∃ w4, w3.alloc (.cells #[.int .i64 d, .int .i64 0, .slice none 0 0] 31) = w4 := ⟨_, rfl⟩
  change Code.wp _ _ _ _ (w3.alloc (.cells #[.int .i64 d, .int .i64 0, .slice none 0 0] 31))
  rw [hw4]
  obtain ⟨hR1, hR2, _⟩ := HRR.out
  have hn3 : w2.heap.size ≤ w3.heap.size := HM3.out.size
  have hb4 : Below w3.heap.size w3 w4 := by rw [← hw4]; exact (Below.refl _ _).alloc (Nat.le_refl _) _
  have hP4 : w4.heap[w3.heap.size]? = some (.cells #[.int .i64 d, .int .i64 0, .slice none 0 0] 31 (0, 0)) := by rw [← hw4]; exact heap_alloc_new _ _
  have hr4 := HR3.out.below hb4 hn3
  have hn4 : w2.heap.size ≤ w4.heap.size := Nat.le_trans hn3 hb4.size
  have HNB := Lib.hid (HN2.out _ _ _ hr4 hn4)
  obtain ⟨P, hP⟩ : ∃ P, w3.heap.size = P := ⟨_, rfl⟩
  rw [hP] at hP4 ⊢
  have hlt1 : w.heap.size < w1.heap.size := blk_lt HG1.out
  have hres4 : w4.heap[w.heap.size]? = some (.cells (bktC 0 0 (.slice none 0 0)) 31 (0, 0)) :=
    (hb4.block _ (by have := HB2.out.size; omega)).trans ((HM3.out.block _ (by have := HB2.out.size; omega) (by show ¬ w.heap.size = R; omega)).trans ((HB2.out.block _ hlt1).trans HG1.out))
  have hbel4 : Below w.heap.size w w4 := ((HB1.out.trans (HB2.out.mono HB1.out.size)).trans (HM3.out.below (B := w.heap.size) (fun j (hj : j = R) => by omega) (by have := HB2.out.size; omega))).trans (hb4.mono (by have := HB2.out.size; omega))
  have hPn : w2.heap.size ≤ P := by omega
  have HH4 := Lib.hid (And.intro hP4 (And.intro hres4 (And.intro hbel4 (And.intro hn4 (And.intro hPn (And.intro hR1 (And.intro hR2 hlt1)))))))
  clear hR1 hR2 hn3 hb4 hP4 hr4 hn4 hP hlt1 hres4 hbel4 hPn hw4 HNA HNR
  go_upto_region 5 with (first
    | (go_at_call 40; (with_reducible refine HNB.out.mono ?_); rintro e w5 ⟨rfl, hr5, hm5⟩; have HM5 := Lib.hid hm5; have HR5 := Lib.hid hr5; have HND := Lib.hid (HN3.out _ _ _ hr5 (Nat.le_trans HH4.out.2.2.2.1 hm5.size)); clear hr5 hm5)
    | (go_at_call 40; (with_reducible refine HND.out.mono ?_); rintro e w6 ⟨rfl, hr6, hm6⟩; have HM6 := Lib.hid (HM5.out.trans hm6 (fun _ _ h => h)); have HR6 := Lib.hid hr6; have hP6 := (HM6.out.block P (blk_lt HH4.out.1) (by show ¬ P = R; have := HH4.out.2.2.2.2.1; have := HH4.out.2.2.2.2.2.2.1; omega)).trans HH4.out.1; have HP6 := Lib.hid hP6; have cP : w6.cell? ⟨P, 1, none⟩ = some (.int .i64 0) := blk_cell hP6 1; have fP : w6.frozen? ⟨P, 1, none⟩ = false := blk_frozen hP6 1; clear hr6 hm6 hP6))
  rw [HE2.out, HE3.out]
  have HC : Hid (C ≤ 255) := hC
  obtain ⟨h4P, h4r, h4b, h4n, h4Pn, h4R1, h4R2, h4w⟩ := HH4.out
  have hPR : ¬ P = R := by omega
  have hP7 := blk_set HP6.out 1 (.int .i64 p)
  have hwP : w.heap.size ≠ P := by have := HB2.out.size; omega
  have hwR : ¬ w.heap.size = R := by omega
  have hms7 : Moves (fun k => k = P) w6 (w6.setCell ⟨P, 1, none⟩ (.int .i64 p)) := (Moves.refl (fun k => k = P) w6).setCell (p := ⟨P, 1, none⟩) (fun _ => rfl) _
  have hn6 : w2.heap.size ≤ w6.heap.size := Nat.le_trans h4n HM6.out.size
  have hst : UpAt w w2.heap.size R P d p l 0 (w6.setCell ⟨P, 1, none⟩ (.int .i64 p)) := by
    refine ⟨HR6.out.other h4R2 hn6 hms7 (fun k (e : k = P) => by omega), (Below.heap_setCell _ _ _ _ hwP).trans ((HM6.out.block _ (blk_lt h4r) hwR).trans h4r), ⟨.slice none 0 0, by simpa [bktC] using hP7, World.ownsRow_nil _ _ _ _⟩, ?_, Nat.le_trans hn6 hms7.size⟩
    exact (h4b.trans (HM6.out.below (fun j (e : j = R) => by omega) h4b.size)).trans (hms7.below (fun j (e : j = P) => by have := HB2.out.size; omega) (by have := HB2.out.size; omega))
  obtain ⟨w7, hw7⟩ : ∃ w7, w6.setCell ⟨P, 1, none⟩ (.int .i64 p) = w7 := ⟨_, rfl⟩
  rw [hw7] at hst ⊢
  have HST := Lib.hid hst
  have HLW : Hid (w.heap.size < w2.heap.size) := by unfold Hid; omega
  have HWR : Hid (¬ w.heap.size = R) := hwR
  have HRW : Hid (w.heap.size ≤ R) := by unfold Hid; omega
  have HPW := Lib.hid (And.intro h4R2 (And.intro h4Pn (And.intro (Ne.symm hwP) (And.intro hPR (Nat.le_trans (Nat.le_of_lt h4w) HB2.out.size)))))
  clear h4P h4r h4b h4n h4Pn h4R1 h4R2 h4w hPR hP7 hwP hwR hms7 hn6 hst hw7 cP fP HNB HND HM5 HM6 HR5 HR6 HP6 HH4
  go_wp2_with (go_at_call 29; (with_reducible refine (HLB.out _).mono ?_); rintro e w' ⟨rfl, rfl⟩)
  go_loopw [30] (fun i wr => ∃ k : Nat, k ≤ C ∧ i = .int .i64 k ∧ UpAt w w2.heap.size R P d p l k wr) (fun i _ => C - (intOf i).toNat)
  case atStart => exact ⟨0, Nat.zero_le _, rfl, HST.out⟩
  case round =>
    obtain ⟨k, hk, rfl, hU⟩ := hrel
    by_cases hlt : k < C
    · obtain ⟨hR2, hPn, hPw, hPR, hw2⟩ := HPW.out
      have hll := HLEN.out
      obtain ⟨x, hx⟩ : ∃ x, entOf (l.drop (10 + 20 * k)) = x := ⟨_, rfl⟩
      have hx0 : leOf ((l.drop (10 + 20 * k)).take 8) = x.hash := by rw [← hx]; rfl
      have hr1 : locR ((l.drop (10 + 20 * k)).drop 8) = x.reg := by rw [← hx]; rfl
      have hr2 : locA ((l.drop (10 + 20 * k)).drop 8) = x.at_ := by rw [← hx]; rfl
      have hr3 : locS ((l.drop (10 + 20 * k)).drop 8) = x.size := by rw [← hx]; rfl
      have HN8 := Lib.hid (show Calls Try.prog 40 #[.pointer (some ⟨R, 0, none⟩), .int .i64 8] wr _ from numberR_any w2.heap.size R 8 _ wr hU.rd hU.size rfl (by decide) (by decide) (by rw [List.length_drop]; omega) (by rw [List.length_drop]; omega))
      rw [hx0] at HN8
      have HLO := Lib.hid (fun W (h : Rd w2.heap.size W R ((l.drop (10 + 20 * k)).drop 8)) (hn : w2.heap.size ≤ W.heap.size) => locRead_any h hR2 hn (by rw [List.length_drop, List.length_drop]; omega) (by rw [List.length_drop, List.length_drop]; omega))
      rw [hr1, hr2, hr3] at HLO
      have HX : Hid (ents (entsOf l (k + 1)) = ents (entsOf l k) ++ x.cells.toList) := by
        unfold Hid
        rw [entsOf_snoc, ents_snoc, hx]
      have HDR : Hid (((l.drop (10 + 20 * k)).drop 8).drop 12 = l.drop (10 + 20 * (k + 1))) := by
        unfold Hid
        rw [List.drop_drop, List.drop_drop]
        congr 1
      have HUU := Lib.hid hU
      have HK := Lib.hid hlt
      have kc : (k : Int) < C := by omega
      clear hx hx0 hr1 hr2 hr3 hU hlt hk hll hR2 hPn hPw hPR hw2
      go_upto_region 10 with (go_at_call 40; (with_reducible refine HN8.out.mono ?_); rintro e w8 ⟨rfl, hr8, hm8⟩; have HR8 := Lib.hid hr8; have HM8 := Lib.hid hm8; clear hr8 hm8)
      obtain ⟨hR2, hPn, hPw, hPR, hw2⟩ := HPW.out
      obtain ⟨vv, hPb, hrw⟩ := HUU.out.row
      obtain ⟨b, mm, rfl⟩ := owns_slice hrw
      have hP8 := (HM8.out.block P (blk_lt hPb) (fun e => hPR e)).trans hPb
      have hrow8 := HM8.out.row hrw (fun j e (ej : j = R) => by have := (hrw.lt j e).1; omega)
      have hlw : w.heap.size < w2.heap.size := HLW.out
      have hres8 := (HM8.out.block _ (blk_lt HUU.out.res) (fun (e : w.heap.size = R) => HWR.out e)).trans HUU.out.res
      have hbel8 : Below w.heap.size w w8 := HUU.out.bel.trans (HM8.out.below (fun j (e : j = R) => by have := HRW.out; omega) HUU.out.bel.size)
      have hn8 : w2.heap.size ≤ w8.heap.size := Nat.le_trans HUU.out.size HM8.out.size
      have HS : Hid (∀ W, Moves (fun j => j = R) w8 W → W.cell? ⟨P, 2, none⟩ = some (.slice b k mm) ∧ W.heap[P]? = some (.cells (bktC d p (.slice b k mm)) 31 (0, 0)) ∧ W.ownsRow w2.heap.size 53 4 (.slice b k mm) k (ents (entsOf l k)) ∧ W.heap[w.heap.size]? = some (.cells (bktC 0 0 (.slice none 0 0)) 31 (0, 0)) ∧ Below w.heap.size w W ∧ w2.heap.size ≤ W.heap.size) := fun W hm => by
        have h1 := (hm.block P (blk_lt hP8) (fun e => hPR e)).trans hP8
        exact ⟨blk_cell h1 2, h1, hm.row hrow8 (fun j e (ej : j = R) => by have := (hrow8.lt j e).1; omega), (hm.block _ (blk_lt hres8) (fun (e : w.heap.size = R) => HWR.out e)).trans hres8, hbel8.trans (hm.below (fun j (e : j = R) => by have := HRW.out; omega) hbel8.size), Nat.le_trans hn8 hm.size⟩
      have hM0 := Lib.hid ((Moves.refl (fun j => j = R) w8).drew)
      have hrd8 : Rd w2.heap.size w8.drew R ((l.drop (10 + 20 * k)).drop 8) := HR8.out.below ((Below.refl _ _).drew) hn8
      have HLOC := Lib.hid (HLO.out w8.drew hrd8 hn8)
      have s0 : w8.drew.cell? ⟨P, 2, none⟩ = some (.slice b k mm) := (HS.out _ hM0.out).1
      have hkk := HK.out
      have hC2 := HC.out
      clear hPb hrw hP8 hrow8 hres8 hbel8 hn8 hrd8 hR2 hPn hPw hPR hw2 hlw HLO
      go_region_law
        (first
          | (go_simp; go_at_call 41; (with_reducible refine HLOC.out.mono ?_); rintro e w9 ⟨rfl, hr9, hm9⟩; have HR9 := Lib.hid hr9; have hM1 := Lib.hid (hM0.out.trans hm9 (fun _ _ h => h)); clear hM0; have hM0 := hM1; clear hM1 hr9 hm9; have s1 := (HS.out _ hM0.out).1; have s2 : (w9.alloc (.cells #[.int .u64 (U x.hash), .int .i64 x.reg, .int .i64 x.at_, .int .i64 x.size] 53)).cell? ⟨P, 2, none⟩ = some (.slice b k mm) := (HS.out _ (hM0.out.alloc (.cells #[.int .u64 (U x.hash), .int .i64 x.reg, .int .i64 x.at_, .int .i64 x.size] 53))).1)
          | (refine step_append_lies _ (by rfl) _ _ 29 (by rfl) w2.heap.size 53 i0 _ 4 32 Try.underlying29 hi hz0 hz1 hz2 rfl (by decide) (.slice b k mm) k (ents (entsOf l k)) (by rfl) (((HS.out _ hM0.out).2.2.1).alloc _) ⟨_, 0, none⟩ 1 1 x.cells.toList (by rfl) (by rfl) (ent_new _ x) x.one (by decide) (by unfold maxLen; omega) (by omega) (by have := (HS.out _ hM0.out).2.2.2.2.2; simp; omega) _ rfl ?_; intro g2 cap2 w10 hown hgrow hat hlt10; have hu := up_next HPW.out.1 HPW.out.2.1 HPW.out.2.2.1 HPW.out.2.2.2.2 HLW.out (HS.out _ hM0.out).2.2.2.1 (HS.out _ hM0.out).2.1 (HS.out _ hM0.out).2.2.1 (HS.out _ hM0.out).2.2.2.2.1 (HS.out _ hM0.out).2.2.2.2.2 (by have := HR9.out; rw [HDR.out] at this; exact this) hgrow hown HX.out; have c8 : w10.cell? ⟨P, 2, none⟩ = some (.slice b k mm) := blk_cell hu.1 2; have f8 := blk_frozen hu.1 2; have HNEW := Lib.hid hu.2; clear hown hgrow hu hat hlt10))
      all_goals
        go_wp2
        go_roundw
        case rel => exact ⟨k + 1, HK.out, by go_num, HNEW.out⟩
        case measure => simp [intOf]; omega
    · obtain rfl : k = C := by omega
      obtain ⟨vv, hPb, hrw⟩ := hU.row
      obtain ⟨b, mm, rfl⟩ := owns_slice hrw
      have hEE : EntsAt wr.heap.size wr (.slice b k mm) (entsOf l k) := EntsAt.of_owns hrw (entsOf_len l k).symm
      have HRT := Lib.hid ((right_any d p s b k mm (entsOf l k) wr hEE).mono (R' := fun e W' => e = .returned (.bool r) ∧ Below wr.heap.size wr W') (fun e W' ⟨r', he, hr, hb⟩ => by
        have : r' = r := Bool.eq_iff_iff.2 (hr.trans hR.symm)
        rw [← this]
        exact ⟨he, hb⟩))
      have HEE := Lib.hid hEE
      have HPB := Lib.hid hPb
      have HRS := Lib.hid hU.res
      have HBL := Lib.hid hU.bel
      have c0 : wr.cell? ⟨P, 0, none⟩ = some (.int .i64 d) := blk_cell hPb 0
      have c1 : wr.cell? ⟨P, 1, none⟩ = some (.int .i64 p) := blk_cell hPb 1
      have c2 : wr.cell? ⟨P, 2, none⟩ = some (.slice b k mm) := blk_cell hPb 2
      clear hPb hrw hEE hU hlt hk hR
      cases r with
      | true =>
        go_upto_region 14 with (go_at_call 9; (with_reducible refine HRT.out.mono ?_); rintro e w9 ⟨rfl, hb9⟩; have HB9 := Lib.hid hb9; have hP9 := (hb9.block _ (blk_lt HPB.out)).trans HPB.out; have q0 : w9.cell? ⟨P, 0, none⟩ = some (.int .i64 d) := blk_cell hP9 0; have q1 : w9.cell? ⟨P, 1, none⟩ = some (.int .i64 p) := blk_cell hP9 1; have q2 : w9.cell? ⟨P, 2, none⟩ = some (.slice b k mm) := blk_cell hP9 2; have HZ9 := Lib.hid ((hb9.block _ (blk_lt HRS.out)).trans HRS.out); clear hb9 hP9)
        have hend := setRow_heap w9 w.heap.size _ (bktC d p (.slice b k mm)) _ _ HZ9.out
        have hfin : UnpRes d p (entsOf l k) true w (.returned (.tuple #[.agg (bktC d p (.slice b k mm)), .int .i64 0])) (w9.setRow w.heap.size (bktC d p (.slice b k mm))) := .inl ⟨rfl, _, _, _, rfl, ((HEE.out.next HB9.out).setRow HZ9.out (bkt_no _ _ _ _ _) _).tight, below_setRow (HBL.out.trans (HB9.out.mono HBL.out.size)) (Nat.le_refl _) _⟩
        have HE := Lib.hid (And.intro hend hfin)
        clear hend hfin
        go_wp2_with (refine wpList_store_row (o := ⟨none, _, _, _, _, _⟩) rfl 31 (.tmp 4) (.tmp 49) rfl w.heap.size (bktC d p (.slice b k mm)) rfl rfl 31 (bktC 0 0 (.slice none 0 0)) HZ9.out (bkt_sz _ _ _) rfl ?_ ?_; exact bkt_one _ _ _ _ _)
        exact bodyPost_ret (unpack_res _ w.heap.size _ 0 _ rfl rfl HE.out.1 (bkt_sz _ _ _)) rfl HE.out.2
      | false =>
        go_upto_region 13 with (go_at_call 9; (with_reducible refine HRT.out.mono ?_); rintro e w9 ⟨rfl, hb9⟩; have HB9 := Lib.hid hb9; have HZ9 := Lib.hid ((hb9.block _ (blk_lt HRS.out)).trans HRS.out); clear hb9)
        have hend := setRow_heap w9 w.heap.size _ (bktC 0 0 (.slice none 0 0)) _ _ HZ9.out
        have hfin : UnpRes d p (entsOf l k) false w (.returned (.tuple #[.agg (bktC 0 0 (.slice none 0 0)), .int .i64 5])) (w9.setRow w.heap.size (bktC 0 0 (.slice none 0 0))) := .inr ⟨rfl, _, _, _, rfl, EntsAt.nil _ _ _ _, below_setRow (HBL.out.trans (HB9.out.mono HBL.out.size)) (Nat.le_refl _) _⟩
        have HE := Lib.hid (And.intro hend hfin)
        clear hend hfin
        go_wp2_with (refine wpList_store_row (o := ⟨none, _, _, _, _, _⟩) rfl 31 (.tmp 4) (.tmp 48) rfl w.heap.size (bktC 0 0 (.slice none 0 0)) rfl rfl 31 (bktC 0 0 (.slice none 0 0)) HZ9.out (bkt_sz _ _ _) rfl ?_ ?_; exact bkt_one _ _ _ _ _)
        exact bodyPost_ret (unpack_res _ w.heap.size _ 5 _ rfl rfl HE.out.1 (bkt_sz _ _ _)) rfl HE.out.2
set_option maxRecDepth 100000 in
set_option maxHeartbeats 8000000 in
theorem unpack_bad (l : List (BitVec 8)) (v : Value) (s : Int) (w : World) (C : Nat) (hv : BytesAt w.heap.size w v l) (hl : l.length ≤ 100000) (hC : C ≤ 255)
    (e2 : wrap64 (U (rdN (rdL l 1) 1)) = (C : Int)) (hlen : l.length ≠ 10 + 20 * C) :
    Calls Try.prog 12 #[v, .int .i64 s] w (UnpRet 0 0 [] 5 w) := by
  obtain ⟨w1, hw1⟩ : ∃ w1, w.alloc (.cells #[.int .i64 0, .int .i64 0, .slice none 0 0] 31) = w1 := ⟨_, rfl⟩
  have hb1 : Below w.heap.size w w1 := by rw [← hw1]; exact (Below.refl _ w).alloc (Nat.le_refl _) _
  have hg1 : w1.heap[w.heap.size]? = some (.cells (bktC 0 0 (.slice none 0 0)) 31 (0, 0)) := by rw [← hw1]; exact heap_alloc_new _ _
  have HW1 := Lib.hid hw1
  have HB1 := Lib.hid hb1
  have HG1 := Lib.hid hg1
  have HNR := Lib.hid (newRd_any v l w1 ((hv.below hb1).mono hb1.size) (by omega))
  have hle : ∀ (x : List (BitVec 8)) k, (rdL x k).length ≤ x.length := fun x k => by
    unfold rdL leftB
    split
    · simp
    · simp
  have hle1 := hle l 1
  have hle2 := hle (rdL l 1) 1
  have HN1 := Lib.hid (fun R W b (h : RdAt w1 R l b W) => h.numM 1 (by omega))
  have HN2 := Lib.hid (fun R W b (h : RdAt w1 R (rdL l 1) b W) => h.numM 1 (by omega))
  have HN3 := Lib.hid (fun R W b (h : RdAt w1 R (rdL (rdL l 1) 1) b W) => h.numM 8 (by omega))
  obtain ⟨x1, hx1⟩ : ∃ x, rdN l 1 = x := ⟨_, rfl⟩
  obtain ⟨x2, hx2⟩ : ∃ x, rdN (rdL l 1) 1 = x := ⟨_, rfl⟩
  obtain ⟨x3, hx3⟩ : ∃ x, rdN (rdL (rdL l 1) 1) 8 = x := ⟨_, rfl⟩
  rw [hx1] at HN1
  rw [hx2] at HN2 e2
  rw [hx3] at HN3
  obtain ⟨a, c, rfl, _⟩ := id hv
  have HLB := Lib.hid (fun W => loadBytes_any C (by omega) W)
  have hcmp : ((l.length : Int) != (10 + (C : Int) * 20)) = true := by
    rw [bne_iff_ne]
    omega
  have HE2 := Lib.hid e2
  clear hw1 hb1 hg1 hv hx1 hx2 hx3 e2 hlen hle hle1 hle2 hl hC
  go_enter Try.func12, Try.ntmps12
  go_upto_region 1 with (fail)
  rw [HW1.out]
  go_upto_region 3 with (first
    | (go_at_call 39; (with_reducible refine HNR.out.mono ?_); rintro e w2 ⟨R, rfl, hr⟩; have HR2 := Lib.hid hr; have HNA := Lib.hid (HN1.out _ _ _ hr); clear hr)
    | (go_at_call 40; (with_reducible refine HNA.out.mono ?_); rintro e w3 ⟨rfl, hr3, hm3⟩; have HM3 := Lib.hid hm3; have HR3 := Lib.hid hr3; clear hr3 hm3))
  obtain ⟨D, hD⟩ : ∃ D, wrap64 (U x1) = D := ⟨_, rfl⟩
  rw [hD]
  obtain ⟨w4, hw4⟩ : ∃ w4, w3.alloc (.cells #[.int .i64 D, .int .i64 0, .slice none 0 0] 31) = w4 := ⟨_, rfl⟩
  change Code.wp _ _ _ _ (w3.alloc (.cells #[.int .i64 D, .int .i64 0, .slice none 0 0] 31))
  rw [hw4]
  have hb4 : Below w3.heap.size w3 w4 := by rw [← hw4]; exact (Below.refl _ _).alloc (Nat.le_refl _) _
  have hP4 : w4.heap[w3.heap.size]? = some (.cells #[.int .i64 D, .int .i64 0, .slice none 0 0] 31 (0, 0)) := by rw [← hw4]; exact heap_alloc_new _ _
  have hr4 := HR3.out.behind hb4
  have HNB := Lib.hid (HN2.out _ _ _ hr4)
  have hne : ¬ w3.heap.size = R := by
    obtain ⟨q, h1, _⟩ := HR3.out
    have := blk_lt h1.blk
    omega
  obtain ⟨P, hP⟩ : ∃ P, w3.heap.size = P := ⟨_, rfl⟩
  have hP1 : w1.heap.size ≤ P := by have := HR3.out.size.size; omega
  rw [hP] at hP4 hne ⊢
  have HP4 := Lib.hid (And.intro hP4 (And.intro hne hP1))
  clear hb4 hP4 hr4 hne hP hw4 hD HNA HNR hP1
  go_upto_region 5 with (first
    | (go_at_call 40; (with_reducible refine HNB.out.mono ?_); rintro e w5 ⟨rfl, hr5, hm5⟩; have HM5 := Lib.hid hm5; have HND := Lib.hid (HN3.out _ _ _ hr5); clear hr5 hm5)
    | (go_at_call 40; (with_reducible refine HND.out.mono ?_); rintro e w6 ⟨rfl, hr6, hm6⟩; have HM6 := Lib.hid (HM5.out.trans hm6 (fun _ _ h => h)); have HR6 := Lib.hid hr6; have hP6 := (HM6.out.block P (blk_lt HP4.out.1) (fun e => HP4.out.2.1 e)).trans HP4.out.1; have cP : w6.cell? ⟨P, 1, none⟩ = some (.int .i64 0) := blk_cell hP6 1; have fP : w6.frozen? ⟨P, 1, none⟩ = false := blk_frozen hP6 1; clear hr6 hm6 hP6))
  rw [HE2.out]
  have hbel6 : Below w.heap.size w (w6.setCell ⟨P, 1, none⟩ (.int .i64 (wrap64 (U x3)))) := (HB1.out.trans (HR6.out.size.mono HB1.out.size)).setCell (p := ⟨P, 1, none⟩) (by have := HP4.out.2.2; have := HB1.out.size; show w.heap.size ≤ P; omega) _
  have hres6 : (w6.setCell ⟨P, 1, none⟩ (.int .i64 (wrap64 (U x3)))).heap[w.heap.size]? = some (.cells (bktC 0 0 (.slice none 0 0)) 31 (0, 0)) :=
    (Below.heap_setCell _ _ _ _ (by have := HP4.out.2.2; have := blk_lt HG1.out; show w.heap.size ≠ P; omega)).trans ((HR6.out.size.block _ (blk_lt HG1.out)).trans HG1.out)
  obtain ⟨Pf, hPf⟩ : ∃ Pf, wrap64 (U x3) = Pf := ⟨_, rfl⟩
  rw [hPf] at hbel6 hres6 ⊢
  obtain ⟨w7, hw7⟩ : ∃ w7, w6.setCell ⟨P, 1, none⟩ (.int .i64 Pf) = w7 := ⟨_, rfl⟩
  rw [hw7] at hbel6 hres6 ⊢
  have hend := setRow_heap w7 w.heap.size _ (bktC 0 0 (.slice none 0 0)) _ _ hres6
  have hfin : UnpRet 0 0 [] 5 w (.returned (.tuple #[.agg (bktC 0 0 (.slice none 0 0)), .int .i64 5])) (w7.setRow w.heap.size (bktC 0 0 (.slice none 0 0))) := ⟨_, _, _, rfl, EntsAt.nil _ _ _ _, below_setRow hbel6 (Nat.le_refl _) _⟩
  have HE := Lib.hid (And.intro hend hfin)
  have HZ := Lib.hid hres6
  clear hend hfin hbel6 hres6 hPf hw7 cP fP HNB HND
  go_wp2_with (first
    | (go_at_call 29; (with_reducible refine (HLB.out _).mono ?_); rintro e w' ⟨rfl, rfl⟩)
    | (refine wpList_store_row (o := ⟨none, _, _, _, _, _⟩) rfl 31 (.tmp 4) (.tmp 28) rfl w.heap.size (bktC 0 0 (.slice none 0 0)) rfl rfl 31 (bktC 0 0 (.slice none 0 0)) HZ.out (bkt_sz _ _ _) rfl ?_ ?_; exact bkt_one _ _ _ _ _))
  exact bodyPost_ret (unpack_res _ w.heap.size _ 5 _ rfl rfl HE.out.1 (bkt_sz _ _ _)) rfl HE.out.2
end Go.Proofs.Ytlpfjmahinfeoaa

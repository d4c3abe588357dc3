/-
  sgraffitoref14.Put, where no entry has the hash.
  Conditions: none.
-/
import Derived.Test.YtpihncafmjbccaaJB
import Derived.Deep.RegionHeldLaw
import Derived.Deep.RegionHeld3
namespace Go.Proofs.Ytpihncafmjbccaa
open Go.RowKit
attribute [local go_sem] Oper.semAt_some

theorem OwnD.below {n₀ : Nat} {W W' : World} {v : Value} {l : List Ent} (h : OwnD n₀ W v l) (hb : Below W.heap.size W W') : OwnD n₀ W' v l := (Moves.of_below (S := fun _ => False) hb).row h (fun _ _ f => f)
theorem oneD (w : World) (y : Ent) : EntsAt (w.alloc (.cells #[.int .u64 (U y.hash), .int .i64 y.reg, .int .i64 y.at_, .int .i64 y.size] 27)).heap.size (w.alloc (.cells #[.int .u64 (U y.hash), .int .i64 y.reg, .int .i64 y.at_, .int .i64 y.size] 27)) (.slice (some ⟨w.heap.size, 0, none⟩) [y].length 1) [y] := by
  have h := World.ownsRow_lit (base := w.heap.size) (e := 27) (size := 4) w #[.int .u64 (U y.hash), .int .i64 y.reg, .int .i64 y.at_, .int .i64 y.size] 1 (Nat.le_refl _) (by unfold maxLen; omega) rfl
  have h2 : (w.alloc (.cells #[.int .u64 (U y.hash), .int .i64 y.reg, .int .i64 y.at_, .int .i64 y.size] 27)).ownsRow w.heap.size 27 4 (.slice (some ⟨w.heap.size, 0, none⟩) 1 1) 1 (ents [y]) := h
  exact EntsAt.of_owns h2 rfl
theorem EntsAt.grown {W W' : World} {b m c : Nat} {l : List Ent} {row : Option Nat} (h : EntsAt W.heap.size W (.slice (some ⟨b, 0, none⟩) m c) l) (hg : W.grownBy W' row) (hne : row ≠ some b) : EntsAt W'.heap.size W' (.slice (some ⟨b, 0, none⟩) m c) l := by
  obtain ⟨a', c', e, hc, h⟩ := h
  cases e
  refine ⟨_, _, rfl, hc, ?_⟩
  rcases h with h | ⟨g, off, ha, hlt, h⟩
  · exact .inl h
  · cases ha
    refine .inr ⟨b, 0, rfl, Nat.lt_of_lt_of_le hlt hg.size, fun i hi => ?_⟩
    have hb : W'.heap[b]? = W.heap[b]? := hg.block b hlt (fun e => hne e.symm)
    obtain ⟨h0, h1, h2, h3⟩ := h i hi
    exact ⟨(World.cell?_of_block hb).trans h0, (World.cell?_of_block hb).trans h1, (World.cell?_of_block hb).trans h2, (World.cell?_of_block hb).trans h3⟩
theorem fin_put {w w3 w10 : World} {d p : Int} {a a10 : Option Addr} {n c n10 q10 n₀ : Nat} {l : List Ent} (hB : w10.heap[w.heap.size]? = some (.cells #[.int .i64 d, .int .i64 p, .slice a n c] 24 (0, 0))) (hR : w10.heap[w.heap.size + 2]? = some (.cells (bktC 0 0 (.slice none 0 0)) 24 (0, 0)))
    (h3 : Below w.heap.size w w3) (h10 : Below w3.heap.size w3 w10) (hn : n10 = l.length) (hO : w10.ownsRow n₀ 27 4 (.slice a10 n10 q10) n10 (ents l)) :
    (w10.setCell ⟨w.heap.size, 2, none⟩ (.slice a10 n10 q10)).heap[w.heap.size + 2]? = some (.cells (bktC 0 0 (.slice none 0 0)) 24 (0, 0)) ∧
    ((w10.setCell ⟨w.heap.size, 2, none⟩ (.slice a10 n10 q10)).setRow (w.heap.size + 2) (bktC d p (.slice a10 n10 q10))).heap[w.heap.size + 2]? = some (.cells (bktC d p (.slice a10 n10 q10)) 24 (0, 0)) ∧
    EntsAt ((w10.setCell ⟨w.heap.size, 2, none⟩ (.slice a10 n10 q10)).setRow (w.heap.size + 2) (bktC d p (.slice a10 n10 q10))).heap.size ((w10.setCell ⟨w.heap.size, 2, none⟩ (.slice a10 n10 q10)).setRow (w.heap.size + 2) (bktC d p (.slice a10 n10 q10))) (.slice a10 n10 q10) l ∧
    Below w.heap.size w ((w10.setCell ⟨w.heap.size, 2, none⟩ (.slice a10 n10 q10)).setRow (w.heap.size + 2) (bktC d p (.slice a10 n10 q10))) := by
  have hM : Moves (fun i => i = w.heap.size) w10 (w10.setCell ⟨w.heap.size, 2, none⟩ (.slice a10 n10 q10)) := (Moves.refl (fun i => i = w.heap.size) w10).setCell (p := ⟨w.heap.size, 2, none⟩) (fun _ => rfl) _
  have hR2 := (hM.block _ (blk_lt hR) (by omega)).trans hR
  have hE := EntsAt.of_owns (hM.row hO (fun j e => fun ej => own_ne hO hB (by decide) (by rw [e, ej]))) hn
  have hb := (h3.trans (h10.mono h3.size)).setCell (p := ⟨w.heap.size, 2, none⟩) (Nat.le_refl _) (.slice a10 n10 q10)
  exact ⟨hR2, setRow_heap _ _ _ _ _ _ hR2, (hE.setRow hR2 (bkt_no _ _ _ _ _) _).tight, below_setRow hb (by omega) _⟩
theorem v5_some {W W' : World} {t : TypeId} {c : Array Value} {n₀ n g0 : Nat} {v : Value} {l : List Ent} (hn : n = l.length) (h : W'.ownsRow n₀ 27 4 v n (ents l)) (hb : v.ownBlock = (Value.slice (some ⟨g0, 0, none⟩) 0 0).ownBlock ∨ v.ownBlock = some (W.alloc (.cells c t)).heap.size) : ∃ g q, v = .slice (some ⟨g, 0, none⟩) l.length q ∧ l.length ≤ q := by
  subst hn
  rcases h.2 with ⟨rfl, _⟩ | ⟨g, cap, cur, rfl, _, _, hc, _⟩
  · rcases hb with hb | hb
    · cases hb
    · cases hb
  · exact ⟨g, cap, rfl, hc⟩
set_option maxRecDepth 100000 in
set_option maxHeartbeats 8000000 in
theorem refPut_ins (d p : Int) (y : Ent) (a : Option Addr) (m c : Nat) (es : List Ent) (w : World) (hE : EntsAt w.heap.size w (.slice a m c) es) (hlen : es.length ≤ 10000) (hnil : NilS (.slice a m c)) (hno : NoHash y.hash es es.length) (k : Nat) (hk : k ≤ es.length)
    (h1 : ∀ i, i < k → U (es[i]?.getD default).hash < U y.hash) (h2 : k < es.length → ¬ U (es[k]?.getD default).hash < U y.hash) :
    Calls Try.prog 14 #[.agg #[.int .i64 d, .int .i64 p, .slice a m c], .agg y.cells] w (BktRet d p (es.take k ++ [y] ++ es.drop k) w) := by
  obtain ⟨i0, hi, hz0', hz1, hz2⟩ := info_parts4 infoEntD
  obtain ⟨_, _, e0, _⟩ := hE.slice
  cases e0
  obtain ⟨w3, hw3⟩ : ∃ w3, (((w.alloc (.cells #[.int .i64 d, .int .i64 p, .slice a es.length c] 24)).alloc (.cells y.cells 27)).alloc (.cells #[.int .i64 0, .int .i64 0, .slice none 0 0] 24)) = w3 := ⟨_, rfl⟩
  have hb3 : Below w.heap.size w w3 := by rw [← hw3]; exact (((Below.refl _ w).alloc (Nat.le_refl _) _).alloc (by simp) _).alloc (by simp; omega) _
  have k0 : w3.heap[w.heap.size]? = some (.cells #[.int .i64 d, .int .i64 p, .slice a es.length c] 24 (0, 0)) := by rw [← hw3]; exact blk_alloc (blk_alloc (heap_alloc_new _ _) _) _
  have k1 : w3.heap[w.heap.size + 1]? = some (.cells y.cells 27 (0, 0)) := by
    rw [← hw3]
    have := heap_alloc_new (w.alloc (.cells #[.int .i64 d, .int .i64 p, .slice a es.length c] 24)) (.cells y.cells 27)
    rw [World.size_alloc] at this
    exact blk_alloc this _
  have k2 : w3.heap[w.heap.size + 2]? = some (.cells (bktC 0 0 (.slice none 0 0)) 24 (0, 0)) := by
    rw [← hw3]
    have := heap_alloc_new ((w.alloc (.cells #[.int .i64 d, .int .i64 p, .slice a es.length c] 24)).alloc (.cells y.cells 27)) (.cells #[.int .i64 0, .int .i64 0, .slice none 0 0] 24)
    rw [World.size_alloc, World.size_alloc] at this
    exact this
  have hE3 := hE.next hb3
  have HO0 := Lib.hid (OwnD.empty w3 w3.heap.size (Nat.le_refl _))
  have HA0 : Hid (Below w3.heap.size w3 (w3.alloc (.cells #[] 27))) := (Below.refl _ _).alloc (Nat.le_refl _) _
  have HE3 := Lib.hid hE3
  have HF := Lib.hid (fun W (hW : Below w3.heap.size w3 W) => (refFind_any d p y.hash a es.length c es W (hE3.next hW) (by omega)).mono (R' := fun e W' => e = .returned (.int .i64 (-1)) ∧ Below W.heap.size W W') (fun e W' ⟨hb, hr⟩ => by
    rcases hr with ⟨i, hi, he, _⟩ | ⟨_, he⟩
    · exact absurd he (hno i hi)
    · exact ⟨he, hb⟩))
  have HW3 := Lib.hid hw3
  have HB3 := Lib.hid hb3
  have HL := Lib.hid hlen
  have HNIL := Lib.hid hnil
  have HH1 := Lib.hid h1
  have HH2 := Lib.hid h2
  have HK := Lib.hid hk
  have HC : Hid (∀ W, Below w3.heap.size w3 W → (W.cell? ⟨w.heap.size, 0, none⟩ = some (.int .i64 d) ∧ W.cell? ⟨w.heap.size, 1, none⟩ = some (.int .i64 p) ∧ W.cell? ⟨w.heap.size, 2, none⟩ = some (.slice a es.length c)) ∧ (W.cell? ⟨w.heap.size + 1, 0, none⟩ = some (.int .u64 (U y.hash)) ∧ W.cell? ⟨w.heap.size + 1, 1, none⟩ = some (.int .i64 y.reg) ∧ W.cell? ⟨w.heap.size + 1, 2, none⟩ = some (.int .i64 y.at_) ∧ W.cell? ⟨w.heap.size + 1, 3, none⟩ = some (.int .i64 y.size)) ∧ W.heap[w.heap.size]? = some (.cells #[.int .i64 d, .int .i64 p, .slice a es.length c] 24 (0, 0)) ∧ W.heap[w.heap.size + 2]? = some (.cells (bktC 0 0 (.slice none 0 0)) 24 (0, 0))) := fun W hW => by
    have h0 := (hW.block _ (blk_lt k0)).trans k0
    have h1 := (hW.block _ (blk_lt k1)).trans k1
    exact ⟨⟨blk_cell h0 0, blk_cell h0 1, blk_cell h0 2⟩, ⟨blk_cell h1 0, blk_cell h1 1, blk_cell h1 2, blk_cell h1 3⟩, h0, (hW.block _ (blk_lt k2)).trans k2⟩
  obtain ⟨⟨q0, q1, q2⟩, ⟨q3, _⟩, _⟩ := HC.out (w3.alloc (.cells #[] 27)) HA0.out
  clear hw3 hb3 k0 k1 k2 hE hlen hnil h1 h2 hk hE3 hno
  unfold Ent.cells at HW3 ⊢
  go_enter Try.func14, Try.ntmps14
  go_upto_region 1 with (fail)
  rw [HW3.out]
  clear HW3
  go_upto_region 2 with (at_builtin; (refine wpList_append_entsD rfl (.tmp 9) (.tmp 11) rfl rfl w3.heap.size i0 hi hz0' hz1 hz2 _ rfl [] HO0.out _ rfl _ es (HE3.out.below HA0.out) HNIL.out (by have := HL.out; simp; omega) HA0.out.size ?_); intro v5 w5 n5 hn hown hg hbk5; have HV5 := Lib.hid (v5_some (l := es) (by simpa using hn.out) (by simpa using hown) hbk5); have HO5 := Lib.hid (OwnD.app (l := es) (by simpa using hn.out) (by simpa using hown)); have HB5 := Lib.hid (HA0.out.grown hg HA0.out.size (fun k e => (HO0.out.lt k e).1)); clear hn hown hg hbk5)
  obtain ⟨⟨p0, p1, p2⟩, _⟩ := HC.out w5 HB5.out
  clear q0 q1 q2 q3
  go_upto_region 7 with (go_at_call 8; (with_reducible refine (HF.out _ HB5.out).mono ?_); rintro e w6 ⟨rfl, hb6⟩; have HO6 := Lib.hid (HO5.out.below hb6); have HB6 := Lib.hid (HB5.out.trans (hb6.mono HB5.out.size)); clear hb6)
  obtain ⟨g, q5, rfl, hq5⟩ := HV5.out
  have hE6 := EntsAt.of_owns HO6.out rfl
  have HE6 := Lib.hid (fun W (hW : Below w6.heap.size w6 W) => hE6.next hW)
  have HQ5 := Lib.hid hq5
  have hq6 : (es.length : Int) ≤ q5 := by omega
  have hl9 : (es.length : Int) ≤ 10000 := by have := HL.out; omega
  clear HV5
  clear p0 p1 p2 hE6 HF
  go_wp2
  go_loopw [7] (fun i wr => ∃ j : Nat, j ≤ k ∧ i = .int .i64 j ∧ Below w6.heap.size w6 wr) (fun i _ => k - (intOf i).toNat)
  case atStart => exact ⟨0, Nat.zero_le _, rfl, Below.refl _ _⟩
  case round =>
    obtain ⟨j, hj, rfl, hB⟩ := hrel
    have HBW := Lib.hid hB
    have HJ := Lib.hid hj
    have hjl : (j : Int) ≤ es.length := by have := HK.out; omega
    have HBD := Lib.hid (HB6.out.trans (hB.mono HB6.out.size)).drew
    obtain ⟨_, ⟨f3, _⟩, _⟩ := HC.out wr.drew HBD.out
    clear hB hj
    have HY : Hid (∀ W, Below w6.heap.size w6 W → W.cell? ⟨w.heap.size + 1, 0, none⟩ = some (.int .u64 (U y.hash)) ∧ W.cell? ⟨w.heap.size + 1, 1, none⟩ = some (.int .i64 y.reg) ∧ W.cell? ⟨w.heap.size + 1, 2, none⟩ = some (.int .i64 y.at_) ∧ W.cell? ⟨w.heap.size + 1, 3, none⟩ = some (.int .i64 y.size)) := fun W hW => (HC.out W (HB6.out.trans (hW.mono HB6.out.size))).2.1
    by_cases hlt : j < es.length
    · obtain ⟨g', off', hgo, hg, e4⟩ := (HE6.out wr HBW.out).get hlt
      cases hgo
      have e5 := e4.1
      rw [Nat.zero_add] at e5
      obtain ⟨x, hx⟩ : ∃ x, (es[j]?.getD default).hash = x := ⟨_, rfl⟩
      rw [hx] at e5
      have x0 : wr.drew.cell? ⟨g, j * 4, none⟩ = some (.int .u64 (U x)) := e5
      have k1 : (j : Int) < es.length := by omega
      have HS := Lib.hid (And.intro f3 x0)
      by_cases hjk : j < k
      · have hb := HH1.out j hjk
        rw [hx] at hb
        have HLT := Lib.hid hjk
        clear e4 e5 hlt hg x0 f3 hjk hx
        go_upto_region 8 with (fail)
        go_region_held3 (fun (W : World) => W.cell? ⟨w.heap.size + 1, 0, none⟩ = some (.int .u64 (U y.hash)) ∧ W.cell? ⟨g, j * 4, none⟩ = some (.int .u64 (U x)))
          (exact HS.out)
          (fail)
        all_goals
          go_wp2
          go_roundw
          case rel => exact ⟨j + 1, HLT.out, by go_num, HBW.out.drew⟩
          case measure => have h9 : j < k := HLT.out; simp [intOf]; omega
      · obtain rfl : j = k := by have := HJ.out; omega
        have hb := HH2.out hlt
        rw [hx] at hb
        have HJL := Lib.hid (Nat.le_of_lt hlt)
        have hjq : (j : Int) ≤ q5 := by omega
        have hjq2 : j ≤ q5 := by omega
        have hq7 : ¬ (q5 = j) := by omega
        clear e4 e5 hlt hg x0 f3 hjk hx
        go_upto_region 8 with (fail)
        go_region_held3 (fun (W : World) => W.cell? ⟨w.heap.size + 1, 0, none⟩ = some (.int .u64 (U y.hash)) ∧ W.cell? ⟨g, j * 4, none⟩ = some (.int .u64 (U x)))
          (exact HS.out)
          (fail)
        all_goals
          go_upto_region 10 with (fail)
          have hX0 : Below w6.heap.size w6 wr.drew.drew := HBW.out.drew.drew
          have hz0 : w6.heap.size ≤ wr.drew.drew.heap.size := hX0.size
          have HX := Lib.hid hX0
          have HXE := Lib.hid (hX0.alloc hz0 (.cells #[] 27))
          have HXA := Lib.hid (hX0.alloc hz0 (.cells #[.int .u64 (U y.hash), .int .i64 y.reg, .int .i64 y.at_, .int .i64 y.size] 27))
          have HXEA := Lib.hid ((hX0.alloc hz0 (.cells #[] 27)).alloc (Nat.le_trans hz0 (by simp)) (.cells #[.int .u64 (U y.hash), .int .i64 y.reg, .int .i64 y.at_, .int .i64 y.size] 27))
          have HXAE := Lib.hid ((hX0.alloc hz0 (.cells #[.int .u64 (U y.hash), .int .i64 y.reg, .int .i64 y.at_, .int .i64 y.size] 27)).alloc (Nat.le_trans hz0 (by simp)) (.cells #[] 27))
          have HOE2 : Hid (OwnD w6.heap.size ((wr.drew.drew.alloc (.cells #[] 27)).alloc (.cells #[.int .u64 (U y.hash), .int .i64 y.reg, .int .i64 y.at_, .int .i64 y.size] 27)) (.slice (some ⟨wr.heap.size, 0, none⟩) 0 0) []) := (OwnD.empty wr.drew.drew w6.heap.size hz0).alloc _
          have hsE : (wr.drew.drew.alloc (.cells #[] 27)).heap.size = wr.heap.size + 1 := World.size_alloc _ _
          have hsA : (wr.drew.drew.alloc (.cells #[.int .u64 (U y.hash), .int .i64 y.reg, .int .i64 y.at_, .int .i64 y.size] 27)).heap.size = wr.heap.size + 1 := World.size_alloc _ _
          have hoe3 := OwnD.empty (wr.drew.drew.alloc (.cells #[.int .u64 (U y.hash), .int .i64 y.reg, .int .i64 y.at_, .int .i64 y.size] 27)) w6.heap.size (Nat.le_trans hz0 (by simp))
          have hye2 := oneD (wr.drew.drew.alloc (.cells #[] 27)) y
          have hye3 := (oneD wr.drew.drew y).next ((Below.refl _ _).alloc (Nat.le_refl _) (.cells #[] 27))
          rw [hsA] at hoe3
          rw [hsE] at hye2
          have HOE3 := Lib.hid hoe3
          have HYE2 := Lib.hid hye2
          have HYE3 : Hid (EntsAt _ _ (.slice (some ⟨wr.heap.size, 0, none⟩) [y].length 1) [y]) := hye3
          have HNE2 : Hid ((Value.slice (some ⟨wr.heap.size, 0, none⟩) 0 0).ownBlock ≠ some (wr.heap.size + 1)) := fun e => by
            have h9 := Option.some.inj (show some wr.heap.size = some (wr.heap.size + 1) from e)
            omega
          have HNE3 : Hid ((Value.slice (some ⟨wr.heap.size + 1, 0, none⟩) 0 0).ownBlock ≠ some wr.heap.size) := fun e => by
            have h9 := Option.some.inj (show some (wr.heap.size + 1) = some wr.heap.size from e)
            omega
          clear hsE hsA hoe3 hye2 hye3
          go_region_held3 (fun (W : World) => W.cell? ⟨w.heap.size + 1, 0, none⟩ = some (.int .u64 (U y.hash)) ∧ W.cell? ⟨w.heap.size + 1, 1, none⟩ = some (.int .i64 y.reg) ∧ W.cell? ⟨w.heap.size + 1, 2, none⟩ = some (.int .i64 y.at_) ∧ W.cell? ⟨w.heap.size + 1, 3, none⟩ = some (.int .i64 y.size))
            (first | exact HY.out _ HX.out | exact HY.out _ HXE.out | exact HY.out _ HXA.out | exact HY.out _ HXEA.out | exact HY.out _ HXAE.out | exact HY.out _ HB8.out | exact HY.out _ HB8A.out | exact HY.out _ HB9.out)
            (first
              | (refine step_append_entsD rfl (.tmp 42) (.tmp 45) rfl rfl w6.heap.size i0 hi hz0' hz1 hz2 _ rfl [] (OwnD.empty wr.drew.drew w6.heap.size HX.out.size) _ rfl _ (es.take j) ((HE6.out _ HXE.out).take HJL.out) (fun _ _ h => by cases h) (by rw [List.length_take]; have := HL.out; simp; omega) HXE.out.size ?_; intro v8 w8 n8 hn hown hg8 _; have HO8 := Lib.hid (OwnD.app (l := es.take j) (by simpa using hn.out) (by simpa using hown)); have HB8 := Lib.hid (HXE.out.grown hg8 HXE.out.size (fun k e => ((OwnD.empty wr.drew.drew w6.heap.size HX.out.size).lt k e).1)); have HB8A := Lib.hid (HB8.out.alloc HB8.out.size (.cells #[.int .u64 (U y.hash), .int .i64 y.reg, .int .i64 y.at_, .int .i64 y.size] 27)); have HO8A := Lib.hid (show OwnD w6.heap.size (w8.alloc (.cells #[.int .u64 (U y.hash), .int .i64 y.reg, .int .i64 y.at_, .int .i64 y.size] 27)) v8 (es.take j) from HO8.out.alloc _); have HYE := Lib.hid (oneD w8 y); clear hn hown hg8)
              | (refine step_append_entsD rfl (.tmp 42) (.tmp 45) rfl rfl w6.heap.size i0 hi hz0' hz1 hz2 _ rfl [] HOE2.out _ rfl _ (es.take j) ((HE6.out _ HXEA.out).take HJL.out) (fun _ _ h => by cases h) (by rw [List.length_take]; have := HL.out; simp; omega) HXEA.out.size ?_; intro v8 w8 n8 hn hown hg8 _; have HO8A := Lib.hid (OwnD.app (l := es.take j) (by simpa using hn.out) (by simpa using hown)); have HB8A := Lib.hid (HXEA.out.grown hg8 HXEA.out.size (fun k e => (HOE2.out.lt k e).1)); have HYE := Lib.hid (EntsAt.grown HYE2.out hg8 HNE2.out); clear hn hown hg8)
              | (refine step_append_entsD rfl (.tmp 42) (.tmp 45) rfl rfl w6.heap.size i0 hi hz0' hz1 hz2 _ rfl [] HOE3.out _ rfl _ (es.take j) ((HE6.out _ HXAE.out).take HJL.out) (fun _ _ h => by cases h) (by rw [List.length_take]; have := HL.out; simp; omega) HXAE.out.size ?_; intro v8 w8 n8 hn hown hg8 _; have HO8A := Lib.hid (OwnD.app (l := es.take j) (by simpa using hn.out) (by simpa using hown)); have HB8A := Lib.hid (HXAE.out.grown hg8 HXAE.out.size (fun k e => (HOE3.out.lt k e).1)); have HYE := Lib.hid (EntsAt.grown HYE3.out hg8 HNE3.out); clear hn hown hg8)
              | (refine step_append_entsD rfl (.tmp 46) (.tmp 48) rfl rfl w6.heap.size i0 hi hz0' hz1 hz2 _ rfl (es.take j) HO8A.out _ rfl _ [y] HYE.out (fun _ _ h => by cases h) (by rw [List.length_take]; have := HL.out; simp; omega) HB8A.out.size ?_; intro v9 w9 n9 hn hown hg9 _; have HO9 := Lib.hid (OwnD.app (l := es.take j ++ [y]) (by simpa using hn.out) hown); have HB9 := Lib.hid (HB8A.out.grown hg9 HB8A.out.size (fun k e => (HO8A.out.lt k e).1)); clear hn hown hg9))
          all_goals
            have hdrop := (HE6.out w9 HB9.out).drop HJL.out
            rw [Nat.zero_add] at hdrop
            have hdl : (es.drop j).length = es.length - j := List.length_drop
            have HDROP := Lib.hid hdrop
            have HDL := Lib.hid hdl
            have hjn : j ≤ es.length := HJL.out
            clear hdrop hdl
            go_wp2_with (first
              | (at_builtin; (refine wpList_append_entsD rfl (.tmp 50) (.tmp 53) rfl rfl w6.heap.size i0 hi hz0' hz1 hz2 _ rfl (es.take j ++ [y]) HO9.out _ rfl _ (es.drop j) HDROP.out (fun _ _ h => by cases h) (by rw [HDL.out, List.length_append, List.length_take]; have := HL.out; simp; omega) HB9.out.size ?_); intro v10 w10 n10 hn hown hg10 _; obtain ⟨a10, q10, rfl⟩ := owns_slice hown; have hb10 := HB9.out.grown hg10 HB9.out.size (fun k e => (HO9.out.lt k e).1); obtain ⟨⟨u0, u1, u2⟩, _, hB10, hR10⟩ := HC.out w10 (HB6.out.trans (hb10.mono HB6.out.size)); have u3 := blk_frozen hB10 2; have HFIN := Lib.hid (fin_put hB10 hR10 HB3.out (HB6.out.trans (hb10.mono HB6.out.size)) hn.out hown); clear hn hown hg10 hb10 hB10 hR10)
              | (refine wpList_store_row (o := ⟨none, _, _, _, _, _⟩) rfl 24 (.tmp 4) (.tmp 56) rfl (w.heap.size + 2) (bktC d p (.slice a10 n10 q10)) rfl rfl 24 (bktC 0 0 (.slice none 0 0)) HFIN.out.1 (bktD_sz _ _ _) rfl ?_ ?_; exact bkt_one _ _ _ _ _))
            exact bodyPost_ret (results_cell_row rfl _ _ (w.heap.size + 2) 24 (bktC d p (.slice a10 n10 q10)) (0, 0) _ rfl HFIN.out.2.1 Try.underlying24 rfl (bktD_sz _ _ _)) rfl ⟨_, _, _, rfl, HFIN.out.2.2.1, HFIN.out.2.2.2⟩
    · obtain rfl : j = k := by have := HJ.out; have := HK.out; omega
      obtain rfl : j = es.length := by have := HK.out; omega
      have HJL := Lib.hid (Nat.le_refl es.length)
      have F3 := Lib.hid f3
      clear hlt f3 hjl
      have hd1 : decide ((es.length : Int) < (es.length : Int)) = false := decide_eq_false (Int.lt_irrefl _)
      by_cases hq7 : q5 = es.length
      · have HQ7 := Lib.hid hq7
        subst hq7
        go_upto_region 8 with (fail)
        go_region
        all_goals
          go_upto_region 10 with (fail)
          have hX0 : Below w6.heap.size w6 wr.drew.drew := HBW.out.drew.drew
          have hz0 : w6.heap.size ≤ wr.drew.drew.heap.size := hX0.size
          have HX := Lib.hid hX0
          have HXE := Lib.hid (hX0.alloc hz0 (.cells #[] 27))
          have HXA := Lib.hid (hX0.alloc hz0 (.cells #[.int .u64 (U y.hash), .int .i64 y.reg, .int .i64 y.at_, .int .i64 y.size] 27))
          have HXEA := Lib.hid ((hX0.alloc hz0 (.cells #[] 27)).alloc (Nat.le_trans hz0 (by simp)) (.cells #[.int .u64 (U y.hash), .int .i64 y.reg, .int .i64 y.at_, .int .i64 y.size] 27))
          have HXAE := Lib.hid ((hX0.alloc hz0 (.cells #[.int .u64 (U y.hash), .int .i64 y.reg, .int .i64 y.at_, .int .i64 y.size] 27)).alloc (Nat.le_trans hz0 (by simp)) (.cells #[] 27))
          have HOE2 : Hid (OwnD w6.heap.size ((wr.drew.drew.alloc (.cells #[] 27)).alloc (.cells #[.int .u64 (U y.hash), .int .i64 y.reg, .int .i64 y.at_, .int .i64 y.size] 27)) (.slice (some ⟨wr.heap.size, 0, none⟩) 0 0) []) := (OwnD.empty wr.drew.drew w6.heap.size hz0).alloc _
          have hsE : (wr.drew.drew.alloc (.cells #[] 27)).heap.size = wr.heap.size + 1 := World.size_alloc _ _
          have hsA : (wr.drew.drew.alloc (.cells #[.int .u64 (U y.hash), .int .i64 y.reg, .int .i64 y.at_, .int .i64 y.size] 27)).heap.size = wr.heap.size + 1 := World.size_alloc _ _
          have hoe3 := OwnD.empty (wr.drew.drew.alloc (.cells #[.int .u64 (U y.hash), .int .i64 y.reg, .int .i64 y.at_, .int .i64 y.size] 27)) w6.heap.size (Nat.le_trans hz0 (by simp))
          have hye2 := oneD (wr.drew.drew.alloc (.cells #[] 27)) y
          have hye3 := (oneD wr.drew.drew y).next ((Below.refl _ _).alloc (Nat.le_refl _) (.cells #[] 27))
          rw [hsA] at hoe3
          rw [hsE] at hye2
          have HOE3 := Lib.hid hoe3
          have HYE2 := Lib.hid hye2
          have HYE3 : Hid (EntsAt _ _ (.slice (some ⟨wr.heap.size, 0, none⟩) [y].length 1) [y]) := hye3
          have HNE2 : Hid ((Value.slice (some ⟨wr.heap.size, 0, none⟩) 0 0).ownBlock ≠ some (wr.heap.size + 1)) := fun e => by
            have h9 := Option.some.inj (show some wr.heap.size = some (wr.heap.size + 1) from e)
            omega
          have HNE3 : Hid ((Value.slice (some ⟨wr.heap.size + 1, 0, none⟩) 0 0).ownBlock ≠ some wr.heap.size) := fun e => by
            have h9 := Option.some.inj (show some (wr.heap.size + 1) = some wr.heap.size from e)
            omega
          clear hsE hsA hoe3 hye2 hye3
          go_region_held3 (fun (W : World) => W.cell? ⟨w.heap.size + 1, 0, none⟩ = some (.int .u64 (U y.hash)) ∧ W.cell? ⟨w.heap.size + 1, 1, none⟩ = some (.int .i64 y.reg) ∧ W.cell? ⟨w.heap.size + 1, 2, none⟩ = some (.int .i64 y.at_) ∧ W.cell? ⟨w.heap.size + 1, 3, none⟩ = some (.int .i64 y.size))
            (first | exact HY.out _ HX.out | exact HY.out _ HXE.out | exact HY.out _ HXA.out | exact HY.out _ HXEA.out | exact HY.out _ HXAE.out | exact HY.out _ HB8.out | exact HY.out _ HB8A.out | exact HY.out _ HB9.out)
            (first
              | (refine step_append_entsD rfl (.tmp 42) (.tmp 45) rfl rfl w6.heap.size i0 hi hz0' hz1 hz2 _ rfl [] (OwnD.empty wr.drew.drew w6.heap.size HX.out.size) _ rfl _ (es.take es.length) ((HE6.out _ HXE.out).take HJL.out) (fun _ _ h => by cases h) (by rw [List.length_take]; have := HL.out; simp; omega) HXE.out.size ?_; intro v8 w8 n8 hn hown hg8 _; have HO8 := Lib.hid (OwnD.app (l := es.take es.length) (by simpa using hn.out) (by simpa using hown)); have HB8 := Lib.hid (HXE.out.grown hg8 HXE.out.size (fun k e => ((OwnD.empty wr.drew.drew w6.heap.size HX.out.size).lt k e).1)); have HB8A := Lib.hid (HB8.out.alloc HB8.out.size (.cells #[.int .u64 (U y.hash), .int .i64 y.reg, .int .i64 y.at_, .int .i64 y.size] 27)); have HO8A := Lib.hid (show OwnD w6.heap.size (w8.alloc (.cells #[.int .u64 (U y.hash), .int .i64 y.reg, .int .i64 y.at_, .int .i64 y.size] 27)) v8 (es.take es.length) from HO8.out.alloc _); have HYE := Lib.hid (oneD w8 y); clear hn hown hg8)
              | (refine step_append_entsD rfl (.tmp 42) (.tmp 45) rfl rfl w6.heap.size i0 hi hz0' hz1 hz2 _ rfl [] HOE2.out _ rfl _ (es.take es.length) ((HE6.out _ HXEA.out).take HJL.out) (fun _ _ h => by cases h) (by rw [List.length_take]; have := HL.out; simp; omega) HXEA.out.size ?_; intro v8 w8 n8 hn hown hg8 _; have HO8A := Lib.hid (OwnD.app (l := es.take es.length) (by simpa using hn.out) (by simpa using hown)); have HB8A := Lib.hid (HXEA.out.grown hg8 HXEA.out.size (fun k e => (HOE2.out.lt k e).1)); have HYE := Lib.hid (EntsAt.grown HYE2.out hg8 HNE2.out); clear hn hown hg8)
              | (refine step_append_entsD rfl (.tmp 42) (.tmp 45) rfl rfl w6.heap.size i0 hi hz0' hz1 hz2 _ rfl [] HOE3.out _ rfl _ (es.take es.length) ((HE6.out _ HXAE.out).take HJL.out) (fun _ _ h => by cases h) (by rw [List.length_take]; have := HL.out; simp; omega) HXAE.out.size ?_; intro v8 w8 n8 hn hown hg8 _; have HO8A := Lib.hid (OwnD.app (l := es.take es.length) (by simpa using hn.out) (by simpa using hown)); have HB8A := Lib.hid (HXAE.out.grown hg8 HXAE.out.size (fun k e => (HOE3.out.lt k e).1)); have HYE := Lib.hid (EntsAt.grown HYE3.out hg8 HNE3.out); clear hn hown hg8)
              | (refine step_append_entsD rfl (.tmp 46) (.tmp 48) rfl rfl w6.heap.size i0 hi hz0' hz1 hz2 _ rfl (es.take es.length) HO8A.out _ rfl _ [y] HYE.out (fun _ _ h => by cases h) (by rw [List.length_take]; have := HL.out; simp; omega) HB8A.out.size ?_; intro v9 w9 n9 hn hown hg9 _; have HO9 := Lib.hid (OwnD.app (l := es.take es.length ++ [y]) (by simpa using hn.out) hown); have HB9 := Lib.hid (HB8A.out.grown hg9 HB8A.out.size (fun k e => (HO8A.out.lt k e).1)); clear hn hown hg9))
          all_goals
            have HDROP : Hid (∀ ad cp, EntsAt w9.heap.size w9 (.slice ad 0 cp) (es.drop es.length)) := fun ad cp => by
              rw [List.drop_length]
              exact EntsAt.nil _ _ _ _
            have HDL : Hid ((es.drop es.length).length = 0) := by
              unfold Hid
              rw [List.drop_length]
              rfl
            go_wp2_with (first
              | (at_builtin; (refine wpList_append_entsD rfl (.tmp 50) (.tmp 53) rfl rfl w6.heap.size i0 hi hz0' hz1 hz2 _ rfl (es.take es.length ++ [y]) HO9.out _ rfl _ (es.drop es.length) (HDROP.out _ _) (fun _ _ h => by cases h) (by rw [HDL.out, List.length_append, List.length_take]; have := HL.out; simp; omega) HB9.out.size ?_); intro v10 w10 n10 hn hown hg10 _; obtain ⟨a10, q10, rfl⟩ := owns_slice hown; have hb10 := HB9.out.grown hg10 HB9.out.size (fun k e => (HO9.out.lt k e).1); obtain ⟨⟨u0, u1, u2⟩, _, hB10, hR10⟩ := HC.out w10 (HB6.out.trans (hb10.mono HB6.out.size)); have u3 := blk_frozen hB10 2; have HFIN := Lib.hid (fin_put hB10 hR10 HB3.out (HB6.out.trans (hb10.mono HB6.out.size)) hn.out hown); clear hn hown hg10 hb10 hB10 hR10)
              | (refine wpList_store_row (o := ⟨none, _, _, _, _, _⟩) rfl 24 (.tmp 4) (.tmp 56) rfl (w.heap.size + 2) (bktC d p (.slice a10 n10 q10)) rfl rfl 24 (bktC 0 0 (.slice none 0 0)) HFIN.out.1 (bktD_sz _ _ _) rfl ?_ ?_; exact bkt_one _ _ _ _ _))
            exact bodyPost_ret (results_cell_row rfl _ _ (w.heap.size + 2) 24 (bktC d p (.slice a10 n10 q10)) (0, 0) _ rfl HFIN.out.2.1 Try.underlying24 rfl (bktD_sz _ _ _)) rfl ⟨_, _, _, rfl, by have h9 := HFIN.out.2.2.1; first | exact h9 | (rw [List.take_length, List.drop_length, List.append_nil] at h9; exact h9), HFIN.out.2.2.2⟩
      · have hqq : es.length ≤ q5 := HQ5.out
        go_upto_region 8 with (fail)
        go_region
        all_goals
          go_upto_region 10 with (fail)
          have hX0 : Below w6.heap.size w6 wr.drew.drew := HBW.out.drew.drew
          have hz0 : w6.heap.size ≤ wr.drew.drew.heap.size := hX0.size
          have HX := Lib.hid hX0
          have HXE := Lib.hid (hX0.alloc hz0 (.cells #[] 27))
          have HXA := Lib.hid (hX0.alloc hz0 (.cells #[.int .u64 (U y.hash), .int .i64 y.reg, .int .i64 y.at_, .int .i64 y.size] 27))
          have HXEA := Lib.hid ((hX0.alloc hz0 (.cells #[] 27)).alloc (Nat.le_trans hz0 (by simp)) (.cells #[.int .u64 (U y.hash), .int .i64 y.reg, .int .i64 y.at_, .int .i64 y.size] 27))
          have HXAE := Lib.hid ((hX0.alloc hz0 (.cells #[.int .u64 (U y.hash), .int .i64 y.reg, .int .i64 y.at_, .int .i64 y.size] 27)).alloc (Nat.le_trans hz0 (by simp)) (.cells #[] 27))
          have HOE2 : Hid (OwnD w6.heap.size ((wr.drew.drew.alloc (.cells #[] 27)).alloc (.cells #[.int .u64 (U y.hash), .int .i64 y.reg, .int .i64 y.at_, .int .i64 y.size] 27)) (.slice (some ⟨wr.heap.size, 0, none⟩) 0 0) []) := (OwnD.empty wr.drew.drew w6.heap.size hz0).alloc _
          have hsE : (wr.drew.drew.alloc (.cells #[] 27)).heap.size = wr.heap.size + 1 := World.size_alloc _ _
          have hsA : (wr.drew.drew.alloc (.cells #[.int .u64 (U y.hash), .int .i64 y.reg, .int .i64 y.at_, .int .i64 y.size] 27)).heap.size = wr.heap.size + 1 := World.size_alloc _ _
          have hoe3 := OwnD.empty (wr.drew.drew.alloc (.cells #[.int .u64 (U y.hash), .int .i64 y.reg, .int .i64 y.at_, .int .i64 y.size] 27)) w6.heap.size (Nat.le_trans hz0 (by simp))
          have hye2 := oneD (wr.drew.drew.alloc (.cells #[] 27)) y
          have hye3 := (oneD wr.drew.drew y).next ((Below.refl _ _).alloc (Nat.le_refl _) (.cells #[] 27))
          rw [hsA] at hoe3
          rw [hsE] at hye2
          have HOE3 := Lib.hid hoe3
          have HYE2 := Lib.hid hye2
          have HYE3 : Hid (EntsAt _ _ (.slice (some ⟨wr.heap.size, 0, none⟩) [y].length 1) [y]) := hye3
          have HNE2 : Hid ((Value.slice (some ⟨wr.heap.size, 0, none⟩) 0 0).ownBlock ≠ some (wr.heap.size + 1)) := fun e => by
            have h9 := Option.some.inj (show some wr.heap.size = some (wr.heap.size + 1) from e)
            omega
          have HNE3 : Hid ((Value.slice (some ⟨wr.heap.size + 1, 0, none⟩) 0 0).ownBlock ≠ some wr.heap.size) := fun e => by
            have h9 := Option.some.inj (show some (wr.heap.size + 1) = some wr.heap.size from e)
            omega
          clear hsE hsA hoe3 hye2 hye3
          go_region_held3 (fun (W : World) => W.cell? ⟨w.heap.size + 1, 0, none⟩ = some (.int .u64 (U y.hash)) ∧ W.cell? ⟨w.heap.size + 1, 1, none⟩ = some (.int .i64 y.reg) ∧ W.cell? ⟨w.heap.size + 1, 2, none⟩ = some (.int .i64 y.at_) ∧ W.cell? ⟨w.heap.size + 1, 3, none⟩ = some (.int .i64 y.size))
            (first | exact HY.out _ HX.out | exact HY.out _ HXE.out | exact HY.out _ HXA.out | exact HY.out _ HXEA.out | exact HY.out _ HXAE.out | exact HY.out _ HB8.out | exact HY.out _ HB8A.out | exact HY.out _ HB9.out)
            (first
              | (refine step_append_entsD rfl (.tmp 42) (.tmp 45) rfl rfl w6.heap.size i0 hi hz0' hz1 hz2 _ rfl [] (OwnD.empty wr.drew.drew w6.heap.size HX.out.size) _ rfl _ (es.take es.length) ((HE6.out _ HXE.out).take HJL.out) (fun _ _ h => by cases h) (by rw [List.length_take]; have := HL.out; simp; omega) HXE.out.size ?_; intro v8 w8 n8 hn hown hg8 _; have HO8 := Lib.hid (OwnD.app (l := es.take es.length) (by simpa using hn.out) (by simpa using hown)); have HB8 := Lib.hid (HXE.out.grown hg8 HXE.out.size (fun k e => ((OwnD.empty wr.drew.drew w6.heap.size HX.out.size).lt k e).1)); have HB8A := Lib.hid (HB8.out.alloc HB8.out.size (.cells #[.int .u64 (U y.hash), .int .i64 y.reg, .int .i64 y.at_, .int .i64 y.size] 27)); have HO8A := Lib.hid (show OwnD w6.heap.size (w8.alloc (.cells #[.int .u64 (U y.hash), .int .i64 y.reg, .int .i64 y.at_, .int .i64 y.size] 27)) v8 (es.take es.length) from HO8.out.alloc _); have HYE := Lib.hid (oneD w8 y); clear hn hown hg8)
              | (refine step_append_entsD rfl (.tmp 42) (.tmp 45) rfl rfl w6.heap.size i0 hi hz0' hz1 hz2 _ rfl [] HOE2.out _ rfl _ (es.take es.length) ((HE6.out _ HXEA.out).take HJL.out) (fun _ _ h => by cases h) (by rw [List.length_take]; have := HL.out; simp; omega) HXEA.out.size ?_; intro v8 w8 n8 hn hown hg8 _; have HO8A := Lib.hid (OwnD.app (l := es.take es.length) (by simpa using hn.out) (by simpa using hown)); have HB8A := Lib.hid (HXEA.out.grown hg8 HXEA.out.size (fun k e => (HOE2.out.lt k e).1)); have HYE := Lib.hid (EntsAt.grown HYE2.out hg8 HNE2.out); clear hn hown hg8)
              | (refine step_append_entsD rfl (.tmp 42) (.tmp 45) rfl rfl w6.heap.size i0 hi hz0' hz1 hz2 _ rfl [] HOE3.out _ rfl _ (es.take es.length) ((HE6.out _ HXAE.out).take HJL.out) (fun _ _ h => by cases h) (by rw [List.length_take]; have := HL.out; simp; omega) HXAE.out.size ?_; intro v8 w8 n8 hn hown hg8 _; have HO8A := Lib.hid (OwnD.app (l := es.take es.length) (by simpa using hn.out) (by simpa using hown)); have HB8A := Lib.hid (HXAE.out.grown hg8 HXAE.out.size (fun k e => (HOE3.out.lt k e).1)); have HYE := Lib.hid (EntsAt.grown HYE3.out hg8 HNE3.out); clear hn hown hg8)
              | (refine step_append_entsD rfl (.tmp 46) (.tmp 48) rfl rfl w6.heap.size i0 hi hz0' hz1 hz2 _ rfl (es.take es.length) HO8A.out _ rfl _ [y] HYE.out (fun _ _ h => by cases h) (by rw [List.length_take]; have := HL.out; simp; omega) HB8A.out.size ?_; intro v9 w9 n9 hn hown hg9 _; have HO9 := Lib.hid (OwnD.app (l := es.take es.length ++ [y]) (by simpa using hn.out) hown); have HB9 := Lib.hid (HB8A.out.grown hg9 HB8A.out.size (fun k e => (HO8A.out.lt k e).1)); clear hn hown hg9))
          all_goals
            have HDROP : Hid (∀ ad cp, EntsAt w9.heap.size w9 (.slice ad 0 cp) (es.drop es.length)) := fun ad cp => by
              rw [List.drop_length]
              exact EntsAt.nil _ _ _ _
            have HDL : Hid ((es.drop es.length).length = 0) := by
              unfold Hid
              rw [List.drop_length]
              rfl
            go_wp2_with (first
              | (at_builtin; (refine wpList_append_entsD rfl (.tmp 50) (.tmp 53) rfl rfl w6.heap.size i0 hi hz0' hz1 hz2 _ rfl (es.take es.length ++ [y]) HO9.out _ rfl _ (es.drop es.length) (HDROP.out _ _) (fun _ _ h => by cases h) (by rw [HDL.out, List.length_append, List.length_take]; have := HL.out; simp; omega) HB9.out.size ?_); intro v10 w10 n10 hn hown hg10 _; obtain ⟨a10, q10, rfl⟩ := owns_slice hown; have hb10 := HB9.out.grown hg10 HB9.out.size (fun k e => (HO9.out.lt k e).1); obtain ⟨⟨u0, u1, u2⟩, _, hB10, hR10⟩ := HC.out w10 (HB6.out.trans (hb10.mono HB6.out.size)); have u3 := blk_frozen hB10 2; have HFIN := Lib.hid (fin_put hB10 hR10 HB3.out (HB6.out.trans (hb10.mono HB6.out.size)) hn.out hown); clear hn hown hg10 hb10 hB10 hR10)
              | (refine wpList_store_row (o := ⟨none, _, _, _, _, _⟩) rfl 24 (.tmp 4) (.tmp 56) rfl (w.heap.size + 2) (bktC d p (.slice a10 n10 q10)) rfl rfl 24 (bktC 0 0 (.slice none 0 0)) HFIN.out.1 (bktD_sz _ _ _) rfl ?_ ?_; exact bkt_one _ _ _ _ _))
            exact bodyPost_ret (results_cell_row rfl _ _ (w.heap.size + 2) 24 (bktC d p (.slice a10 n10 q10)) (0, 0) _ rfl HFIN.out.2.1 Try.underlying24 rfl (bktD_sz _ _ _)) rfl ⟨_, _, _, rfl, by have h9 := HFIN.out.2.2.1; first | exact h9 | (rw [List.take_length, List.drop_length, List.append_nil] at h9; exact h9), HFIN.out.2.2.2⟩
end Go.Proofs.Ytpihncafmjbccaa

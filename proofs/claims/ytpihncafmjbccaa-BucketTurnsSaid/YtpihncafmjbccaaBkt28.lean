/-
  sgraffitoref14.Put, where an entry has the hash; and in all.
  Conditions: none.
-/
import Derived.Test.YtpihncafmjbccaaBkt27
import Derived.Deep.MidRow
namespace Go.Proofs.Ytpihncafmjbccaa
open Go.RowKit
attribute [local go_sem] Oper.semAt_some

theorem ents_set (y : Ent) : ∀ (es : List Ent) (i : Nat), i < es.length → ((((ents es).set (i * 4) (.int .u64 (U y.hash))).set (i * 4 + 1) (.int .i64 y.reg)).set (i * 4 + 2) (.int .i64 y.at_)).set (i * 4 + 3) (.int .i64 y.size) = ents (es.take i ++ [y] ++ es.drop (i + 1))
  | [], i, h => absurd h (by simp)
  | x :: es, 0, _ => by simp [ents, Ent.cells]
  | x :: es, i + 1, h => by
    have ih := ents_set y es i (by simpa using h)
    have e0 : (i + 1) * 4 = i * 4 + 1 + 1 + 1 + 1 := by omega
    rw [e0]
    simp only [ents_cons, Ent.cells, List.cons_append, List.nil_append, List.set_cons_succ, List.take_succ_cons, List.drop_succ_cons]
    rw [ih]
theorem set_row {w3 w6 : World} {g q i : Nat} {es : List Ent} (y : Ent) (hO : OwnD w3.heap.size w6 (.slice (some ⟨g, 0, none⟩) es.length q) es) (hb : Below w3.heap.size w3 w6) (hi : i < es.length) :
    w6.there g (i * 4) 4 ∧ (w6.setCells g (i * 4) y.cells.toList).ownsRow w3.heap.size 27 4 (.slice (some ⟨g, 0, none⟩) es.length q) es.length (ents (es.take i ++ [y] ++ es.drop (i + 1))) ∧ Below w3.heap.size w3 (w6.setCells g (i * 4) y.cells.toList) := by
  have hg : w3.heap.size ≤ g := by
    rcases hO.2 with ⟨h, _⟩ | ⟨g', _, _, h, hg, _⟩
    · cases h
    · cases h; exact hg
  refine ⟨fun j hj => ⟨?_, hO.frozenAt _⟩, ?_, ?_⟩
  · obtain ⟨g', off, e, _, h0, h1, h2, h3⟩ := (EntsAt.of_owns hO rfl).get hi
    cases e
    rw [Nat.zero_add] at h0 h1 h2 h3
    match j, hj with
    | 0, _ => show (w6.cell? ⟨g, i * 4, none⟩).isSome = true; rw [h0]; rfl
    | 1, _ => rw [h1]; rfl
    | 2, _ => rw [h2]; rfl
    | 3, _ => rw [h3]; rfl
    | j + 4, h => omega
  · have h1 := (hO.stored (i * 4) (.int .u64 (U y.hash))).1
    have h2 := (h1.stored (i * 4 + 1) (.int .i64 y.reg)).1
    have h3 := (h2.stored (i * 4 + 2) (.int .i64 y.at_)).1
    have h4 := (h3.stored (i * 4 + 3) (.int .i64 y.size)).1
    rw [ents_set y es i hi] at h4
    exact h4
  · exact (((hb.setCell (p := ⟨g, i * 4, none⟩) hg _).setCell (p := ⟨g, i * 4 + 1, none⟩) hg _).setCell (p := ⟨g, i * 4 + 1 + 1, none⟩) hg _).setCell (p := ⟨g, i * 4 + 1 + 1 + 1, none⟩) hg _
set_option maxRecDepth 100000 in
set_option maxHeartbeats 8000000 in
theorem refPut_set (d p : Int) (y : Ent) (a : Option Addr) (m c : Nat) (es : List Ent) (w : World) (hE : EntsAt w.heap.size w (.slice a m c) es) (hlen : es.length ≤ 10000) (hnil : NilS (.slice a m c)) (i : Nat) (hi9 : i < es.length) (hh : (es[i]?.getD default).hash = y.hash) (hno : NoHash y.hash es i) :
    Calls Try.prog 14 #[.agg #[.int .i64 d, .int .i64 p, .slice a m c], .agg y.cells] w (BktRet d p (es.take i ++ [y] ++ es.drop (i + 1)) w) := by
  obtain ⟨i0, hi, hz0', hz1, hz2⟩ := info_parts4 infoEntD
  obtain ⟨_, _, e0, _⟩ := hE.slice
  cases e0
  obtain ⟨w3, hw3⟩ : ∃ w3, (((w.alloc (.cells #[.int .i64 d, .int .i64 p, .slice a es.length c] 24)).alloc (.cells y.cells 27)).alloc (.cells #[.int .i64 0, .int .i64 0, .slice none 0 0] 24)) = w3 := ⟨_, rfl⟩
  have hb3 : Below w.heap.size w w3 := by rw [← hw3]; exact (((Below.refl _ w).alloc (Nat.le_refl _) _).alloc (by simp) _).alloc (by simp; omega) _
  have k0 : w3.heap[w.heap.size]? = some (.cells #[.int .i64 d, .int .i64 p, .slice a es.length c] 24 (0, 0)) := by rw [← hw3]; exact blk_alloc (blk_alloc (heap_alloc_new _ _) _) _
  have k1 : w3.heap[w.heap.size + 1]? = some (.cells y.cells 27 (0, 0)) := by
    rw [← hw3]
    have := heap_alloc_new (w.alloc (.cells #[.int .i64 d, .int .i64 p, .slice a es.length c] 24)) (.cells y.cells 27)
    rw [World.size_alloc] at this
    exact blk_alloc this _
  have k2 : w3.heap[w.heap.size + 2]? = some (.cells (bktC 0 0 (.slice none 0 0)) 24 (0, 0)) := by
    rw [← hw3]
    have := heap_alloc_new ((w.alloc (.cells #[.int .i64 d, .int .i64 p, .slice a es.length c] 24)).alloc (.cells y.cells 27)) (.cells #[.int .i64 0, .int .i64 0, .slice none 0 0] 24)
    rw [World.size_alloc, World.size_alloc] at this
    exact this
  have hE3 := hE.next hb3
  have HO0 := Lib.hid (OwnD.empty w3 w3.heap.size (Nat.le_refl _))
  have HA0 : Hid (Below w3.heap.size w3 (w3.alloc (.cells #[] 27))) := (Below.refl _ _).alloc (Nat.le_refl _) _
  have HE3 := Lib.hid hE3
  have HF := Lib.hid (fun W (hW : Below w3.heap.size w3 W) => (refFind_any d p y.hash a es.length c es W (hE3.next hW) (by omega)).mono (R' := fun e W' => e = .returned (.int .i64 i) ∧ Below W.heap.size W W') (fun e W' ⟨hb, hr⟩ => by
    rcases hr with ⟨j, hj, he, hnj, e9⟩ | ⟨hn, _⟩
    · have hij : j = i := by
        rcases Nat.lt_trichotomy j i with h9 | h9 | h9
        · exact absurd he (hno j h9)
        · exact h9
        · exact absurd hh (hnj i h9)
      subst hij
      exact ⟨e9, hb⟩
    · exact absurd hh (hn i hi9)))
  have HW3 := Lib.hid hw3
  have HB3 := Lib.hid hb3
  have HL := Lib.hid hlen
  have HNIL := Lib.hid hnil
  have HI9 := Lib.hid hi9
  have HC : Hid (∀ W, Below w3.heap.size w3 W → (W.cell? ⟨w.heap.size, 0, none⟩ = some (.int .i64 d) ∧ W.cell? ⟨w.heap.size, 1, none⟩ = some (.int .i64 p) ∧ W.cell? ⟨w.heap.size, 2, none⟩ = some (.slice a es.length c)) ∧ (W.cell? ⟨w.heap.size + 1, 0, none⟩ = some (.int .u64 (U y.hash)) ∧ W.cell? ⟨w.heap.size + 1, 1, none⟩ = some (.int .i64 y.reg) ∧ W.cell? ⟨w.heap.size + 1, 2, none⟩ = some (.int .i64 y.at_) ∧ W.cell? ⟨w.heap.size + 1, 3, none⟩ = some (.int .i64 y.size)) ∧ W.heap[w.heap.size]? = some (.cells #[.int .i64 d, .int .i64 p, .slice a es.length c] 24 (0, 0)) ∧ W.heap[w.heap.size + 2]? = some (.cells (bktC 0 0 (.slice none 0 0)) 24 (0, 0))) := fun W hW => by
    have h0 := (hW.block _ (blk_lt k0)).trans k0
    have h1 := (hW.block _ (blk_lt k1)).trans k1
    exact ⟨⟨blk_cell h0 0, blk_cell h0 1, blk_cell h0 2⟩, ⟨blk_cell h1 0, blk_cell h1 1, blk_cell h1 2, blk_cell h1 3⟩, h0, (hW.block _ (blk_lt k2)).trans k2⟩
  obtain ⟨⟨q0, q1, q2⟩, ⟨q3, _⟩, _⟩ := HC.out (w3.alloc (.cells #[] 27)) HA0.out
  clear hw3 hb3 k0 k1 k2 hE hlen hnil hE3 hno hh hi9
  unfold Ent.cells at HW3 ⊢
  go_enter Try.func14, Try.ntmps14
  go_upto_region 1 with (fail)
  rw [HW3.out]
  clear HW3
  go_upto_region 2 with (at_builtin; (refine wpList_append_entsD rfl (.tmp 9) (.tmp 11) rfl rfl w3.heap.size i0 hi hz0' hz1 hz2 _ rfl [] HO0.out _ rfl _ es (HE3.out.below HA0.out) HNIL.out (by have := HL.out; simp; omega) HA0.out.size ?_); intro v5 w5 n5 hn hown hg hbk5; have HV5 := Lib.hid (v5_some (l := es) (by simpa using hn.out) (by simpa using hown) hbk5); have HO5 := Lib.hid (OwnD.app (l := es) (by simpa using hn.out) (by simpa using hown)); have HB5 := Lib.hid (HA0.out.grown hg HA0.out.size (fun k e => (HO0.out.lt k e).1)); clear hn hown hg hbk5)
  obtain ⟨⟨p0, p1, p2⟩, _⟩ := HC.out w5 HB5.out
  clear q0 q1 q2 q3
  go_upto_region 4 with (go_at_call 8; (with_reducible refine (HF.out _ HB5.out).mono ?_); rintro e w6 ⟨rfl, hb6⟩; have HO6 := Lib.hid (HO5.out.below hb6); have HB6 := Lib.hid (HB5.out.trans (hb6.mono HB5.out.size)); clear hb6)
  obtain ⟨g, q5, rfl, hq5⟩ := HV5.out
  have hE6 := EntsAt.of_owns HO6.out rfl
  have HE6 := Lib.hid (fun W (hW : Below w6.heap.size w6 W) => hE6.next hW)
  have HQ5 := Lib.hid hq5
  have hq6 : (es.length : Int) ≤ q5 := by omega
  have hl9 : (es.length : Int) ≤ 10000 := by have := HL.out; omega
  have hiq : (i : Int) < es.length := by have := HI9.out; omega
  have hge : (0 : Int) ≤ i := by omega
  obtain ⟨t4, hO7, hB7⟩ := set_row y HO6.out HB6.out HI9.out
  obtain ⟨⟨p0, p1, p2⟩, ⟨z0, z1, z2, z3⟩, _⟩ := HC.out w6 HB6.out
  have HT4 := Lib.hid t4
  have HO7 := Lib.hid hO7
  have HB7 := Lib.hid hB7
  have HLS : Hid (es.length = (es.take i ++ [y] ++ es.drop (i + 1)).length) := by
    have := HI9.out
    unfold Hid
    simp
    omega
  clear HV5 hq5 t4 hO7 hB7 HF
  unfold Ent.cells at HO7 HB7
  go_wp2_with (first
    | (refine wpList_store_mid rfl 27 (.tmp 22) (.tmp 21) rfl g (i * 4) #[.int .u64 (U y.hash), .int .i64 y.reg, .int .i64 y.at_, .int .i64 y.size] rfl rfl HT4.out (show _ = some 4 by kernel_rfl) (by simp [Value.oneCell']) ?_; obtain ⟨w7, hw7⟩ : ∃ w7, w6.setCells g (i * 4) #[.int .u64 (U y.hash), .int .i64 y.reg, .int .i64 y.at_, .int .i64 y.size].toList = w7 := ⟨_, rfl⟩; rw [hw7] at HO7 HB7 ⊢; clear hw7 p0 p1 p2 z0 z1 z2 z3; obtain ⟨⟨u0, u1, u2⟩, _, hB10, hR10⟩ := HC.out w7 HB7.out; have u3 := blk_frozen hB10 2; have HFIN := Lib.hid (fin_put hB10 hR10 HB3.out HB7.out HLS.out HO7.out); clear hB10 hR10)
    | (refine wpList_store_row (o := ⟨none, _, _, _, _, _⟩) rfl 24 (.tmp 4) (.tmp 25) rfl (w.heap.size + 2) (bktC d p (.slice (some ⟨g, 0, none⟩) es.length q5)) rfl rfl 24 (bktC 0 0 (.slice none 0 0)) HFIN.out.1 (bktD_sz _ _ _) rfl ?_ ?_; exact bkt_one _ _ _ _ _))
  exact bodyPost_ret (results_cell_row rfl _ _ (w.heap.size + 2) 24 (bktC d p (.slice (some ⟨g, 0, none⟩) es.length q5)) (0, 0) _ rfl HFIN.out.2.1 Try.underlying24 rfl (bktD_sz _ _ _)) rfl ⟨_, _, _, rfl, HFIN.out.2.2.1, HFIN.out.2.2.2⟩
theorem refPut_any (d p : Int) (y : Ent) (a : Option Addr) (m c : Nat) (es : List Ent) (w : World) (hE : EntsAt w.heap.size w (.slice a m c) es) (hlen : es.length ≤ 10000) (hnil : NilS (.slice a m c)) (hs : Asc es) :
    Calls Try.prog 14 #[.agg #[.int .i64 d, .int .i64 p, .slice a m c], .agg y.cells] w (BktRet d p (putE y es) w) := by
  have least : ∀ (P : Nat → Prop) (n : Nat), P n → ∃ m, m ≤ n ∧ P m ∧ ∀ j, j < m → ¬ P j := fun P n => by
    induction n using Nat.strongRecOn with
    | _ n ih =>
      intro h
      by_cases he : ∃ j, j < n ∧ P j
      · obtain ⟨j, hj, hp⟩ := he
        obtain ⟨m, hm, h1, h2⟩ := ih j hj hp
        exact ⟨m, by omega, h1, h2⟩
      · exact ⟨n, Nat.le_refl _, h, fun j hj hp => he ⟨j, hj, hp⟩⟩
  by_cases he : ∃ i, i < es.length ∧ (es[i]?.getD default).hash = y.hash
  · obtain ⟨n, hn⟩ := he
    obtain ⟨i, hin, ⟨hi, hh⟩, hj⟩ := least (fun i => i < es.length ∧ (es[i]?.getD default).hash = y.hash) n hn
    rw [putE_set hs hi hh]
    exact refPut_set d p y a m c es w hE hlen hnil i hi hh (fun j hji e => hj j hji ⟨by omega, e⟩)
  · obtain ⟨k, hk, h2, h1⟩ := least (fun k => k = es.length ∨ ¬ U (es[k]?.getD default).hash < U y.hash) es.length (.inl rfl)
    have h1' : ∀ i, i < k → U (es[i]?.getD default).hash < U y.hash := fun i hi => by
      have := h1 i hi
      by_cases h9 : U (es[i]?.getD default).hash < U y.hash
      · exact h9
      · exact absurd (.inr h9) this
    have h2' : k < es.length → ¬ U (es[k]?.getD default).hash < U y.hash := fun h => by
      rcases h2 with h9 | h9
      · omega
      · exact h9
    rw [putE_ins hs hk h1' (fun h => by
      have h3 := h2' h
      have h4 : U (es[k]?.getD default).hash ≠ U y.hash := fun e => he ⟨k, h, U_inj.1 e⟩
      omega)]
    exact refPut_ins d p y a m c es w hE hlen hnil (fun i hi e => he ⟨i, hi, e⟩) k hk h1' h2'
end Go.Proofs.Ytpihncafmjbccaa

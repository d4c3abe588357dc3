/-
  sgraffitoref14.Unpack.
  Conditions: none.
-/
import Derived.Test.YtlpfjmahinfeoaaBkt16
import Derived.Test.YtlpfjmahinfeoaaBkt8
import Derived.Test.YtlpfjmahinfeoaaBkt9
import Derived.Test.YtlpfjmahinfeoaaRefOf
import Derived.Deep.RegionHeld3
namespace Go.Proofs.Ytlpfjmahinfeoaa
open Go.RowKit
attribute [local go_sem] Oper.semAt_some

theorem BytesAt.mid {n₀ : Nat} {w : World} {g off n cap : Nat} {bs : List (BitVec 8)} (h : BytesAt n₀ w (.slice (some ⟨g, off, none⟩) n cap) bs) (i j : Nat) (hij : i ≤ j) (hj : j ≤ bs.length) :
    BytesAt n₀ w (.slice (some ⟨g, off + i, none⟩) (j - i : Nat) (cap - i)) ((bs.drop i).take (j - i)) := by
  have h1 := h.suf i (by omega)
  rw [add_plain] at h1
  exact h1.pre (j - i) (by rw [List.length_drop]; omega)
theorem ofMid {n₀ : Nat} {w : World} {g off n cap : Nat} {bs : List (BitVec 8)} (h : BytesAt n₀ w (.slice (some ⟨g, off, none⟩) n cap) bs) (i m : Nat) (hj : i + m ≤ bs.length) (h8 : m ≤ 8) :
    Calls Try.prog 42 #[.slice (some ⟨g, off + i, none⟩) m (cap - i)] w fun e w' => e = .returned (.int .u64 (U (leOf ((bs.drop i).take m)))) ∧ w = w' := by
  have h1 := h.mid i (i + m) (by omega) hj
  rw [Nat.add_sub_cancel_left] at h1
  have hl : ((bs.drop i).take m).length = m := by rw [List.length_take, List.length_drop]; omega
  have := refOf_any n₀ _ _ w h1 (by rw [hl]; omega)
  rw [refOf_eq _ (by rw [hl]; exact h8)] at this
  exact this
theorem refUnp_res (w : World) (g : Nat) (cs : Array Value) (n : Int) (a : Act) (h4 : a.tmps.getD 4 undef = .pointer (some ⟨g, 0, none⟩)) (h5 : a.tmps.getD 5 undef = .int .i64 n) (hg : w.heap[g]? = some (.cells cs 24 (0, 0))) (hs : (Try.prog.info? 24).map (·.size) = some cs.size) :
    (results Try.f13 a.tmps).run Try.prog w = .ok (.tuple #[.agg cs, .int .i64 n]) w := by
  have h4' : a.tmps[4]?.getD undef = .pointer (some ⟨g, 0, none⟩) := by simpa using h4
  have h5' : a.tmps[5]?.getD undef = .int .i64 n := by simpa using h5
  simp [results, Try.results13, h4', h5', asAddr, run_loadVar_row w g 24 24 cs (0, 0) _ hg Try.underlying24 rfl hs]
/-- Between two rounds of the document's Unpack. -/
structure UpD (w : World) (d p : Int) (l : List (BitVec 8)) (k : Nat) (v : Value) (W : World) : Prop where
  bel : Below w.heap.size w W
  size : w.heap.size + 2 ≤ W.heap.size
  doc : W.heap[w.heap.size + 1]? = some (.cells (bktC d p v) 24 (0, 0))
  res : W.heap[w.heap.size]? = some (.cells (bktC 0 0 (.slice none 0 0)) 24 (0, 0))
  row : W.ownsRow w.heap.size 46 4 v k (ents (entsOf l k))
theorem UpD.next {w W9 W10 : World} {k : Nat} {d p : Int} {l : List (BitVec 8)} {v v' : Value} {tmp : Obj} {cs : List Value} (h : UpD w d p l k v W9)
    (hgrow : (W9.alloc tmp).grownBy W10 v.ownBlock) (hown : W10.ownsRow w.heap.size 46 4 v' (k + 1) cs) (hcs : ents (entsOf l (k + 1)) = cs) :
    W10.heap[w.heap.size + 1]? = some (.cells (bktC d p v) 24 (0, 0)) ∧ UpD w d p l (k + 1) v' (W10.setCell ⟨w.heap.size + 1, 2, none⟩ v') := by
  subst hcs
  have hsz := h.size
  have hm : Moves (fun j => v.ownBlock = some j) W9 W10 := (Moves.of_below ((Below.refl W9.heap.size W9).alloc (Nat.le_refl _) tmp)).trans (Moves.of_grown hgrow (fun _ e => e)) (fun _ _ h => h)
  have hd10 : W10.heap[w.heap.size + 1]? = some (.cells (bktC d p v) 24 (0, 0)) := (hm.block _ (blk_lt h.doc) (fun e => own_ne h.row h.doc (by decide) e)).trans h.doc
  have hr10 : W10.heap[w.heap.size]? = some (.cells (bktC 0 0 (.slice none 0 0)) 24 (0, 0)) := (hm.block _ (blk_lt h.res) (fun e => own_ne h.row h.res (by decide) e)).trans h.res
  have hms : Moves (fun j => j = w.heap.size + 1) W10 (W10.setCell ⟨w.heap.size + 1, 2, none⟩ v') := (Moves.refl (fun j => j = w.heap.size + 1) W10).setCell (p := ⟨w.heap.size + 1, 2, none⟩) (fun _ => rfl) v'
  refine ⟨hd10, ⟨(h.bel.trans (hm.below (fun j e => (h.row.lt j e).1) (by omega))).trans (hms.below (fun j (e : j = w.heap.size + 1) => by omega) (by have := hm.size; omega)), by have := hm.size; have := hms.size; omega, ?_, (Below.heap_setCell _ _ _ _ (by show w.heap.size ≠ w.heap.size + 1; omega)).trans hr10, ?_⟩⟩
  · have := blk_set hd10 2 v'
    simpa [bktC] using this
  · exact hms.row hown (fun j e (ej : j = w.heap.size + 1) => by subst ej; exact own_ne hown hd10 (by decide) e)
theorem big_no {x : BitVec 64} {d p s : Int} {es : List Ent} (h : 255 < U x) (e : wrap64 (U x) = p) : ¬ Right14 d p s es := fun hr => by
  have h1 := hr.p1
  have h0 := hr.p0
  have hd0 := hr.head.d0
  have hd1 := hr.head.d1
  obtain ⟨D, rfl⟩ := Int.eq_ofNat_of_zero_le hd0
  have hM : (2 : Nat) ^ D ≤ 256 := Nat.pow_le_pow_right (by decide) (show D ≤ 8 by omega)
  have e0 : ((2 : Int) ^ D) = ((2 ^ D : Nat) : Int) := by simp
  rw [Int.toNat_natCast, e0] at h1
  have := U_lt x
  rw [← e] at h0 h1
  unfold wrap64 at h0 h1
  omega
theorem reg_no {x : BitVec 64} {d p s : Int} {es : List Ent} {k : Nat} (hk : k < es.length) (h : 1099511627776 < U x) (e : (es[k]?.getD default).reg = wrap64 (U x)) : ¬ Right14 d p s es := fun hr => by
  have h0 := (hr.all k hk).r0
  have h1 := (hr.all k hk).r1
  have := U_lt x
  rw [e] at h0 h1
  unfold wrap64 at h0 h1
  omega
set_option maxRecDepth 100000 in
set_option maxHeartbeats 8000000 in
theorem refUnpack_long (l : List (BitVec 8)) (v : Value) (s : Int) (w : World) (d p : Int) (C : Nat) (hv : BytesAt w.heap.size w v l) (hC : C ≤ 255)
    (e1 : U (l[0]?.getD 0) = d) (e2 : U (l[1]?.getD 0) = (C : Int)) (e3 : wrap64 (U (leOf ((l.drop 2).take 8))) = p) (hlen : l.length = 10 + 20 * C) (r : Bool) (hR : r = true ↔ Right14 d p s (entsOf l C)) :
    Calls Try.prog 13 #[v, .int .i64 s] w (UnpRes d p (entsOf l C) r w) := by
  obtain ⟨i0, hi, hz0, hz1, hz2⟩ := info_parts4 infoEntD
  obtain ⟨w1, hw1⟩ : ∃ w1, w.alloc (.cells #[.int .i64 0, .int .i64 0, .slice none 0 0] 24) = w1 := ⟨_, rfl⟩
  have hb1 : Below w.heap.size w w1 := by rw [← hw1]; exact (Below.refl _ w).alloc (Nat.le_refl _) _
  have hg1 : w1.heap[w.heap.size]? = some (.cells (bktC 0 0 (.slice none 0 0)) 24 (0, 0)) := by rw [← hw1]; exact heap_alloc_new _ _
  have hs1 : w1.heap.size = w.heap.size + 1 := by rw [← hw1]; simp
  have HW1 := Lib.hid hw1
  have HB1 := Lib.hid hb1
  have HG1 := Lib.hid hg1
  have HS1 := Lib.hid hs1
  have HLEN := Lib.hid hlen
  have HC := Lib.hid hC
  obtain ⟨a, cap, rfl, hcap, _, hv2⟩ := id hv
  obtain ⟨g, off, rfl, hg, hc⟩ := hv2.resolve_left (fun h => by rw [h] at hlen; have h0 : (0 : Nat) = 10 + 20 * C := hlen; omega)
  have HOF : Hid (∀ i m W, Below w.heap.size w W → i + m ≤ 10 + 20 * C → m ≤ 8 → Calls Try.prog 42 #[.slice (some ⟨g, off + i, none⟩) m (cap - i)] W fun e w' => e = .returned (.int .u64 (U (leOf ((l.drop i).take m)))) ∧ W = w') := fun i m W hW h1 h2 => ofMid (hv.below hW) i m (by omega) h2
  have hc0 := hc 0 (by omega)
  have hc1 := hc 1 (by omega)
  rw [e1, Nat.add_zero] at hc0
  rw [e2] at hc1
  have HCE : Hid (∀ W, Below w.heap.size w W → W.cell? ⟨g, off, none⟩ = some (.int .u8 d) ∧ W.cell? ⟨g, off + 1, none⟩ = some (.int .u8 (C : Int))) := fun W hW => ⟨(hW.cell (p := ⟨g, off, none⟩) hg).trans hc0, (hW.cell (p := ⟨g, off + 1, none⟩) hg).trans hc1⟩
  have hd0 : 0 ≤ d := by rw [← e1]; exact Int.natCast_nonneg _
  have hd1 : d < 256 := by rw [← e1]; unfold U; have := (l[0]?.getD 0).isLt; omega
  have HX3 := Lib.hid (HOF.out 2 8)
  obtain ⟨x3, hx3⟩ : ∃ x, leOf ((l.drop 2).take 8) = x := ⟨_, rfl⟩
  rw [hx3] at HX3 e3
  have hw8 : IntKind.i64.wrap d = d := IntWalk.i64_in _ (by omega)
  have hcp : (l.length : Int) ≤ cap := by omega
  rw [hlen] at hcp hcap ⊢
  have HE3 := Lib.hid e3
  have HRR := Lib.hid hR
  have q1 : IntKind.i64.wrap (C : Int) = C := IntWalk.i64_in _ (by omega)
  have q2 : wrap64 (20 * (C : Int)) = 20 * C := IntWalk.wrap64_in _ (by omega)
  have q3 : wrap64 (10 + 20 * (C : Int)) = 10 + 20 * C := IntWalk.wrap64_in _ (by omega)
  have q4 : (((10 + 20 * C : Nat) : Int)) = 10 + 20 * (C : Int) := by omega
  rw [q4] at hcp
  have k0 : (10 : Int) ≤ cap := by omega
  have k1 : (10 : Int) ≤ 10 + 20 * (C : Int) := by omega
  obtain ⟨b0, b1⟩ := HCE.out _ hb1
  clear hw1 hb1 hg1 hs1 hc hc0 hc1 hv hv2 hx3 e1 e2 e3 hR hlen hg
  have n10 : ¬ (10 + 20 * (C : Int) < 10) := by omega
  by_cases hbig : 255 < U x3
  · have hrf : r = false := by
      cases hr : r with
      | false => rfl
      | true => exact absurd (HRR.out.1 hr) (big_no hbig HE3.out)
    subst hrf
    have hend := setRow_heap w1 w.heap.size _ (bktC 0 0 (.slice none 0 0)) _ _ HG1.out
    have hfin : UnpRes d p (entsOf l C) false w (.returned (.tuple #[.agg (bktC 0 0 (.slice none 0 0)), .int .i64 5])) (w1.setRow w.heap.size (bktC 0 0 (.slice none 0 0))) := .inr ⟨rfl, _, _, _, rfl, EntsAt.nil _ _ _ _, below_setRow HB1.out (Nat.le_refl _) _⟩
    have HE := Lib.hid (And.intro hend hfin)
    clear hend hfin
    go_enter Try.func13, Try.ntmps13
    go_upto_region 1 with (fail)
    rw [HW1.out]
    go_wp2_with (first
      | (go_at_call 42; (with_reducible refine (HX3.out _ HB1.out (by omega) (by decide)).mono ?_); rintro e w' ⟨rfl, rfl⟩)
      | (refine wpList_store_row (o := ⟨none, _, _, _, _, _⟩) rfl 24 (.tmp 4) (.tmp 29) rfl w.heap.size (bktC 0 0 (.slice none 0 0)) rfl rfl 24 (bktC 0 0 (.slice none 0 0)) HG1.out (bktD_sz _ _ _) rfl ?_ ?_; exact bkt_one _ _ _ _ _))
    exact bodyPost_ret (refUnp_res _ w.heap.size _ 5 _ rfl rfl HE.out.1 (bktD_sz _ _ _)) rfl HE.out.2
  go_enter Try.func13, Try.ntmps13
  go_upto_region 1 with (fail)
  rw [HW1.out]
  go_upto_region 3 with (go_at_call 42; (with_reducible refine (HX3.out _ HB1.out (by omega) (by decide)).mono ?_); rintro e w' ⟨rfl, rfl⟩)
  have hp3 : IntKind.i64.wrap (U x3) = p := (IntWalk.i64_left _).trans HE3.out
  have k5 : ¬ (cap = 2) := by omega
  have y2 : 0 < 10 + 20 * C := by omega
  have z0 : (0 : Int) < 10 + 20 * (C : Int) := by omega
  have HB1' := Lib.hid HB1.out.drew
  obtain ⟨w2, hw2⟩ : ∃ w2, w1.alloc (.cells #[.int .i64 d, .int .i64 p, .slice none 0 0] 24) = w2 := ⟨_, rfl⟩
  have HW2 := Lib.hid hw2
  clear hw2
  have HD1 := Lib.hid (HB1.out.drew)
  have HD2 : Hid (Below w.heap.size w (w1.alloc (.cells #[.int .i64 0, .int .i64 0, .slice none 0 0] 24)).drew) := (HB1.out.alloc HB1.out.size _).drew
  have HD3 : Hid (Below w.heap.size w (w1.alloc (.cells #[.int .i64 d, .int .i64 p, .slice none 0 0] 24)).drew) := (HB1.out.alloc HB1.out.size _).drew
  go_cut [6] (fun s6 wx => s6 = .pointer (some ⟨w1.heap.size, 0, none⟩) ∧ wx = (w1.alloc (.cells #[.int .i64 d, .int .i64 p, .slice none 0 0] 24)).drew)
  case first =>
    go_region_held3 (fun W => W.cell? ⟨g, off, none⟩ = some (.int .u8 d))
      (first | exact (HCE.out _ HD1.out).1 | exact (HCE.out _ HD2.out).1 | exact (HCE.out _ HD3.out).1)
      (first
        | (go_at_call 42; (with_reducible refine (HX3.out _ HD1.out (by omega) (by decide)).mono ?_); rintro e w' ⟨rfl, rfl⟩)
        | (go_at_call 42; (with_reducible refine (HX3.out _ HD2.out (by omega) (by decide)).mono ?_); rintro e w' ⟨rfl, rfl⟩))
    all_goals (go_wp2_with fail)
    all_goals go_meet
    all_goals exact ⟨rfl, rfl⟩
  case rest =>
    obtain ⟨rfl, rfl⟩ := hcut
    rw [HW2.out, HS1.out]
    have hst : UpD w d p l 0 (.slice none 0 0) w2.drew := by
      have h1 : w2.drew.heap[w1.heap.size]? = some (.cells (bktC d p (.slice none 0 0)) 24 (0, 0)) := by rw [← HW2.out]; exact heap_alloc_new w1 _
      have h2 : w2.drew.heap[w.heap.size]? = some (.cells (bktC 0 0 (.slice none 0 0)) 24 (0, 0)) := by rw [← HW2.out]; exact blk_alloc HG1.out _
      rw [HS1.out] at h1
      refine ⟨?_, ?_, h1, h2, World.ownsRow_nil _ _ _ _⟩
      · rw [← HW2.out]; exact (HB1.out.alloc HB1.out.size _).drew
      · have := blk_lt h1; omega
    obtain ⟨w3, hw3⟩ : ∃ w3, w2.drew = w3 := ⟨_, rfl⟩
    rw [hw3] at hst ⊢
    have HST := Lib.hid hst
    clear hst hw3 HW2 HD1 HD2 HB1' HW1 b0 b1 HB1 HG1 HS1 HX3 hp3 hw8 q1 q2 q3 hd0 hd1 hbig n10
    go_wp2
    go_loopw [7] (fun i wr => ∃ (k : Nat) (vv : Value), k ≤ C ∧ i = .int .i64 (10 + 20 * (k : Int)) ∧ UpD w d p l k vv wr) (fun i _ => 10 + 20 * C - (intOf i).toNat)
    case atStart => exact ⟨0, _, Nat.zero_le _, rfl, HST.out⟩
    case round =>
      obtain ⟨k, vv, hk, rfl, hU⟩ := hrel
      by_cases hlt : k < C
      · obtain ⟨b, mm, rfl⟩ := owns_slice hU.row
        obtain ⟨A, hA⟩ : ∃ A : Nat, 10 + 20 * k = A := ⟨_, rfl⟩
        have hAi : (10 + 20 * (k : Int)) = A := by omega
        have hA2 : A + 20 ≤ 10 + 20 * C := by omega
        rw [hAi]
        obtain ⟨x, hx⟩ : ∃ x, entOf (l.drop A) = x := ⟨_, rfl⟩
        have HX : Hid (ents (entsOf l (k + 1)) = ents (entsOf l k) ++ x.cells.toList) := by
          unfold Hid
          rw [entsOf_snoc, ents_snoc, hA, hx]
        have HXK : Hid ((entsOf l C)[k]?.getD default = x) := by
          unfold Hid entsOf
          rw [List.getElem?_map, List.getElem?_range hlt, ← hx, ← hA]
          rfl
        have O1 := Lib.hid (fun W (hb : Below w.heap.size w W) => HOF.out A 8 W hb (by omega) (by decide))
        have O2 := Lib.hid (fun W (hb : Below w.heap.size w W) => HOF.out (A + 8) 8 W hb (by omega) (by decide))
        have O3 := Lib.hid (fun W (hb : Below w.heap.size w W) => HOF.out (A + 16) 2 W hb (by omega) (by decide))
        have O4 := Lib.hid (fun W (hb : Below w.heap.size w W) => HOF.out (A + 18) 2 W hb (by omega) (by decide))
        have f1 : leOf ((l.drop A).take 8) = x.hash := by rw [← hx]; rfl
        rw [f1] at O1
        obtain ⟨y2, hy2⟩ : ∃ y, leOf ((l.drop (A + 8)).take 8) = y := ⟨_, rfl⟩
        obtain ⟨y3, hy3⟩ : ∃ y, leOf ((l.drop (A + 16)).take 2) = y := ⟨_, rfl⟩
        obtain ⟨y4, hy4⟩ : ∃ y, leOf ((l.drop (A + 18)).take 2) = y := ⟨_, rfl⟩
        rw [hy2] at O2
        rw [hy3] at O3
        rw [hy4] at O4
        have r2 : locR ((l.drop A).drop 8) = x.reg := by rw [← hx]; rfl
        have r3 : locA ((l.drop A).drop 8) = x.at_ := by rw [← hx]; rfl
        have r4 : locS ((l.drop A).drop 8) = x.size := by rw [← hx]; rfl
        unfold locR at r2
        unfold locA at r3
        unfold locS at r4
        rw [List.drop_drop, hy2] at r2
        rw [List.drop_drop, List.drop_drop, hy3] at r3
        rw [List.drop_drop, List.drop_drop, hy4] at r4
        have HU := Lib.hid hU
        have HK := Lib.hid hlt
        have HAI := Lib.hid hAi
        have lA : (A : Int) < 10 + 20 * (C : Int) := by omega
        obtain ⟨B, hB⟩ : ∃ B, A + 8 = B := ⟨_, rfl⟩
        obtain ⟨E, hE⟩ : ∃ E, A + 16 = E := ⟨_, rfl⟩
        obtain ⟨F, hF⟩ : ∃ F, A + 18 = F := ⟨_, rfl⟩
        obtain ⟨G, hG⟩ : ∃ G, A + 20 = G := ⟨_, rfl⟩
        have z1 : wrap64 ((A : Int) + 8) = B := by rw [IntWalk.wrap64_in _ (by omega)]; omega
        have z2 : wrap64 ((A : Int) + 16) = E := by rw [IntWalk.wrap64_in _ (by omega)]; omega
        have z3 : wrap64 ((A : Int) + 18) = F := by rw [IntWalk.wrap64_in _ (by omega)]; omega
        have z4 : wrap64 ((A : Int) + 20) = G := by rw [IntWalk.wrap64_in _ (by omega)]; omega
        rw [hB] at O2
        rw [hE] at O3
        rw [hF] at O4
        have i1 : IntKind.i64.wrap ((A : Int) + 8) = B := (IntWalk.i64_left _).trans z1
        have i2 : IntKind.i64.wrap ((A : Int) + 16) = E := (IntWalk.i64_left _).trans z2
        have i3 : IntKind.i64.wrap ((A : Int) + 18) = F := (IntWalk.i64_left _).trans z3
        have i4 : IntKind.i64.wrap ((A : Int) + 20) = G := (IntWalk.i64_left _).trans z4
        have a1 : A ≤ B := by omega
        have a2 : E ≤ F := by omega
        have a3 : F ≤ G := by omega
        have n1 : E - B = 8 := by omega
        have n2 : F - E = 2 := by omega
        have n3 : G - F = 2 := by omega
        have n4 : B - A = 8 := by omega
        have m1 : (A : Int) ≤ B := by omega
        have m2 : (B : Int) ≤ E := by omega
        have m3 : (E : Int) ≤ F := by omega
        have m4 : (F : Int) ≤ G := by omega
        have u1 : (B : Int) ≤ cap := by omega
        have u2 : (E : Int) ≤ cap := by omega
        have u3 : (F : Int) ≤ cap := by omega
        have u4 : (G : Int) ≤ cap := by omega
        have t1 : ¬ (cap = A) := by omega
        have t2 : ¬ (cap = B) := by omega
        have t3 : ¬ (cap = E) := by omega
        have t4 : ¬ (cap = F) := by omega
        have HG20 : Hid (A + 20 = G) := hG
        have HA20 := Lib.hid hA2
        have HB := Lib.hid hU.bel
        clear f1 hx hy2 hy3 hy4 hA hAi hU hlt hB hE hF hG hA2
        by_cases hbg : 1099511627776 < U y2
        · have hrf : r = false := by
            cases hr : r with
            | false => rfl
            | true => exact absurd (HRR.out.1 hr) (reg_no (x := y2) (k := k) (by rw [entsOf_len]; exact HK.out) hbg (by rw [HXK.out, r2]))
          subst hrf
          have hend := setRow_heap wr w.heap.size _ (bktC 0 0 (.slice none 0 0)) _ _ HU.out.res
          have hfin : UnpRes d p (entsOf l C) false w (.returned (.tuple #[.agg (bktC 0 0 (.slice none 0 0)), .int .i64 5])) (wr.setRow w.heap.size (bktC 0 0 (.slice none 0 0))) := .inr ⟨rfl, _, _, _, rfl, EntsAt.nil _ _ _ _, below_setRow HB.out (Nat.le_refl _) _⟩
          have HE := Lib.hid (And.intro hend hfin)
          clear hend hfin
          go_wp2_with (first
            | (go_at_call 42; (with_reducible refine (O2.out _ HB.out).mono ?_); rintro e w' ⟨rfl, rfl⟩)
            | (refine wpList_store_row (o := ⟨none, _, _, _, _, _⟩) rfl 24 (.tmp 4) (.tmp 54) rfl w.heap.size (bktC 0 0 (.slice none 0 0)) rfl rfl 24 (bktC 0 0 (.slice none 0 0)) HU.out.res (bktD_sz _ _ _) rfl ?_ ?_; exact bkt_one _ _ _ _ _))
          exact bodyPost_ret (refUnp_res _ w.heap.size _ 5 _ rfl rfl HE.out.1 (bktD_sz _ _ _)) rfl HE.out.2
        · go_upto_region 10 with (go_at_call 42; (with_reducible refine (O2.out _ HB.out).mono ?_); rintro e w' ⟨rfl, rfl⟩)
          have HUd : Hid (UpD w d p l k (.slice b k mm) wr.drew) := ⟨HU.out.bel.drew, HU.out.size, HU.out.doc, HU.out.res, HU.out.row⟩
          have HBd := Lib.hid HB.out.drew
          have s0 : wr.drew.cell? ⟨w.heap.size + 1, 2, none⟩ = some (.slice b k mm) := blk_cell HUd.out.doc 2
          have s2 : (wr.alloc (.cells #[.int .u64 (U x.hash), .int .i64 x.reg, .int .i64 x.at_, .int .i64 x.size] 46)).drew.cell? ⟨w.heap.size + 1, 2, none⟩ = some (.slice b k mm) := blk_cell (blk_alloc HU.out.doc _) 2
          have r5 : IntKind.i64.wrap (U y2) = x.reg := (IntWalk.i64_left _).trans r2
          have r6 : IntKind.i64.wrap (U y3) = x.at_ := (IntWalk.i64_left _).trans r3
          have r7 : IntKind.i64.wrap (U y4) = x.size := (IntWalk.i64_left _).trans r4
          have HK2 := HK.out
          have HC2 := HC.out
          go_region_law
            (first
              | (go_simp; go_at_call 42; (with_reducible refine (O1.out _ HBd.out).mono ?_); rintro e w' ⟨rfl, rfl⟩)
              | (go_simp; go_at_call 42; (with_reducible refine (O3.out _ HBd.out).mono ?_); rintro e w' ⟨rfl, rfl⟩)
              | (go_simp; go_at_call 42; (with_reducible refine (O4.out _ HBd.out).mono ?_); rintro e w' ⟨rfl, rfl⟩)
              | (refine step_append_lies _ (by rfl) _ _ 22 (by rfl) w.heap.size 46 i0 _ 4 32 Try.underlying22 hi hz0 hz1 hz2 rfl (by decide) (.slice b k mm) k (ents (entsOf l k)) (by rfl) ((HUd.out.row).alloc _) ⟨_, 0, none⟩ 1 1 x.cells.toList (by rfl) (by rfl) (ent_newD _ x) x.one (by decide) (by unfold maxLen; omega) (by omega) (by have := HU.out.size; simp; omega) _ rfl ?_; intro g2 cap2 w10 hown hgrow hat hlt10; have hu := HUd.out.next hgrow hown HX.out; have c8 : w10.cell? ⟨w.heap.size + 1, 2, none⟩ = some (.slice b k mm) := blk_cell hu.1 2; have f8 := blk_frozen hu.1 2; have HNEW := Lib.hid hu.2; clear hown hgrow hu hat hlt10))
          all_goals
            go_wp2
            go_roundw
            case rel => exact ⟨k + 1, _, HK.out, by have h1 := HG20.out; have h2 := HAI.out; show Value.int .i64 _ = Value.int .i64 _; congr 1; omega, HNEW.out⟩
            case measure => have h1 := HG20.out; have h2 := HA20.out; simp [intOf]; omega
      · obtain rfl : k = C := by omega
        obtain ⟨b, mm, rfl⟩ := owns_slice hU.row
        have hEE : EntsAt wr.heap.size wr (.slice b k mm) (entsOf l k) := EntsAt.of_owns hU.row (entsOf_len l k).symm
        have HRT := Lib.hid ((refRight_any d p s b k mm (entsOf l k) wr hEE).mono (R' := fun e W' => e = .returned (.bool r) ∧ Below wr.heap.size wr W') (fun e W' ⟨r', he, hr, hb⟩ => by
          have : r' = r := Bool.eq_iff_iff.2 (hr.trans HRR.out.symm)
          rw [← this]
          exact ⟨he, hb⟩))
        have HEE := Lib.hid hEE
        have HPB := Lib.hid hU.doc
        have HRS := Lib.hid hU.res
        have HBL := Lib.hid hU.bel
        have c0 : wr.cell? ⟨w.heap.size + 1, 0, none⟩ = some (.int .i64 d) := blk_cell hU.doc 0
        have c1 : wr.cell? ⟨w.heap.size + 1, 1, none⟩ = some (.int .i64 p) := blk_cell hU.doc 1
        have c2 : wr.cell? ⟨w.heap.size + 1, 2, none⟩ = some (.slice b k mm) := blk_cell hU.doc 2
        clear hEE hU hlt hk
        cases r with
        | true =>
          go_upto_region 13 with (go_at_call 10; (with_reducible refine HRT.out.mono ?_); rintro e w9 ⟨rfl, hb9⟩; have HB9 := Lib.hid hb9; have hP9 := (hb9.block _ (blk_lt HPB.out)).trans HPB.out; have q0 : w9.cell? ⟨w.heap.size + 1, 0, none⟩ = some (.int .i64 d) := blk_cell hP9 0; have q1 : w9.cell? ⟨w.heap.size + 1, 1, none⟩ = some (.int .i64 p) := blk_cell hP9 1; have q2 : w9.cell? ⟨w.heap.size + 1, 2, none⟩ = some (.slice b k mm) := blk_cell hP9 2; have HZ9 := Lib.hid ((hb9.block _ (blk_lt HRS.out)).trans HRS.out); clear hb9 hP9)
          have hend := setRow_heap w9 w.heap.size _ (bktC d p (.slice b k mm)) _ _ HZ9.out
          have hfin : UnpRes d p (entsOf l k) true w (.returned (.tuple #[.agg (bktC d p (.slice b k mm)), .int .i64 0])) (w9.setRow w.heap.size (bktC d p (.slice b k mm))) := .inl ⟨rfl, _, _, _, rfl, ((HEE.out.next HB9.out).setRow HZ9.out (bkt_no _ _ _ _ _) _).tight, below_setRow (HBL.out.trans (HB9.out.mono HBL.out.size)) (Nat.le_refl _) _⟩
          have HE := Lib.hid (And.intro hend hfin)
          clear hend hfin
          go_wp2_with (refine wpList_store_row (o := ⟨none, _, _, _, _, _⟩) rfl 24 (.tmp 4) (.tmp 90) rfl w.heap.size (bktC d p (.slice b k mm)) rfl rfl 24 (bktC 0 0 (.slice none 0 0)) HZ9.out (bktD_sz _ _ _) rfl ?_ ?_; exact bkt_one _ _ _ _ _)
          exact bodyPost_ret (refUnp_res _ w.heap.size _ 0 _ rfl rfl HE.out.1 (bktD_sz _ _ _)) rfl HE.out.2
        | false =>
          go_upto_region 12 with (go_at_call 10; (with_reducible refine HRT.out.mono ?_); rintro e w9 ⟨rfl, hb9⟩; have HB9 := Lib.hid hb9; have HZ9 := Lib.hid ((hb9.block _ (blk_lt HRS.out)).trans HRS.out); clear hb9)
          have hend := setRow_heap w9 w.heap.size _ (bktC 0 0 (.slice none 0 0)) _ _ HZ9.out
          have hfin : UnpRes d p (entsOf l k) false w (.returned (.tuple #[.agg (bktC 0 0 (.slice none 0 0)), .int .i64 5])) (w9.setRow w.heap.size (bktC 0 0 (.slice none 0 0))) := .inr ⟨rfl, _, _, _, rfl, EntsAt.nil _ _ _ _, below_setRow (HBL.out.trans (HB9.out.mono HBL.out.size)) (Nat.le_refl _) _⟩
          have HE := Lib.hid (And.intro hend hfin)
          clear hend hfin
          go_wp2_with (refine wpList_store_row (o := ⟨none, _, _, _, _, _⟩) rfl 24 (.tmp 4) (.tmp 89) rfl w.heap.size (bktC 0 0 (.slice none 0 0)) rfl rfl 24 (bktC 0 0 (.slice none 0 0)) HZ9.out (bktD_sz _ _ _) rfl ?_ ?_; exact bkt_one _ _ _ _ _)
          exact bodyPost_ret (refUnp_res _ w.heap.size _ 5 _ rfl rfl HE.out.1 (bktD_sz _ _ _)) rfl HE.out.2
end Go.Proofs.Ytlpfjmahinfeoaa

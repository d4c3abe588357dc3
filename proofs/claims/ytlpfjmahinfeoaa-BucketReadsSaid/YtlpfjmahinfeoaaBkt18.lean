/-
  sgraffitoref14.Unpack of what is no load; both of any load.
  Conditions: none.
-/
import Derived.Test.YtlpfjmahinfeoaaBkt17
namespace Go.Proofs.Ytlpfjmahinfeoaa
open Go.RowKit
attribute [local go_sem] Oper.semAt_some

theorem leOf_one (b : BitVec 8) : U (leOf [b]) = U b := by
  show ((leOf [b]).toNat : Int) = (b.toNat : Int)
  rw [leOf_toNat [b] (by simp)]
  simp [leNat]
theorem wrapU8I (b : BitVec 8) : wrap64 (U b) = (b.toNat : Int) := by
  have := b.isLt
  show wrap64 (b.toNat : Int) = _
  exact IntWalk.wrap64_in _ (by omega)
theorem take1b (l : List (BitVec 8)) (k : Nat) (h : k < l.length) : (l.drop k).take 1 = [l[k]?.getD 0] := by
  rw [List.drop_eq_getElem_cons h, List.getElem?_eq_getElem h]
  rfl
theorem rdN_small (x : List (BitVec 8)) : ∃ C : Nat, C ≤ 255 ∧ wrap64 (U (rdN x 1)) = (C : Int) := by
  have h : (takenB x (tookN x (mayB 1) 1)).length ≤ 1 := by
    unfold takenB
    split
    · simp
    · rename_i k hk
      unfold tookN at hk
      split at hk
      · cases hk
        rw [List.length_take]
        show min 1 _ ≤ 1
        omega
      · cases hk
  unfold rdN
  generalize takenB x (tookN x (mayB 1) 1) = y at h
  match y, h with
  | [], _ =>
    have h0 : U (leOf ([] : List (BitVec 8))) = 0 := by
      show ((leOf []).toNat : Int) = 0
      rw [leOf_toNat [] (by simp)]
      rfl
    refine ⟨0, by omega, ?_⟩
    rw [h0]
    exact IntWalk.wrap64_in 0 (by omega)
  | [b], _ => 
    refine ⟨b.toNat, by have := b.isLt; omega, ?_⟩
    rw [leOf_one, wrapU8I]
theorem rdN_of (l : List (BitVec 8)) (h : 2 ≤ l.length) : rdN (rdL l 1) 1 = leOf ((l.drop 1).take 1) := by
  have h1 : tookN l (mayB 1) 1 = some 1 := by unfold tookN; rw [if_pos ⟨rfl, by omega, by omega⟩]; rfl
  unfold rdL
  rw [h1]
  show rdN (l.drop 1) 1 = _
  unfold rdN
  have h2 : tookN (l.drop 1) (mayB 1) 1 = some 1 := by unfold tookN; rw [if_pos ⟨rfl, by omega, by rw [List.length_drop]; omega⟩]; rfl
  rw [h2]
  rfl
set_option maxRecDepth 100000 in
set_option maxHeartbeats 8000000 in
theorem refUnpack_bad (l : List (BitVec 8)) (v : Value) (s : Int) (w : World) (C : Nat) (hv : BytesAt w.heap.size w v l) (hl : l.length ≤ 100000) (hC : C ≤ 255)
    (h : l.length < 10 ∨ (U (l[1]?.getD 0) = (C : Int) ∧ l.length ≠ 10 + 20 * C)) :
    Calls Try.prog 13 #[v, .int .i64 s] w (UnpRet 0 0 [] 5 w) := by
  obtain ⟨w1, hw1⟩ : ∃ w1, w.alloc (.cells #[.int .i64 0, .int .i64 0, .slice none 0 0] 24) = w1 := ⟨_, rfl⟩
  have hb1 : Below w.heap.size w w1 := by rw [← hw1]; exact (Below.refl _ w).alloc (Nat.le_refl _) _
  have hg1 : w1.heap[w.heap.size]? = some (.cells (bktC 0 0 (.slice none 0 0)) 24 (0, 0)) := by rw [← hw1]; exact heap_alloc_new _ _
  have HW1 := Lib.hid hw1
  have HB1 := Lib.hid hb1
  have HG1 := Lib.hid hg1
  have hend := setRow_heap w1 w.heap.size _ (bktC 0 0 (.slice none 0 0)) _ _ HG1.out
  have hfin : UnpRet 0 0 [] 5 w (.returned (.tuple #[.agg (bktC 0 0 (.slice none 0 0)), .int .i64 5])) (w1.setRow w.heap.size (bktC 0 0 (.slice none 0 0))) := ⟨_, _, _, rfl, EntsAt.nil _ _ _ _, below_setRow HB1.out (Nat.le_refl _) _⟩
  have HE := Lib.hid (And.intro hend hfin)
  clear hend hfin hw1 hg1
  obtain ⟨a, cap, rfl, hcap, _, hv2⟩ := id hv
  have hl5 : (l.length : Int) ≤ 100000 := by omega
  by_cases hs : l.length < 10
  · have k1 : (l.length : Int) < 10 := by omega
    clear h hs hv hv2 hb1
    go_enter Try.func13, Try.ntmps13
    go_upto_region 1 with (fail)
    rw [HW1.out]
    go_wp2_with (refine wpList_store_row (o := ⟨none, _, _, _, _, _⟩) rfl 24 (.tmp 4) (.tmp 29) rfl w.heap.size (bktC 0 0 (.slice none 0 0)) rfl rfl 24 (bktC 0 0 (.slice none 0 0)) HG1.out (bktD_sz _ _ _) rfl ?_ ?_; exact bkt_one _ _ _ _ _)
    exact bodyPost_ret (refUnp_res _ w.heap.size _ 5 _ rfl rfl HE.out.1 (bktD_sz _ _ _)) rfl HE.out.2
  · obtain ⟨e2, hne⟩ := h.resolve_left hs
    obtain ⟨g, off, rfl, hg, hc⟩ := hv2.resolve_left (fun h => by rw [h] at hs; exact hs (by decide))
    have hc1 := hc 1 (by omega)
    rw [e2] at hc1
    have b1 : w1.cell? ⟨g, off + 1, none⟩ = some (.int .u8 (C : Int)) := (hb1.cell (p := ⟨g, off + 1, none⟩) hg).trans hc1
    have k1 : ¬ ((l.length : Int) < 10) := by omega
    have k2 : ((l.length : Int) != (10 + 20 * (C : Int))) = true := by rw [bne_iff_ne]; omega
    have k3 : (1 : Int) < l.length := by omega
    have k4 : 1 < l.length := by omega
    have q1 : IntKind.i64.wrap (C : Int) = C := IntWalk.i64_in _ (by omega)
    have q2 : wrap64 (20 * (C : Int)) = 20 * C := IntWalk.wrap64_in _ (by omega)
    have q3 : wrap64 (10 + 20 * (C : Int)) = 10 + 20 * C := IntWalk.wrap64_in _ (by omega)
    clear h hs hv hv2 hb1 hc hc1 e2 hne
    go_enter Try.func13, Try.ntmps13
    go_upto_region 1 with (fail)
    rw [HW1.out]
    go_wp2_with (refine wpList_store_row (o := ⟨none, _, _, _, _, _⟩) rfl 24 (.tmp 4) (.tmp 29) rfl w.heap.size (bktC 0 0 (.slice none 0 0)) rfl rfl 24 (bktC 0 0 (.slice none 0 0)) HG1.out (bktD_sz _ _ _) rfl ?_ ?_; exact bkt_one _ _ _ _ _)
    exact bodyPost_ret (refUnp_res _ w.heap.size _ 5 _ rfl rfl HE.out.1 (bktD_sz _ _ _)) rfl HE.out.2
theorem unp_yes (d p : Int) (es : List Ent) (w : World) (e : Ending) (w' : World) (h : UnpRes d p es true w e w') : UnpRet d p es 0 w e w' := by
  rcases h with ⟨_, h⟩ | ⟨h, _⟩
  · exact h
  · cases h
theorem unp_no (d p : Int) (es : List Ent) (w : World) (e : Ending) (w' : World) (h : UnpRes d p es false w e w') : UnpRet 0 0 [] 5 w e w' := by
  rcases h with ⟨h, _⟩ | ⟨_, h⟩
  · cases h
  · exact h
/-- Of any load both answer the same. -/
theorem both_any (l : List (BitVec 8)) (s : Int) (hl : l.length ≤ 100000) : ∃ (d p : Int) (es : List Ent) (er : Int), es.length ≤ 255 ∧
    (∀ v w, BytesAt w.heap.size w v l → Calls Try.prog 12 #[v, .int .i64 s] w (UnpRet d p es er w)) ∧
    (∀ v w, BytesAt w.heap.size w v l → Calls Try.prog 13 #[v, .int .i64 s] w (UnpRet d p es er w)) := by
  by_cases hs : l.length < 10
  · obtain ⟨C, hC, e2⟩ := rdN_small (rdL l 1)
    exact ⟨0, 0, [], 5, by decide, fun v w hv => unpack_bad l v s w C hv hl hC e2 (by omega), fun v w hv => refUnpack_bad l v s w C hv hl hC (.inl hs)⟩
  · obtain ⟨b1, hb1⟩ : ∃ b, l[1]?.getD 0 = b := ⟨_, rfl⟩
    have hC : b1.toNat ≤ 255 := by have := b1.isLt; omega
    have t1 : (l.drop 1).take 1 = [b1] := by rw [take1b l 1 (by omega), hb1]
    have t0 : l.take 1 = [l[0]?.getD 0] := by have := take1b l 0 (by omega); rwa [List.drop_zero] at this
    have e2 : wrap64 (U (leOf ((l.drop 1).take 1))) = (b1.toNat : Int) := by rw [t1, leOf_one, wrapU8I]
    by_cases hlen : l.length = 10 + 20 * b1.toNat
    · have e1 : wrap64 (U (leOf (l.take 1))) = U (l[0]?.getD 0) := by rw [t0, leOf_one, wrapU8I]; rfl
      obtain ⟨p, hp⟩ : ∃ p, wrap64 (U (leOf ((l.drop 2).take 8))) = p := ⟨_, rfl⟩
      have eb : U (l[1]?.getD 0) = (b1.toNat : Int) := by rw [hb1]; rfl
      by_cases hR : Right14 (U (l[0]?.getD 0)) p s (entsOf l b1.toNat)
      · have f1 : ∀ v w, BytesAt w.heap.size w v l → Calls Try.prog 12 #[v, .int .i64 s] w (UnpRet (U (l[0]?.getD 0)) p (entsOf l b1.toNat) 0 w) := fun v w hv => (unpack_long l v s w _ p b1.toNat hv hC e1 e2 hp hlen true (iff_of_true rfl hR)).mono (unp_yes _ _ _ w)
        have f2 : ∀ v w, BytesAt w.heap.size w v l → Calls Try.prog 13 #[v, .int .i64 s] w (UnpRet (U (l[0]?.getD 0)) p (entsOf l b1.toNat) 0 w) := fun v w hv => (refUnpack_long l v s w _ p b1.toNat hv hC rfl eb hp hlen true (iff_of_true rfl hR)).mono (unp_yes _ _ _ w)
        exact ⟨_, p, entsOf l b1.toNat, 0, by rw [entsOf_len]; exact hC, f1, f2⟩
      · have f1 : ∀ v w, BytesAt w.heap.size w v l → Calls Try.prog 12 #[v, .int .i64 s] w (UnpRet 0 0 [] 5 w) := fun v w hv => (unpack_long l v s w _ p b1.toNat hv hC e1 e2 hp hlen false (iff_of_false (by decide) hR)).mono (unp_no _ _ _ w)
        have f2 : ∀ v w, BytesAt w.heap.size w v l → Calls Try.prog 13 #[v, .int .i64 s] w (UnpRet 0 0 [] 5 w) := fun v w hv => (refUnpack_long l v s w _ p b1.toNat hv hC rfl eb hp hlen false (iff_of_false (by decide) hR)).mono (unp_no _ _ _ w)
        exact ⟨0, 0, [], 5, by decide, f1, f2⟩
    · exact ⟨0, 0, [], 5, by decide, fun v w hv => unpack_bad l v s w b1.toNat hv hl hC (by rw [rdN_of l (by omega)]; exact e2) hlen, fun v w hv => refUnpack_bad l v s w b1.toNat hv hl hC (.inr ⟨by rw [hb1]; rfl, hlen⟩)⟩
end Go.Proofs.Ytlpfjmahinfeoaa

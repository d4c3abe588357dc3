/-
  The document's own answers of layer 16: Add, Since.
  Conditions: none.
-/
import Derived.Test.YtjcpiljgbomceaaTal4
namespace Go.Proofs.Ytjcpiljgbomceaa
open Go.RowKit
attribute [go_sem] Builtin.append_

/-- What the reference's Add leaves. -/
def RefAdd (l : List Int) (w : World) (e : Ending) (w' : World) : Prop := ∃ v, e = .returned (.tuple #[v, .bool true]) ∧ IntsAt w'.heap.size w' v l ∧ FreshI w.heap.size v ∧ Below w.heap.size w w'
set_option maxHeartbeats 1000000 in
theorem refAdd_not {w : World} {v : Value} {l : List Int} (h : IntsAt w.heap.size w v l) (hl : l.length ≤ 64) (i n : Int) (hno : hasK l i = false ∨ n < 0) :
    Calls Try.prog 10 #[v, .int .i64 i, .int .i64 n] w fun e w' => e = .returned (.tuple #[v, .bool false]) ∧ w = w' := by
  obtain ⟨a, c, rfl⟩ := h.slice
  have l1 : (l.length : Int) ≤ 64 := by omega
  clear h
  by_cases h1 : i < 0
  · clear hno
    go_enter Try.func10, Try.ntmps10
    go_wp2
    go_ret2
    exact ⟨rfl, rfl⟩
  · by_cases h2 : (l.length : Int) ≤ i
    · clear hno
      go_enter Try.func10, Try.ntmps10
      go_wp2
      go_ret2
      exact ⟨rfl, rfl⟩
    · have h3 : n < 0 := by
        rcases hno with h | h
        · unfold hasK at h; simp at h; omega
        · exact h
      clear hno
      go_enter Try.func10, Try.ntmps10
      go_wp2
      go_ret2
      exact ⟨rfl, rfl⟩
set_option maxHeartbeats 2000000 in
theorem refAdd_any {w : World} {v : Value} {l : List Int} (h : IntsAt w.heap.size w v l) (hok : CountOk l) {k : Nat} (hk : k < l.length) (n : Int) (hn : 0 ≤ n) (hn2 : n ≤ 9223372036854775807) :
    Calls Try.prog 10 #[v, .int .i64 k, .int .i64 n] w (RefAdd (addL l k n) w) := by
  obtain ⟨i0, hi, hz0, hz1, hz2⟩ := info_partsI infoInt
  obtain ⟨a, c, rfl⟩ := h.slice
  have l1 : (l.length : Int) ≤ 64 := by have := hok.1; omega
  have l2 := hok.1
  have hc := hok.2 k hk
  have HAL : Hid (∀ d, addC (l[k]?.getD 0) n = d → addL l k n = l.set k d) := fun d hd => by unfold addL; rw [hd]
  have HU := Lib.hid h
  have k1 : (k : Int) < l.length := by omega
  have HK := Lib.hid hk
  have HGET : Hid ((ints l)[k]? = some (.int .i64 (l[k]?.getD 0))) := ints_get l hk
  clear h hok hk
  generalize (l[k]?.getD 0) = x at *
  obtain ⟨hc1, hc2⟩ := hc
  have e1 : wrap64 (1152921504606846976 - x) = 1152921504606846976 - x := IntWalk.wrap64_in _ ⟨by omega, by omega⟩
  have rest : ∀ (W : World) (v' : Value) (m : Nat), Hid (m = ([] ++ l).length) → W.ownsRow w.heap.size 3 1 v' m (ints ([] ++ l)) → ∃ g cc, v' = .slice (some ⟨g, 0, none⟩) l.length cc ∧ W.ownsRow w.heap.size 3 1 (.slice (some ⟨g, 0, none⟩) l.length cc) l.length (ints l) := by
    intro W v' m hm ho
    have hm' : m = l.length := hm.out
    subst hm'
    rw [List.nil_append] at ho
    obtain ⟨L, hL⟩ : ∃ L, l.length = L + 1 := ⟨l.length - 1, by have := HK.out; omega⟩
    rw [hL] at ho
    obtain ⟨g, cc, rfl⟩ := ownsRow_succ ho
    rw [← hL] at ho
    exact ⟨g, cc, by rw [hL], ho⟩
  have HR := Lib.hid rest
  clear rest
  by_cases hs : 1152921504606846976 - x < n
  · have hd : addC x n = 1152921504606846976 := by unfold addC; omega
    rw [HAL.out _ hd]
    clear hd HAL
    go_enter Try.func10, Try.ntmps10
    go_wp2_with (at_builtin; refine wpList_append_ints (by rfl) _ _ (by rfl) (by rfl) w.heap.size i0 hi hz0 hz1 hz2 _ (by rfl) [] (ownInts_empty w w.heap.size (Nat.le_refl _)) (.slice a l.length c) (by rfl) w.heap.size l (HU.out.below ((Below.refl _ w).alloc (Nat.le_refl _) _)) (by simp; omega) (by simp) ?_; intro v' w2 m hm hown hgrow hat; obtain ⟨g, cc, rfl, hown2⟩ := HR.out _ _ _ hm hown; have cg := hown2.cellAt k (by have := HK.out; omega); rw [HGET.out] at cg; have fg := hown2.frozenAt k; have HO := Lib.hid hown2; have HG := Lib.hid hgrow; clear hm hown hgrow hat hown2)
    go_ret2
    obtain ⟨s1, s2⟩ := HO.out.stored k (.int .i64 1152921504606846976)
    rw [ints_set] at s1
    refine ⟨_, rfl, IntsAt.of_owns s1 (by simp), fun b e => (s1.lt b e).1, ?_⟩
    exact (((Below.refl _ w).alloc (Nat.le_refl _) _).grown HG.out (by simp) (fun b e => by simp [Value.ownBlock] at e; omega)).setCell (p := ⟨g, k, none⟩) (HO.out.lt g rfl).1 _
  · have hd : addC x n = x + n := by unfold addC; omega
    rw [HAL.out _ hd]
    clear hd HAL
    have e2 : wrap64 (x + n) = x + n := IntWalk.wrap64_in _ ⟨by omega, by omega⟩
    have hs2 : n ≤ 1152921504606846976 - x := by omega
    go_enter Try.func10, Try.ntmps10
    go_wp2_with (at_builtin; refine wpList_append_ints (by rfl) _ _ (by rfl) (by rfl) w.heap.size i0 hi hz0 hz1 hz2 _ (by rfl) [] (ownInts_empty w w.heap.size (Nat.le_refl _)) (.slice a l.length c) (by rfl) w.heap.size l (HU.out.below ((Below.refl _ w).alloc (Nat.le_refl _) _)) (by simp; omega) (by simp) ?_; intro v' w2 m hm hown hgrow hat; obtain ⟨g, cc, rfl, hown2⟩ := HR.out _ _ _ hm hown; have cg := hown2.cellAt k (by have := HK.out; omega); rw [HGET.out] at cg; have fg := hown2.frozenAt k; have HO := Lib.hid hown2; have HG := Lib.hid hgrow; clear hm hown hgrow hat hown2)
    go_ret2
    obtain ⟨s1, s2⟩ := HO.out.stored k (.int .i64 (x + n))
    rw [ints_set] at s1
    refine ⟨_, rfl, IntsAt.of_owns s1 (by simp), fun b e => (s1.lt b e).1, ?_⟩
    exact (((Below.refl _ w).alloc (Nat.le_refl _) _).grown HG.out (by simp) (fun b e => by simp [Value.ownBlock] at e; omega)).setCell (p := ⟨g, k, none⟩) (HO.out.lt g rfl).1 _

/-- What has come of the rows when k rounds are over. -/
def sUp (es was : List Int) (k : Nat) : List Int := (List.range es.length).map fun i => if i < k then sinceF es was i else es[i]?.getD 0
theorem sUp_len (es was : List Int) (k : Nat) : (sUp es was k).length = es.length := by simp [sUp]
theorem sUp_zero (es was : List Int) : sUp es was 0 = es := by
  unfold sUp
  refine List.ext_getElem (by simp) fun i h1 h2 => ?_
  simp [h2]
theorem sUp_all (es was : List Int) : sUp es was es.length = sinceL es was := by
  unfold sUp sinceL doneI
  refine List.map_congr_left fun i hi => ?_
  rw [if_pos (List.mem_range.1 hi)]
theorem sUp_get (es was : List Int) (k : Nat) (hk : k < es.length) : (ints (sUp es was k))[k]? = some (.int .i64 (es[k]?.getD 0)) := by
  rw [ints_get _ (by rw [sUp_len]; exact hk)]
  simp [sUp, hk]
theorem sUp_set (es was : List Int) (k : Nat) : (sUp es was k).set k (sinceF es was k) = sUp es was (k + 1) := by
  unfold sUp
  refine List.ext_getElem (by simp) fun i h1 h2 => ?_
  rw [List.getElem_set]
  by_cases e : k = i
  · subst e; simp
  · rw [if_neg e]
    simp only [List.getElem_map, List.getElem_range]
    by_cases h : i < k
    · rw [if_pos h, if_pos (by omega)]
    · rw [if_neg h, if_neg (by omega)]
theorem sUp_keep (es was : List Int) (k : Nat) (h : sinceF es was k = es[k]?.getD 0) : sUp es was (k + 1) = sUp es was k := by
  unfold sUp
  refine List.map_congr_left fun i hi => ?_
  by_cases e : i = k
  · subst e; simp [h]
  · by_cases h' : i < k
    · rw [if_pos h', if_pos (by omega)]
    · rw [if_neg h', if_neg (by omega)]
set_option maxHeartbeats 4000000 in
theorem refSince_any {w : World} {v u : Value} {es was : List Int} (h : IntsAt w.heap.size w v es) (hu : IntsAt w.heap.size w u was) (hok : CountOk es) (hpos : 0 < es.length) (hwl : was.length ≤ 1073741824) :
    Calls Try.prog 15 #[v, u] w (RowDid (sinceL es was) w) := by
  obtain ⟨i0, hi, hz0, hz1, hz2⟩ := info_partsI infoInt
  obtain ⟨a, c, rfl⟩ := h.slice
  obtain ⟨b, d, rfl⟩ := hu.slice
  have l1 : (es.length : Int) ≤ 64 := by have := hok.1; omega
  have l2 := hok.1
  have w1 : (was.length : Int) ≤ 1073741824 := by omega
  have HV := Lib.hid h
  have HU := Lib.hid hu
  have HOK := Lib.hid hok.2
  have rest : ∀ (W : World) (v' : Value) (m : Nat), Hid (m = ([] ++ es).length) → W.ownsRow w.heap.size 3 1 v' m (ints ([] ++ es)) → ∃ g cc, v' = .slice (some ⟨g, 0, none⟩) es.length cc ∧ W.ownsRow w.heap.size 3 1 (.slice (some ⟨g, 0, none⟩) es.length cc) es.length (ints es) := by
    intro W v' m hm ho
    have hm' : m = es.length := hm.out
    subst hm'
    rw [List.nil_append] at ho
    obtain ⟨L, hL⟩ : ∃ L, es.length = L + 1 := ⟨es.length - 1, by omega⟩
    rw [hL] at ho
    obtain ⟨g, cc, rfl⟩ := ownsRow_succ ho
    rw [← hL] at ho
    exact ⟨g, cc, by rw [hL], ho⟩
  have HR := Lib.hid rest
  clear h hu hok rest
  go_enter Try.func15, Try.ntmps15
  go_upto_region 2 with (at_builtin; refine wpList_append_ints (by rfl) _ _ (by rfl) (by rfl) w.heap.size i0 hi hz0 hz1 hz2 _ (by rfl) [] (ownInts_empty w w.heap.size (Nat.le_refl _)) (.slice a es.length c) (by rfl) w.heap.size es (HV.out.below ((Below.refl _ w).alloc (Nat.le_refl _) _)) (by simp; omega) (by simp) ?_; intro v' w2 m hm hown hgrow hat; obtain ⟨g, cc, rfl, hown2⟩ := HR.out _ _ _ hm hown; clear hm hown)
  have hB2 : Below w.heap.size w w2 := ((Below.refl _ w).alloc (Nat.le_refl _) _).grown hgrow (by simp) (fun b e => by simp [Value.ownBlock] at e; omega)
  have HO2 := Lib.hid hown2
  have HB2 := Lib.hid hB2
  clear hat hgrow hown2 hB2 HR HV
  go_wp2
  go_loopw [6] (fun iv wr => ∃ k : Nat, k ≤ es.length ∧ iv = .int .i64 k ∧ wr.ownsRow w.heap.size 3 1 (.slice (some ⟨g, 0, none⟩) es.length cc) es.length (ints (sUp es was k)) ∧ Below w.heap.size w wr) (fun iv _ => es.length - (intOf iv).toNat)
  case atStart => exact ⟨0, by omega, rfl, by rw [sUp_zero]; exact HO2.out, HB2.out⟩
  case round =>
    obtain ⟨k, hk, rfl, hO, hB⟩ := hrel
    by_cases hlt : k < es.length
    · have k1 : (k : Int) < es.length := by omega
      have c0 := hO.cellAt k (by omega)
      rw [sUp_get es was k hlt] at c0
      have f0 := hO.frozenAt k
      have HSET := Lib.hid (sUp_set es was k)
      have HKEEP := Lib.hid (sUp_keep es was k)
      have hx := HOK.out k hlt
      have HSF : Hid (∀ x, es[k]?.getD 0 = x → ∀ z, was[k]?.getD 0 = z → sinceF es was k = max (x - max z 0) 0) := fun x hx z hz => by unfold sinceF wasK; rw [hx, hz]
      have HO := Lib.hid hO
      have HB := Lib.hid hB
      have HLT := Lib.hid hlt
      by_cases hw : k < was.length
      · obtain ⟨g2, o2, rfl, hg2, c1⟩ := (HU.out.below hB).get hw
        have k2 : (k : Int) < was.length := by omega
        have HSF2 := Lib.hid (HSF.out _ rfl _ rfl)
        generalize (es[k]?.getD 0) = x at *
        generalize (was[k]?.getD 0) = z at *
        obtain ⟨hx1, hx2⟩ := hx
        clear hO hB hlt hw HSF
        by_cases hz : 0 < z
        · by_cases hzx : x ≤ z
          · have hF : sinceF es was k = 0 := by rw [HSF2.out]; omega
            rw [hF] at HSET
            clear hF HKEEP HSF2
            go_wp2_with fail
            go_quiet (fail)
            go_wp2
            go_roundw
            case rel => exact ⟨k + 1, by have := HLT.out; omega, by go_num, by rw [← HSET.out, ← ints_set]; exact (World.ownsRow.stored (w := wr.drewN _) HO.out k _).1, (below_drewI HB.out _).setCell (p := ⟨g, k, none⟩) (HO.out.lt g rfl).1 _⟩
            case measure => have := HLT.out; simp [intOf]; omega
          · have hF : sinceF es was k = x - z := by rw [HSF2.out]; omega
            rw [hF] at HSET
            have hzx2 : ¬ x ≤ z := hzx
            have ez : IntKind.i64.wrap (x - z) = x - z := wrapI (by omega) (by omega)
            clear hF HKEEP HSF2
            go_wp2_with fail
            go_quiet (fail)
            go_upto_region 8 with fail
            obtain ⟨W1, hW1⟩ : ∃ W1, wr.drewN nq = W1 := ⟨_, rfl⟩
            rw [hW1]
            have q0 : W1.drew.cell? ⟨g, k, none⟩ = some (.int .i64 x) := by rw [← hW1]; exact c0
            have q1 : W1.drew.cell? ⟨g2, o2 + k, none⟩ = some (.int .i64 z) := by rw [← hW1]; exact c1
            have q2 : W1.drew.frozen? ⟨g, k, none⟩ = false := by rw [← hW1]; exact f0
            have HO1 : Hid (W1.drew.ownsRow w.heap.size 3 1 (.slice (some ⟨g, 0, none⟩) es.length cc) es.length (ints (sUp es was k))) := by unfold Hid; rw [← hW1]; exact HO.out
            have HB1 : Hid (Below w.heap.size w W1.drew) := by unfold Hid; rw [← hW1]; exact (below_drewI HB.out _).drew
            clear hW1 c0 c1 f0
            go_still_tail 9, (by kernel_rfl)
            change wpList _ _ _ _ _ W1.drew
            go_wp2
            go_roundw
            case rel => exact ⟨k + 1, by have := HLT.out; omega, by go_num, by rw [← HSET.out, ← ints_set]; exact (HO1.out.stored k _).1, HB1.out.setCell (p := ⟨g, k, none⟩) (HO1.out.lt g rfl).1 _⟩
            case measure => have := HLT.out; simp [intOf]; omega
        · have hF : sinceF es was k = x := by rw [HSF2.out]; omega
          have HK2 := Lib.hid (HKEEP.out hF)
          clear hF HKEEP HSF2 HSET
          go_wp2
          go_roundw
          case rel => exact ⟨k + 1, by have := HLT.out; omega, by go_num, by rw [HK2.out]; exact HO.out, HB.out⟩
          case measure => have := HLT.out; simp [intOf]; omega
      · have hz0 : was[k]?.getD 0 = 0 := by rw [List.getElem?_eq_none (by omega)]; rfl
        have hF : sinceF es was k = es[k]?.getD 0 := by rw [HSF.out _ rfl _ hz0]; have := hx.1; omega
        have HK2 := Lib.hid (HKEEP.out hF)
        have k2 : (was.length : Int) ≤ k := by omega
        clear hF HKEEP HSF HSET hz0 hO hB hlt hw
        go_wp2
        go_roundw
        case rel => exact ⟨k + 1, by have := HLT.out; omega, by go_num, by rw [HK2.out]; exact HO.out, HB.out⟩
        case measure => have := HLT.out; simp [intOf]; omega
    · obtain rfl : k = es.length := by omega
      rw [sUp_all] at hO
      have hl : (sinceL es was).length = es.length := by simp [sinceL, doneI]
      have HD : Hid (RowDid (sinceL es was) w (.returned (.slice (some ⟨g, 0, none⟩) es.length cc)) wr) := ⟨_, rfl, IntsAt.of_owns hO hl.symm, fun b e => (hO.lt b e).1, hB⟩
      clear hO hB hl
      go_wp2
      go_ret
      exact HD.out
end Go.Proofs.Ytjcpiljgbomceaa

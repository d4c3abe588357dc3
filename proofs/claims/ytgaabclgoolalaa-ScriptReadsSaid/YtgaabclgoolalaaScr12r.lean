/-
  sgraffitoref20's Right.
  Conditions: none.
-/
import Derived.Test.YtgaabclgoolalaaScr12
namespace Go.Proofs.Ytgaabclgoolalaa
open Go.RowKit
attribute [local go_sem] Oper.semAt_some

set_option maxRecDepth 100000 in
set_option maxHeartbeats 16000000 in
theorem refRight20_n (kind num : Int) (sk sv : ByteArray) (n1 n2 n3 : Nat) (s1 : sk.size = n1) (s2 : sv.size = n2) (a3 : Option Addr) (c3 : Nat) (w : World) : Calls Try.prog 21 #[.agg #[.int .i64 kind, .string sk, .string sv, .int .i64 num, .slice a3 n3 c3]] w fun e w' => e = .returned (.bool (decide (kn kind < 10) && fitB (wk (kn kind)) (wv (kn kind)) (wu (kn kind)) (wl (kn kind)) (wm (kn kind)) n1 n2 num n3)) ∧ Below w.heap.size w w' := by
  obtain ⟨w1, hw1⟩ : ∃ w1, w.alloc (.cells #[.int .i64 kind, .string sk, .string sv, .int .i64 num, .slice a3 n3 c3] 54) = w1 := ⟨_, rfl⟩
  have hb1 : Below w.heap.size w w1 := by rw [← hw1]; exact (Below.refl _ w).alloc (Nat.le_refl _) _
  have hk1 : w1.heap[w.heap.size]? = some (.cells #[.int .i64 kind, .string sk, .string sv, .int .i64 num, .slice a3 n3 c3] 54 (0, 0)) := by rw [← hw1]; exact heap_alloc_new _ _
  have HC : Hid (∀ W, Below w1.heap.size w1 W → W.cell? ⟨w.heap.size, 0, none⟩ = some (.int .i64 kind) ∧ W.cell? ⟨w.heap.size, 1, none⟩ = some (.string sk) ∧ W.cell? ⟨w.heap.size, 2, none⟩ = some (.string sv) ∧ W.cell? ⟨w.heap.size, 3, none⟩ = some (.int .i64 num) ∧ W.cell? ⟨w.heap.size, 4, none⟩ = some (.slice a3 n3 c3)) := fun W h => by
    have h0 := (h.block _ (blk_lt hk1)).trans hk1
    exact ⟨blk_cell h0 0, blk_cell h0 1, blk_cell h0 2, blk_cell h0 3, blk_cell h0 4⟩
  obtain ⟨c0, c1, c2, c3', c4⟩ := HC.out w1 (Below.refl _ _)
  have HW1 := Lib.hid hw1
  have HB1 := Lib.hid hb1
  have HH := Lib.hid (fun W => has_any kind W)
  clear hw1 hb1 hk1
  rcases kn_is kind with ⟨hk, ek⟩ | ⟨hk, ek⟩
  · by_cases hl1 : n1 ≤ 65535
    · by_cases hl2 : n2 ≤ 65535
      · have i1 : ¬ (65535 : Int) < n1 := by omega
        have i2 : ¬ (65535 : Int) < n2 := by omega
        obtain ⟨n, hn⟩ : ∃ n, kn kind = n := ⟨_, rfl⟩
        rw [hn] at hk ek HH
        rw [hn]
        have HL1 := Lib.hid hl1
        have HL2 := Lib.hid hl2
        clear hl1 hl2 hn
        have h9 : n = 0 ∨ n = 1 ∨ n = 2 ∨ n = 3 ∨ n = 4 ∨ n = 5 ∨ n = 6 ∨ n = 7 ∨ n = 8 ∨ n = 9 := by omega
        clear hk
        rcases h9 with rfl | rfl | rfl | rfl | rfl | rfl | rfl | rfl | rfl | rfl
        · have ek9 : kind = 0 := ek
          rw [ek9] at c0 HC HW1 HH
          rw [ek9]
          clear ek ek9
          have HHi : Hid (∀ W, Calls Try.prog 19 #[.int .i64 0] W fun e w' => e = .returned (.agg #[.bool true, .bool false, .bool false]) ∧ Below W.heap.size W w') := HH.out
          clear HH
          by_cases hn2 : n2 = 0
          · have jn2 : ¬ (0 : Int) < n2 := by omega
            by_cases hnum : num = 0
            · have jn : (num != 0) = false := by simp [hnum]
              have HR : Hid ((decide (0 < 10) && fitB (wk 0) (wv 0) (wu 0) (wl 0) (wm 0) n1 n2 num n3) = ((n3 : Int) == 0)) := by
                unfold Hid fitB fitT; have t1 := HL1.out; have t2 := HL2.out; rw [Bool.eq_iff_iff]; simp [wk, wv, wu, wl, wm, hn2, hnum]; try omega
              clear hn2 hnum
              as_aux_lemma =>
              go_enter Try.func21, Try.ntmps21
              go_upto_region 1 with (fail)
              rw [HW1.out]
              clear HW1
              go_wp2_with (go_at_call 19; (with_reducible refine (HHi.out _).mono ?_); rintro e w2 ⟨rfl, hb⟩; have hb3 := hb.alloc hb.size (.cells #[.bool true, .bool false, .bool false] 55); obtain ⟨d0, d1, d2, d3, d4⟩ := HC.out _ hb3; have HB3 := Lib.hid (HB1.out.trans (hb3.mono HB1.out.size)); clear hb hb3 c0 c1 c2 c3' c4)
              go_ret
              exact ⟨by rw [HR.out]; try rfl, HB3.out⟩
            · have jn : (num != 0) = true := by simp [hnum]
              have HR : Hid ((decide (0 < 10) && fitB (wk 0) (wv 0) (wu 0) (wl 0) (wm 0) n1 n2 num n3) = false) := by
                unfold Hid fitB fitT; have t1 := HL1.out; have t2 := HL2.out; rw [Bool.eq_iff_iff]; simp [wk, wv, wu, wl, wm, hn2, hnum]; try omega
              clear hn2 hnum
              as_aux_lemma =>
              go_enter Try.func21, Try.ntmps21
              go_upto_region 1 with (fail)
              rw [HW1.out]
              clear HW1
              go_wp2_with (go_at_call 19; (with_reducible refine (HHi.out _).mono ?_); rintro e w2 ⟨rfl, hb⟩; have hb3 := hb.alloc hb.size (.cells #[.bool true, .bool false, .bool false] 55); obtain ⟨d0, d1, d2, d3, d4⟩ := HC.out _ hb3; have HB3 := Lib.hid (HB1.out.trans (hb3.mono HB1.out.size)); clear hb hb3 c0 c1 c2 c3' c4)
              go_ret
              exact ⟨by rw [HR.out]; try rfl, HB3.out⟩
          · have pn2 : 0 < n2 := by omega
            have jn2 : (0 : Int) < n2 := by omega
            have HR : Hid ((decide (0 < 10) && fitB (wk 0) (wv 0) (wu 0) (wl 0) (wm 0) n1 n2 num n3) = false) := by
              unfold Hid fitB fitT; have t1 := HL1.out; have t2 := HL2.out; rw [Bool.eq_iff_iff]; simp [wk, wv, wu, wl, wm, hn2]; try omega
            clear hn2
            as_aux_lemma =>
            go_enter Try.func21, Try.ntmps21
            go_upto_region 1 with (fail)
            rw [HW1.out]
            clear HW1
            go_wp2_with (go_at_call 19; (with_reducible refine (HHi.out _).mono ?_); rintro e w2 ⟨rfl, hb⟩; have hb3 := hb.alloc hb.size (.cells #[.bool true, .bool false, .bool false] 55); obtain ⟨d0, d1, d2, d3, d4⟩ := HC.out _ hb3; have HB3 := Lib.hid (HB1.out.trans (hb3.mono HB1.out.size)); clear hb hb3 c0 c1 c2 c3' c4)
            go_ret
            exact ⟨by rw [HR.out]; try rfl, HB3.out⟩
        · have ek9 : kind = 1 := ek
          rw [ek9] at c0 HC HW1 HH
          rw [ek9]
          clear ek ek9
          have HHi : Hid (∀ W, Calls Try.prog 19 #[.int .i64 1] W fun e w' => e = .returned (.agg #[.bool true, .bool true, .bool true]) ∧ Below W.heap.size W w') := HH.out
          clear HH
          have HR : Hid ((decide (1 < 10) && fitB (wk 1) (wv 1) (wu 1) (wl 1) (wm 1) n1 n2 num n3) = ((n3 : Int) == 0)) := by
            unfold Hid fitB fitT; have t1 := HL1.out; have t2 := HL2.out; rw [Bool.eq_iff_iff]; simp [wk, wv, wu, wl, wm]; try omega
          as_aux_lemma =>
          go_enter Try.func21, Try.ntmps21
          go_upto_region 1 with (fail)
          rw [HW1.out]
          clear HW1
          go_wp2_with (go_at_call 19; (with_reducible refine (HHi.out _).mono ?_); rintro e w2 ⟨rfl, hb⟩; have hb3 := hb.alloc hb.size (.cells #[.bool true, .bool true, .bool true] 55); obtain ⟨d0, d1, d2, d3, d4⟩ := HC.out _ hb3; have HB3 := Lib.hid (HB1.out.trans (hb3.mono HB1.out.size)); clear hb hb3 c0 c1 c2 c3' c4)
          go_ret
          exact ⟨by rw [HR.out]; try rfl, HB3.out⟩
        · have ek9 : kind = 2 := ek
          rw [ek9] at c0 HC HW1 HH
          rw [ek9]
          clear ek ek9
          have HHi : Hid (∀ W, Calls Try.prog 19 #[.int .i64 2] W fun e w' => e = .returned (.agg #[.bool true, .bool false, .bool false]) ∧ Below W.heap.size W w') := HH.out
          clear HH
          by_cases hn2 : n2 = 0
          · have jn2 : ¬ (0 : Int) < n2 := by omega
            by_cases hnum : num = 0
            · have jn : (num != 0) = false := by simp [hnum]
              have HR : Hid ((decide (2 < 10) && fitB (wk 2) (wv 2) (wu 2) (wl 2) (wm 2) n1 n2 num n3) = ((n3 : Int) == 0)) := by
                unfold Hid fitB fitT; have t1 := HL1.out; have t2 := HL2.out; rw [Bool.eq_iff_iff]; simp [wk, wv, wu, wl, wm, hn2, hnum]; try omega
              clear hn2 hnum
              as_aux_lemma =>
              go_enter Try.func21, Try.ntmps21
              go_upto_region 1 with (fail)
              rw [HW1.out]
              clear HW1
              go_wp2_with (go_at_call 19; (with_reducible refine (HHi.out _).mono ?_); rintro e w2 ⟨rfl, hb⟩; have hb3 := hb.alloc hb.size (.cells #[.bool true, .bool false, .bool false] 55); obtain ⟨d0, d1, d2, d3, d4⟩ := HC.out _ hb3; have HB3 := Lib.hid (HB1.out.trans (hb3.mono HB1.out.size)); clear hb hb3 c0 c1 c2 c3' c4)
              go_ret
              exact ⟨by rw [HR.out]; try rfl, HB3.out⟩
            · have jn : (num != 0) = true := by simp [hnum]
              have HR : Hid ((decide (2 < 10) && fitB (wk 2) (wv 2) (wu 2) (wl 2) (wm 2) n1 n2 num n3) = false) := by
                unfold Hid fitB fitT; have t1 := HL1.out; have t2 := HL2.out; rw [Bool.eq_iff_iff]; simp [wk, wv, wu, wl, wm, hn2, hnum]; try omega
              clear hn2 hnum
              as_aux_lemma =>
              go_enter Try.func21, Try.ntmps21
              go_upto_region 1 with (fail)
              rw [HW1.out]
              clear HW1
              go_wp2_with (go_at_call 19; (with_reducible refine (HHi.out _).mono ?_); rintro e w2 ⟨rfl, hb⟩; have hb3 := hb.alloc hb.size (.cells #[.bool true, .bool false, .bool false] 55); obtain ⟨d0, d1, d2, d3, d4⟩ := HC.out _ hb3; have HB3 := Lib.hid (HB1.out.trans (hb3.mono HB1.out.size)); clear hb hb3 c0 c1 c2 c3' c4)
              go_ret
              exact ⟨by rw [HR.out]; try rfl, HB3.out⟩
          · have pn2 : 0 < n2 := by omega
            have jn2 : (0 : Int) < n2 := by omega
            have HR : Hid ((decide (2 < 10) && fitB (wk 2) (wv 2) (wu 2) (wl 2) (wm 2) n1 n2 num n3) = false) := by
              unfold Hid fitB fitT; have t1 := HL1.out; have t2 := HL2.out; rw [Bool.eq_iff_iff]; simp [wk, wv, wu, wl, wm, hn2]; try omega
            clear hn2
            as_aux_lemma =>
            go_enter Try.func21, Try.ntmps21
            go_upto_region 1 with (fail)
            rw [HW1.out]
            clear HW1
            go_wp2_with (go_at_call 19; (with_reducible refine (HHi.out _).mono ?_); rintro e w2 ⟨rfl, hb⟩; have hb3 := hb.alloc hb.size (.cells #[.bool true, .bool false, .bool false] 55); obtain ⟨d0, d1, d2, d3, d4⟩ := HC.out _ hb3; have HB3 := Lib.hid (HB1.out.trans (hb3.mono HB1.out.size)); clear hb hb3 c0 c1 c2 c3' c4)
            go_ret
            exact ⟨by rw [HR.out]; try rfl, HB3.out⟩
        · have ek9 : kind = 3 := ek
          rw [ek9] at c0 HC HW1 HH
          rw [ek9]
          clear ek ek9
          have HHi : Hid (∀ W, Calls Try.prog 19 #[.int .i64 3] W fun e w' => e = .returned (.agg #[.bool false, .bool false, .bool false]) ∧ Below W.heap.size W w') := HH.out
          clear HH
          by_cases hn1 : n1 = 0
          · have jn1 : ¬ (0 : Int) < n1 := by omega
            by_cases hn2 : n2 = 0
            · have jn2 : ¬ (0 : Int) < n2 := by omega
              by_cases hnum : num = 0
              · have jn : (num != 0) = false := by simp [hnum]
                have HR : Hid ((decide (3 < 10) && fitB (wk 3) (wv 3) (wu 3) (wl 3) (wm 3) n1 n2 num n3) = ((n3 : Int) == 0)) := by
                  unfold Hid fitB fitT; have t1 := HL1.out; have t2 := HL2.out; rw [Bool.eq_iff_iff]; simp [wk, wv, wu, wl, wm, hn1, hn2, hnum]; try omega
                clear hn1 hn2 hnum
                as_aux_lemma =>
                go_enter Try.func21, Try.ntmps21
                go_upto_region 1 with (fail)
                rw [HW1.out]
                clear HW1
                go_wp2_with (go_at_call 19; (with_reducible refine (HHi.out _).mono ?_); rintro e w2 ⟨rfl, hb⟩; have hb3 := hb.alloc hb.size (.cells #[.bool false, .bool false, .bool false] 55); obtain ⟨d0, d1, d2, d3, d4⟩ := HC.out _ hb3; have HB3 := Lib.hid (HB1.out.trans (hb3.mono HB1.out.size)); clear hb hb3 c0 c1 c2 c3' c4)
                go_ret
                exact ⟨by rw [HR.out]; try rfl, HB3.out⟩
              · have jn : (num != 0) = true := by simp [hnum]
                have HR : Hid ((decide (3 < 10) && fitB (wk 3) (wv 3) (wu 3) (wl 3) (wm 3) n1 n2 num n3) = false) := by
                  unfold Hid fitB fitT; have t1 := HL1.out; have t2 := HL2.out; rw [Bool.eq_iff_iff]; simp [wk, wv, wu, wl, wm, hn1, hn2, hnum]; try omega
                clear hn1 hn2 hnum
                as_aux_lemma =>
                go_enter Try.func21, Try.ntmps21
                go_upto_region 1 with (fail)
                rw [HW1.out]
                clear HW1
                go_wp2_with (go_at_call 19; (with_reducible refine (HHi.out _).mono ?_); rintro e w2 ⟨rfl, hb⟩; have hb3 := hb.alloc hb.size (.cells #[.bool false, .bool false, .bool false] 55); obtain ⟨d0, d1, d2, d3, d4⟩ := HC.out _ hb3; have HB3 := Lib.hid (HB1.out.trans (hb3.mono HB1.out.size)); clear hb hb3 c0 c1 c2 c3' c4)
                go_ret
                exact ⟨by rw [HR.out]; try rfl, HB3.out⟩
            · have pn2 : 0 < n2 := by omega
              have jn2 : (0 : Int) < n2 := by omega
              have HR : Hid ((decide (3 < 10) && fitB (wk 3) (wv 3) (wu 3) (wl 3) (wm 3) n1 n2 num n3) = false) := by
                unfold Hid fitB fitT; have t1 := HL1.out; have t2 := HL2.out; rw [Bool.eq_iff_iff]; simp [wk, wv, wu, wl, wm, hn1, hn2]; try omega
              clear hn1 hn2
              as_aux_lemma =>
              go_enter Try.func21, Try.ntmps21
              go_upto_region 1 with (fail)
              rw [HW1.out]
              clear HW1
              go_wp2_with (go_at_call 19; (with_reducible refine (HHi.out _).mono ?_); rintro e w2 ⟨rfl, hb⟩; have hb3 := hb.alloc hb.size (.cells #[.bool false, .bool false, .bool false] 55); obtain ⟨d0, d1, d2, d3, d4⟩ := HC.out _ hb3; have HB3 := Lib.hid (HB1.out.trans (hb3.mono HB1.out.size)); clear hb hb3 c0 c1 c2 c3' c4)
              go_ret
              exact ⟨by rw [HR.out]; try rfl, HB3.out⟩
          · have pn1 : 0 < n1 := by omega
            have jn1 : (0 : Int) < n1 := by omega
            have HR : Hid ((decide (3 < 10) && fitB (wk 3) (wv 3) (wu 3) (wl 3) (wm 3) n1 n2 num n3) = false) := by
              unfold Hid fitB fitT; have t1 := HL1.out; have t2 := HL2.out; rw [Bool.eq_iff_iff]; simp [wk, wv, wu, wl, wm, hn1]; try omega
            clear hn1
            as_aux_lemma =>
            go_enter Try.func21, Try.ntmps21
            go_upto_region 1 with (fail)
            rw [HW1.out]
            clear HW1
            go_wp2_with (go_at_call 19; (with_reducible refine (HHi.out _).mono ?_); rintro e w2 ⟨rfl, hb⟩; have hb3 := hb.alloc hb.size (.cells #[.bool false, .bool false, .bool false] 55); obtain ⟨d0, d1, d2, d3, d4⟩ := HC.out _ hb3; have HB3 := Lib.hid (HB1.out.trans (hb3.mono HB1.out.size)); clear hb hb3 c0 c1 c2 c3' c4)
            go_ret
            exact ⟨by rw [HR.out]; try rfl, HB3.out⟩
        · have ek9 : kind = 4 := ek
          rw [ek9] at c0 HC HW1 HH
          rw [ek9]
          clear ek ek9
          have HHi : Hid (∀ W, Calls Try.prog 19 #[.int .i64 4] W fun e w' => e = .returned (.agg #[.bool false, .bool false, .bool false]) ∧ Below W.heap.size W w') := HH.out
          clear HH
          by_cases hn1 : n1 = 0
          · have jn1 : ¬ (0 : Int) < n1 := by omega
            by_cases hn2 : n2 = 0
            · have jn2 : ¬ (0 : Int) < n2 := by omega
              by_cases hnum : num = 0
              · have jn : (num != 0) = false := by simp [hnum]
                have HR : Hid ((decide (4 < 10) && fitB (wk 4) (wv 4) (wu 4) (wl 4) (wm 4) n1 n2 num n3) = ((n3 : Int) == 0)) := by
                  unfold Hid fitB fitT; have t1 := HL1.out; have t2 := HL2.out; rw [Bool.eq_iff_iff]; simp [wk, wv, wu, wl, wm, hn1, hn2, hnum]; try omega
                clear hn1 hn2 hnum
                as_aux_lemma =>
                go_enter Try.func21, Try.ntmps21
                go_upto_region 1 with (fail)
                rw [HW1.out]
                clear HW1
                go_wp2_with (go_at_call 19; (with_reducible refine (HHi.out _).mono ?_); rintro e w2 ⟨rfl, hb⟩; have hb3 := hb.alloc hb.size (.cells #[.bool false, .bool false, .bool false] 55); obtain ⟨d0, d1, d2, d3, d4⟩ := HC.out _ hb3; have HB3 := Lib.hid (HB1.out.trans (hb3.mono HB1.out.size)); clear hb hb3 c0 c1 c2 c3' c4)
                go_ret
                exact ⟨by rw [HR.out]; try rfl, HB3.out⟩
              · have jn : (num != 0) = true := by simp [hnum]
                have HR : Hid ((decide (4 < 10) && fitB (wk 4) (wv 4) (wu 4) (wl 4) (wm 4) n1 n2 num n3) = false) := by
                  unfold Hid fitB fitT; have t1 := HL1.out; have t2 := HL2.out; rw [Bool.eq_iff_iff]; simp [wk, wv, wu, wl, wm, hn1, hn2, hnum]; try omega
                clear hn1 hn2 hnum
                as_aux_lemma =>
                go_enter Try.func21, Try.ntmps21
                go_upto_region 1 with (fail)
                rw [HW1.out]
                clear HW1
                go_wp2_with (go_at_call 19; (with_reducible refine (HHi.out _).mono ?_); rintro e w2 ⟨rfl, hb⟩; have hb3 := hb.alloc hb.size (.cells #[.bool false, .bool false, .bool false] 55); obtain ⟨d0, d1, d2, d3, d4⟩ := HC.out _ hb3; have HB3 := Lib.hid (HB1.out.trans (hb3.mono HB1.out.size)); clear hb hb3 c0 c1 c2 c3' c4)
                go_ret
                exact ⟨by rw [HR.out]; try rfl, HB3.out⟩
            · have pn2 : 0 < n2 := by omega
              have jn2 : (0 : Int) < n2 := by omega
              have HR : Hid ((decide (4 < 10) && fitB (wk 4) (wv 4) (wu 4) (wl 4) (wm 4) n1 n2 num n3) = false) := by
                unfold Hid fitB fitT; have t1 := HL1.out; have t2 := HL2.out; rw [Bool.eq_iff_iff]; simp [wk, wv, wu, wl, wm, hn1, hn2]; try omega
              clear hn1 hn2
              as_aux_lemma =>
              go_enter Try.func21, Try.ntmps21
              go_upto_region 1 with (fail)
              rw [HW1.out]
              clear HW1
              go_wp2_with (go_at_call 19; (with_reducible refine (HHi.out _).mono ?_); rintro e w2 ⟨rfl, hb⟩; have hb3 := hb.alloc hb.size (.cells #[.bool false, .bool false, .bool false] 55); obtain ⟨d0, d1, d2, d3, d4⟩ := HC.out _ hb3; have HB3 := Lib.hid (HB1.out.trans (hb3.mono HB1.out.size)); clear hb hb3 c0 c1 c2 c3' c4)
              go_ret
              exact ⟨by rw [HR.out]; try rfl, HB3.out⟩
          · have pn1 : 0 < n1 := by omega
            have jn1 : (0 : Int) < n1 := by omega
            have HR : Hid ((decide (4 < 10) && fitB (wk 4) (wv 4) (wu 4) (wl 4) (wm 4) n1 n2 num n3) = false) := by
              unfold Hid fitB fitT; have t1 := HL1.out; have t2 := HL2.out; rw [Bool.eq_iff_iff]; simp [wk, wv, wu, wl, wm, hn1]; try omega
            clear hn1
            as_aux_lemma =>
            go_enter Try.func21, Try.ntmps21
            go_upto_region 1 with (fail)
            rw [HW1.out]
            clear HW1
            go_wp2_with (go_at_call 19; (with_reducible refine (HHi.out _).mono ?_); rintro e w2 ⟨rfl, hb⟩; have hb3 := hb.alloc hb.size (.cells #[.bool false, .bool false, .bool false] 55); obtain ⟨d0, d1, d2, d3, d4⟩ := HC.out _ hb3; have HB3 := Lib.hid (HB1.out.trans (hb3.mono HB1.out.size)); clear hb hb3 c0 c1 c2 c3' c4)
            go_ret
            exact ⟨by rw [HR.out]; try rfl, HB3.out⟩
        · have ek9 : kind = 5 := ek
          rw [ek9] at c0 HC HW1 HH
          rw [ek9]
          clear ek ek9
          have HHi : Hid (∀ W, Calls Try.prog 19 #[.int .i64 5] W fun e w' => e = .returned (.agg #[.bool false, .bool false, .bool true]) ∧ Below W.heap.size W w') := HH.out
          clear HH
          by_cases hn1 : n1 = 0
          · have jn1 : ¬ (0 : Int) < n1 := by omega
            by_cases hn2 : n2 = 0
            · have jn2 : ¬ (0 : Int) < n2 := by omega
              have HR : Hid ((decide (5 < 10) && fitB (wk 5) (wv 5) (wu 5) (wl 5) (wm 5) n1 n2 num n3) = ((n3 : Int) == 0)) := by
                unfold Hid fitB fitT; have t1 := HL1.out; have t2 := HL2.out; rw [Bool.eq_iff_iff]; simp [wk, wv, wu, wl, wm, hn1, hn2]; try omega
              clear hn1 hn2
              as_aux_lemma =>
              go_enter Try.func21, Try.ntmps21
              go_upto_region 1 with (fail)
              rw [HW1.out]
              clear HW1
              go_wp2_with (go_at_call 19; (with_reducible refine (HHi.out _).mono ?_); rintro e w2 ⟨rfl, hb⟩; have hb3 := hb.alloc hb.size (.cells #[.bool false, .bool false, .bool true] 55); obtain ⟨d0, d1, d2, d3, d4⟩ := HC.out _ hb3; have HB3 := Lib.hid (HB1.out.trans (hb3.mono HB1.out.size)); clear hb hb3 c0 c1 c2 c3' c4)
              go_ret
              exact ⟨by rw [HR.out]; try rfl, HB3.out⟩
            · have pn2 : 0 < n2 := by omega
              have jn2 : (0 : Int) < n2 := by omega
              have HR : Hid ((decide (5 < 10) && fitB (wk 5) (wv 5) (wu 5) (wl 5) (wm 5) n1 n2 num n3) = false) := by
                unfold Hid fitB fitT; have t1 := HL1.out; have t2 := HL2.out; rw [Bool.eq_iff_iff]; simp [wk, wv, wu, wl, wm, hn1, hn2]; try omega
              clear hn1 hn2
              as_aux_lemma =>
              go_enter Try.func21, Try.ntmps21
              go_upto_region 1 with (fail)
              rw [HW1.out]
              clear HW1
              go_wp2_with (go_at_call 19; (with_reducible refine (HHi.out _).mono ?_); rintro e w2 ⟨rfl, hb⟩; have hb3 := hb.alloc hb.size (.cells #[.bool false, .bool false, .bool true] 55); obtain ⟨d0, d1, d2, d3, d4⟩ := HC.out _ hb3; have HB3 := Lib.hid (HB1.out.trans (hb3.mono HB1.out.size)); clear hb hb3 c0 c1 c2 c3' c4)
              go_ret
              exact ⟨by rw [HR.out]; try rfl, HB3.out⟩
          · have pn1 : 0 < n1 := by omega
            have jn1 : (0 : Int) < n1 := by omega
            have HR : Hid ((decide (5 < 10) && fitB (wk 5) (wv 5) (wu 5) (wl 5) (wm 5) n1 n2 num n3) = false) := by
              unfold Hid fitB fitT; have t1 := HL1.out; have t2 := HL2.out; rw [Bool.eq_iff_iff]; simp [wk, wv, wu, wl, wm, hn1]; try omega
            clear hn1
            as_aux_lemma =>
            go_enter Try.func21, Try.ntmps21
            go_upto_region 1 with (fail)
            rw [HW1.out]
            clear HW1
            go_wp2_with (go_at_call 19; (with_reducible refine (HHi.out _).mono ?_); rintro e w2 ⟨rfl, hb⟩; have hb3 := hb.alloc hb.size (.cells #[.bool false, .bool false, .bool true] 55); obtain ⟨d0, d1, d2, d3, d4⟩ := HC.out _ hb3; have HB3 := Lib.hid (HB1.out.trans (hb3.mono HB1.out.size)); clear hb hb3 c0 c1 c2 c3' c4)
            go_ret
            exact ⟨by rw [HR.out]; try rfl, HB3.out⟩
        · have ek9 : kind = 6 := ek
          rw [ek9] at c0 HC HW1 HH
          rw [ek9]
          clear ek ek9
          have HHi : Hid (∀ W, Calls Try.prog 19 #[.int .i64 6] W fun e w' => e = .returned (.agg #[.bool false, .bool false, .bool true]) ∧ Below W.heap.size W w') := HH.out
          clear HH
          by_cases hn1 : n1 = 0
          · have jn1 : ¬ (0 : Int) < n1 := by omega
            by_cases hn2 : n2 = 0
            · have jn2 : ¬ (0 : Int) < n2 := by omega
              have HR : Hid ((decide (6 < 10) && fitB (wk 6) (wv 6) (wu 6) (wl 6) (wm 6) n1 n2 num n3) = ((n3 : Int) == 0)) := by
                unfold Hid fitB fitT; have t1 := HL1.out; have t2 := HL2.out; rw [Bool.eq_iff_iff]; simp [wk, wv, wu, wl, wm, hn1, hn2]; try omega
              clear hn1 hn2
              as_aux_lemma =>
              go_enter Try.func21, Try.ntmps21
              go_upto_region 1 with (fail)
              rw [HW1.out]
              clear HW1
              go_wp2_with (go_at_call 19; (with_reducible refine (HHi.out _).mono ?_); rintro e w2 ⟨rfl, hb⟩; have hb3 := hb.alloc hb.size (.cells #[.bool false, .bool false, .bool true] 55); obtain ⟨d0, d1, d2, d3, d4⟩ := HC.out _ hb3; have HB3 := Lib.hid (HB1.out.trans (hb3.mono HB1.out.size)); clear hb hb3 c0 c1 c2 c3' c4)
              go_ret
              exact ⟨by rw [HR.out]; try rfl, HB3.out⟩
            · have pn2 : 0 < n2 := by omega
              have jn2 : (0 : Int) < n2 := by omega
              have HR : Hid ((decide (6 < 10) && fitB (wk 6) (wv 6) (wu 6) (wl 6) (wm 6) n1 n2 num n3) = false) := by
                unfold Hid fitB fitT; have t1 := HL1.out; have t2 := HL2.out; rw [Bool.eq_iff_iff]; simp [wk, wv, wu, wl, wm, hn1, hn2]; try omega
              clear hn1 hn2
              as_aux_lemma =>
              go_enter Try.func21, Try.ntmps21
              go_upto_region 1 with (fail)
              rw [HW1.out]
              clear HW1
              go_wp2_with (go_at_call 19; (with_reducible refine (HHi.out _).mono ?_); rintro e w2 ⟨rfl, hb⟩; have hb3 := hb.alloc hb.size (.cells #[.bool false, .bool false, .bool true] 55); obtain ⟨d0, d1, d2, d3, d4⟩ := HC.out _ hb3; have HB3 := Lib.hid (HB1.out.trans (hb3.mono HB1.out.size)); clear hb hb3 c0 c1 c2 c3' c4)
              go_ret
              exact ⟨by rw [HR.out]; try rfl, HB3.out⟩
          · have pn1 : 0 < n1 := by omega
            have jn1 : (0 : Int) < n1 := by omega
            have HR : Hid ((decide (6 < 10) && fitB (wk 6) (wv 6) (wu 6) (wl 6) (wm 6) n1 n2 num n3) = false) := by
              unfold Hid fitB fitT; have t1 := HL1.out; have t2 := HL2.out; rw [Bool.eq_iff_iff]; simp [wk, wv, wu, wl, wm, hn1]; try omega
            clear hn1
            as_aux_lemma =>
            go_enter Try.func21, Try.ntmps21
            go_upto_region 1 with (fail)
            rw [HW1.out]
            clear HW1
            go_wp2_with (go_at_call 19; (with_reducible refine (HHi.out _).mono ?_); rintro e w2 ⟨rfl, hb⟩; have hb3 := hb.alloc hb.size (.cells #[.bool false, .bool false, .bool true] 55); obtain ⟨d0, d1, d2, d3, d4⟩ := HC.out _ hb3; have HB3 := Lib.hid (HB1.out.trans (hb3.mono HB1.out.size)); clear hb hb3 c0 c1 c2 c3' c4)
            go_ret
            exact ⟨by rw [HR.out]; try rfl, HB3.out⟩
        · have ek9 : kind = 7 := ek
          rw [ek9] at c0 HC HW1 HH
          rw [ek9]
          clear ek ek9
          have HHi : Hid (∀ W, Calls Try.prog 19 #[.int .i64 7] W fun e w' => e = .returned (.agg #[.bool false, .bool false, .bool false]) ∧ Below W.heap.size W w') := HH.out
          clear HH
          by_cases hn1 : n1 = 0
          · have jn1 : ¬ (0 : Int) < n1 := by omega
            by_cases hn2 : n2 = 0
            · have jn2 : ¬ (0 : Int) < n2 := by omega
              by_cases hnum : num = 0
              · have jn : (num != 0) = false := by simp [hnum]
                have HR : Hid ((decide (7 < 10) && fitB (wk 7) (wv 7) (wu 7) (wl 7) (wm 7) n1 n2 num n3) = decide ((n3 : Int) ≤ 100)) := by
                  unfold Hid fitB fitT; have t1 := HL1.out; have t2 := HL2.out; rw [Bool.eq_iff_iff]; simp [wk, wv, wu, wl, wm, hn1, hn2, hnum]; try omega
                clear hn1 hn2 hnum
                as_aux_lemma =>
                go_enter Try.func21, Try.ntmps21
                go_upto_region 1 with (fail)
                rw [HW1.out]
                clear HW1
                go_wp2_with (go_at_call 19; (with_reducible refine (HHi.out _).mono ?_); rintro e w2 ⟨rfl, hb⟩; have hb3 := hb.alloc hb.size (.cells #[.bool false, .bool false, .bool false] 55); obtain ⟨d0, d1, d2, d3, d4⟩ := HC.out _ hb3; have HB3 := Lib.hid (HB1.out.trans (hb3.mono HB1.out.size)); clear hb hb3 c0 c1 c2 c3' c4)
                go_ret
                exact ⟨by rw [HR.out]; try rfl, HB3.out⟩
              · have jn : (num != 0) = true := by simp [hnum]
                have HR : Hid ((decide (7 < 10) && fitB (wk 7) (wv 7) (wu 7) (wl 7) (wm 7) n1 n2 num n3) = false) := by
                  unfold Hid fitB fitT; have t1 := HL1.out; have t2 := HL2.out; rw [Bool.eq_iff_iff]; simp [wk, wv, wu, wl, wm, hn1, hn2, hnum]; try omega
                clear hn1 hn2 hnum
                as_aux_lemma =>
                go_enter Try.func21, Try.ntmps21
                go_upto_region 1 with (fail)
                rw [HW1.out]
                clear HW1
                go_wp2_with (go_at_call 19; (with_reducible refine (HHi.out _).mono ?_); rintro e w2 ⟨rfl, hb⟩; have hb3 := hb.alloc hb.size (.cells #[.bool false, .bool false, .bool false] 55); obtain ⟨d0, d1, d2, d3, d4⟩ := HC.out _ hb3; have HB3 := Lib.hid (HB1.out.trans (hb3.mono HB1.out.size)); clear hb hb3 c0 c1 c2 c3' c4)
                go_ret
                exact ⟨by rw [HR.out]; try rfl, HB3.out⟩
            · have pn2 : 0 < n2 := by omega
              have jn2 : (0 : Int) < n2 := by omega
              have HR : Hid ((decide (7 < 10) && fitB (wk 7) (wv 7) (wu 7) (wl 7) (wm 7) n1 n2 num n3) = false) := by
                unfold Hid fitB fitT; have t1 := HL1.out; have t2 := HL2.out; rw [Bool.eq_iff_iff]; simp [wk, wv, wu, wl, wm, hn1, hn2]; try omega
              clear hn1 hn2
              as_aux_lemma =>
              go_enter Try.func21, Try.ntmps21
              go_upto_region 1 with (fail)
              rw [HW1.out]
              clear HW1
              go_wp2_with (go_at_call 19; (with_reducible refine (HHi.out _).mono ?_); rintro e w2 ⟨rfl, hb⟩; have hb3 := hb.alloc hb.size (.cells #[.bool false, .bool false, .bool false] 55); obtain ⟨d0, d1, d2, d3, d4⟩ := HC.out _ hb3; have HB3 := Lib.hid (HB1.out.trans (hb3.mono HB1.out.size)); clear hb hb3 c0 c1 c2 c3' c4)
              go_ret
              exact ⟨by rw [HR.out]; try rfl, HB3.out⟩
          · have pn1 : 0 < n1 := by omega
            have jn1 : (0 : Int) < n1 := by omega
            have HR : Hid ((decide (7 < 10) && fitB (wk 7) (wv 7) (wu 7) (wl 7) (wm 7) n1 n2 num n3) = false) := by
              unfold Hid fitB fitT; have t1 := HL1.out; have t2 := HL2.out; rw [Bool.eq_iff_iff]; simp [wk, wv, wu, wl, wm, hn1]; try omega
            clear hn1
            as_aux_lemma =>
            go_enter Try.func21, Try.ntmps21
            go_upto_region 1 with (fail)
            rw [HW1.out]
            clear HW1
            go_wp2_with (go_at_call 19; (with_reducible refine (HHi.out _).mono ?_); rintro e w2 ⟨rfl, hb⟩; have hb3 := hb.alloc hb.size (.cells #[.bool false, .bool false, .bool false] 55); obtain ⟨d0, d1, d2, d3, d4⟩ := HC.out _ hb3; have HB3 := Lib.hid (HB1.out.trans (hb3.mono HB1.out.size)); clear hb hb3 c0 c1 c2 c3' c4)
            go_ret
            exact ⟨by rw [HR.out]; try rfl, HB3.out⟩
        · have ek9 : kind = 8 := ek
          rw [ek9] at c0 HC HW1 HH
          rw [ek9]
          clear ek ek9
          have HHi : Hid (∀ W, Calls Try.prog 19 #[.int .i64 8] W fun e w' => e = .returned (.agg #[.bool false, .bool false, .bool false]) ∧ Below W.heap.size W w') := HH.out
          clear HH
          by_cases hn1 : n1 = 0
          · have jn1 : ¬ (0 : Int) < n1 := by omega
            by_cases hn2 : n2 = 0
            · have jn2 : ¬ (0 : Int) < n2 := by omega
              by_cases hnum : num = 0
              · have jn : (num != 0) = false := by simp [hnum]
                have HR : Hid ((decide (8 < 10) && fitB (wk 8) (wv 8) (wu 8) (wl 8) (wm 8) n1 n2 num n3) = ((n3 : Int) == 3)) := by
                  unfold Hid fitB fitT; have t1 := HL1.out; have t2 := HL2.out; rw [Bool.eq_iff_iff]; simp [wk, wv, wu, wl, wm, hn1, hn2, hnum]; try omega
                clear hn1 hn2 hnum
                as_aux_lemma =>
                go_enter Try.func21, Try.ntmps21
                go_upto_region 1 with (fail)
                rw [HW1.out]
                clear HW1
                go_wp2_with (go_at_call 19; (with_reducible refine (HHi.out _).mono ?_); rintro e w2 ⟨rfl, hb⟩; have hb3 := hb.alloc hb.size (.cells #[.bool false, .bool false, .bool false] 55); obtain ⟨d0, d1, d2, d3, d4⟩ := HC.out _ hb3; have HB3 := Lib.hid (HB1.out.trans (hb3.mono HB1.out.size)); clear hb hb3 c0 c1 c2 c3' c4)
                go_ret
                exact ⟨by rw [HR.out]; try rfl, HB3.out⟩
              · have jn : (num != 0) = true := by simp [hnum]
                have HR : Hid ((decide (8 < 10) && fitB (wk 8) (wv 8) (wu 8) (wl 8) (wm 8) n1 n2 num n3) = false) := by
                  unfold Hid fitB fitT; have t1 := HL1.out; have t2 := HL2.out; rw [Bool.eq_iff_iff]; simp [wk, wv, wu, wl, wm, hn1, hn2, hnum]; try omega
                clear hn1 hn2 hnum
                as_aux_lemma =>
                go_enter Try.func21, Try.ntmps21
                go_upto_region 1 with (fail)
                rw [HW1.out]
                clear HW1
                go_wp2_with (go_at_call 19; (with_reducible refine (HHi.out _).mono ?_); rintro e w2 ⟨rfl, hb⟩; have hb3 := hb.alloc hb.size (.cells #[.bool false, .bool false, .bool false] 55); obtain ⟨d0, d1, d2, d3, d4⟩ := HC.out _ hb3; have HB3 := Lib.hid (HB1.out.trans (hb3.mono HB1.out.size)); clear hb hb3 c0 c1 c2 c3' c4)
                go_ret
                exact ⟨by rw [HR.out]; try rfl, HB3.out⟩
            · have pn2 : 0 < n2 := by omega
              have jn2 : (0 : Int) < n2 := by omega
              have HR : Hid ((decide (8 < 10) && fitB (wk 8) (wv 8) (wu 8) (wl 8) (wm 8) n1 n2 num n3) = false) := by
                unfold Hid fitB fitT; have t1 := HL1.out; have t2 := HL2.out; rw [Bool.eq_iff_iff]; simp [wk, wv, wu, wl, wm, hn1, hn2]; try omega
              clear hn1 hn2
              as_aux_lemma =>
              go_enter Try.func21, Try.ntmps21
              go_upto_region 1 with (fail)
              rw [HW1.out]
              clear HW1
              go_wp2_with (go_at_call 19; (with_reducible refine (HHi.out _).mono ?_); rintro e w2 ⟨rfl, hb⟩; have hb3 := hb.alloc hb.size (.cells #[.bool false, .bool false, .bool false] 55); obtain ⟨d0, d1, d2, d3, d4⟩ := HC.out _ hb3; have HB3 := Lib.hid (HB1.out.trans (hb3.mono HB1.out.size)); clear hb hb3 c0 c1 c2 c3' c4)
              go_ret
              exact ⟨by rw [HR.out]; try rfl, HB3.out⟩
          · have pn1 : 0 < n1 := by omega
            have jn1 : (0 : Int) < n1 := by omega
            have HR : Hid ((decide (8 < 10) && fitB (wk 8) (wv 8) (wu 8) (wl 8) (wm 8) n1 n2 num n3) = false) := by
              unfold Hid fitB fitT; have t1 := HL1.out; have t2 := HL2.out; rw [Bool.eq_iff_iff]; simp [wk, wv, wu, wl, wm, hn1]; try omega
            clear hn1
            as_aux_lemma =>
            go_enter Try.func21, Try.ntmps21
            go_upto_region 1 with (fail)
            rw [HW1.out]
            clear HW1
            go_wp2_with (go_at_call 19; (with_reducible refine (HHi.out _).mono ?_); rintro e w2 ⟨rfl, hb⟩; have hb3 := hb.alloc hb.size (.cells #[.bool false, .bool false, .bool false] 55); obtain ⟨d0, d1, d2, d3, d4⟩ := HC.out _ hb3; have HB3 := Lib.hid (HB1.out.trans (hb3.mono HB1.out.size)); clear hb hb3 c0 c1 c2 c3' c4)
            go_ret
            exact ⟨by rw [HR.out]; try rfl, HB3.out⟩
        · have ek9 : kind = 9 := ek
          rw [ek9] at c0 HC HW1 HH
          rw [ek9]
          clear ek ek9
          have HHi : Hid (∀ W, Calls Try.prog 19 #[.int .i64 9] W fun e w' => e = .returned (.agg #[.bool false, .bool false, .bool false]) ∧ Below W.heap.size W w') := HH.out
          clear HH
          by_cases hn1 : n1 = 0
          · have jn1 : ¬ (0 : Int) < n1 := by omega
            by_cases hn2 : n2 = 0
            · have jn2 : ¬ (0 : Int) < n2 := by omega
              by_cases hnum : num = 0
              · have jn : (num != 0) = false := by simp [hnum]
                have HR : Hid ((decide (9 < 10) && fitB (wk 9) (wv 9) (wu 9) (wl 9) (wm 9) n1 n2 num n3) = ((n3 : Int) == 0)) := by
                  unfold Hid fitB fitT; have t1 := HL1.out; have t2 := HL2.out; rw [Bool.eq_iff_iff]; simp [wk, wv, wu, wl, wm, hn1, hn2, hnum]; try omega
                clear hn1 hn2 hnum
                as_aux_lemma =>
                go_enter Try.func21, Try.ntmps21
                go_upto_region 1 with (fail)
                rw [HW1.out]
                clear HW1
                go_wp2_with (go_at_call 19; (with_reducible refine (HHi.out _).mono ?_); rintro e w2 ⟨rfl, hb⟩; have hb3 := hb.alloc hb.size (.cells #[.bool false, .bool false, .bool false] 55); obtain ⟨d0, d1, d2, d3, d4⟩ := HC.out _ hb3; have HB3 := Lib.hid (HB1.out.trans (hb3.mono HB1.out.size)); clear hb hb3 c0 c1 c2 c3' c4)
                go_ret
                exact ⟨by rw [HR.out]; try rfl, HB3.out⟩
              · have jn : (num != 0) = true := by simp [hnum]
                have HR : Hid ((decide (9 < 10) && fitB (wk 9) (wv 9) (wu 9) (wl 9) (wm 9) n1 n2 num n3) = false) := by
                  unfold Hid fitB fitT; have t1 := HL1.out; have t2 := HL2.out; rw [Bool.eq_iff_iff]; simp [wk, wv, wu, wl, wm, hn1, hn2, hnum]; try omega
                clear hn1 hn2 hnum
                as_aux_lemma =>
                go_enter Try.func21, Try.ntmps21
                go_upto_region 1 with (fail)
                rw [HW1.out]
                clear HW1
                go_wp2_with (go_at_call 19; (with_reducible refine (HHi.out _).mono ?_); rintro e w2 ⟨rfl, hb⟩; have hb3 := hb.alloc hb.size (.cells #[.bool false, .bool false, .bool false] 55); obtain ⟨d0, d1, d2, d3, d4⟩ := HC.out _ hb3; have HB3 := Lib.hid (HB1.out.trans (hb3.mono HB1.out.size)); clear hb hb3 c0 c1 c2 c3' c4)
                go_ret
                exact ⟨by rw [HR.out]; try rfl, HB3.out⟩
            · have pn2 : 0 < n2 := by omega
              have jn2 : (0 : Int) < n2 := by omega
              have HR : Hid ((decide (9 < 10) && fitB (wk 9) (wv 9) (wu 9) (wl 9) (wm 9) n1 n2 num n3) = false) := by
                unfold Hid fitB fitT; have t1 := HL1.out; have t2 := HL2.out; rw [Bool.eq_iff_iff]; simp [wk, wv, wu, wl, wm, hn1, hn2]; try omega
              clear hn1 hn2
              as_aux_lemma =>
              go_enter Try.func21, Try.ntmps21
              go_upto_region 1 with (fail)
              rw [HW1.out]
              clear HW1
              go_wp2_with (go_at_call 19; (with_reducible refine (HHi.out _).mono ?_); rintro e w2 ⟨rfl, hb⟩; have hb3 := hb.alloc hb.size (.cells #[.bool false, .bool false, .bool false] 55); obtain ⟨d0, d1, d2, d3, d4⟩ := HC.out _ hb3; have HB3 := Lib.hid (HB1.out.trans (hb3.mono HB1.out.size)); clear hb hb3 c0 c1 c2 c3' c4)
              go_ret
              exact ⟨by rw [HR.out]; try rfl, HB3.out⟩
          · have pn1 : 0 < n1 := by omega
            have jn1 : (0 : Int) < n1 := by omega
            have HR : Hid ((decide (9 < 10) && fitB (wk 9) (wv 9) (wu 9) (wl 9) (wm 9) n1 n2 num n3) = false) := by
              unfold Hid fitB fitT; have t1 := HL1.out; have t2 := HL2.out; rw [Bool.eq_iff_iff]; simp [wk, wv, wu, wl, wm, hn1]; try omega
            clear hn1
            as_aux_lemma =>
            go_enter Try.func21, Try.ntmps21
            go_upto_region 1 with (fail)
            rw [HW1.out]
            clear HW1
            go_wp2_with (go_at_call 19; (with_reducible refine (HHi.out _).mono ?_); rintro e w2 ⟨rfl, hb⟩; have hb3 := hb.alloc hb.size (.cells #[.bool false, .bool false, .bool false] 55); obtain ⟨d0, d1, d2, d3, d4⟩ := HC.out _ hb3; have HB3 := Lib.hid (HB1.out.trans (hb3.mono HB1.out.size)); clear hb hb3 c0 c1 c2 c3' c4)
            go_ret
            exact ⟨by rw [HR.out]; try rfl, HB3.out⟩
      · have i1 : ¬ (65535 : Int) < n1 := by omega
        have i2 : (65535 : Int) < n2 := by omega
        have HR : Hid ((decide (kn kind < 10) && fitB (wk (kn kind)) (wv (kn kind)) (wu (kn kind)) (wl (kn kind)) (wm (kn kind)) n1 n2 num n3) = false) := by
          unfold Hid fitB fitT
          have f : ¬ n2 = 0 := by omega
          cases wk (kn kind) <;> cases wv (kn kind) <;> simp [hl2, f]
        have e1 : ¬ kind < 0 := by omega
        have e2 : ¬ 9 < kind := by omega
        clear hk ek hl1 hl2
        as_aux_lemma =>
        go_enter Try.func21, Try.ntmps21
        go_upto_region 1 with (fail)
        rw [HW1.out]
        clear HW1
        go_wp2
        go_ret
        exact ⟨by rw [HR.out]; try rfl, HB1.out⟩
    · have i1 : (65535 : Int) < n1 := by omega
      have HR : Hid ((decide (kn kind < 10) && fitB (wk (kn kind)) (wv (kn kind)) (wu (kn kind)) (wl (kn kind)) (wm (kn kind)) n1 n2 num n3) = false) := by
        unfold Hid fitB fitT
        have f : ¬ n1 = 0 := by omega
        cases wk (kn kind) <;> simp [hl1, f]
      have e1 : ¬ kind < 0 := by omega
      have e2 : ¬ 9 < kind := by omega
      clear hk ek hl1
      as_aux_lemma =>
      go_enter Try.func21, Try.ntmps21
      go_upto_region 1 with (fail)
      rw [HW1.out]
      clear HW1
      go_wp2
      go_ret
      exact ⟨by rw [HR.out]; try rfl, HB1.out⟩
  · have HR : Hid ((decide (kn kind < 10) && fitB (wk (kn kind)) (wv (kn kind)) (wu (kn kind)) (wl (kn kind)) (wm (kn kind)) n1 n2 num n3) = false) := by unfold Hid; rw [hk]; rfl
    clear hk
    rcases ek with ek | ek
    · as_aux_lemma =>
      go_enter Try.func21, Try.ntmps21
      go_upto_region 1 with (fail)
      rw [HW1.out]
      clear HW1
      go_wp2
      go_ret
      exact ⟨by rw [HR.out]; try rfl, HB1.out⟩
    · have e2 : ¬ kind < 0 := by omega
      as_aux_lemma =>
      go_enter Try.func21, Try.ntmps21
      go_upto_region 1 with (fail)
      rw [HW1.out]
      clear HW1
      go_wp2
      go_ret
      exact ⟨by rw [HR.out]; try rfl, HB1.out⟩

theorem refRight20_any (x : SAct) (a3 : Option Addr) (c3 : Nat) (w : World) : Calls Try.prog 21 #[.agg #[.int .i64 x.kind, .string (strB x.key), .string (strB x.val), .int .i64 x.num, .slice a3 x.nums.length c3]] w fun e w' => e = .returned (.bool (rightA x)) ∧ Below w.heap.size w w' :=
  refRight20_n x.kind x.num _ _ _ _ _ (strB_size _) (strB_size _) a3 c3 w
end Go.Proofs.Ytgaabclgoolalaa

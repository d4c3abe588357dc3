/-
  The document's answer for a record's bytes: sgraffitoref09.Pack.
  Conditions: none.
-/
import Derived.Test.YtakipdfmlolgfaaRecLaw
import Derived.Test.YtakipdfmlolgfaaRecMath
import Derived.Test.YtakipdfmlolgfaaRef03
namespace Go.Proofs.Ytakipdfmlolgfaa
open Go.RowKit

theorem refNumI (i k : Int) (h0 : 0 ≤ i) (h1 : i < 18446744073709551616) (hk : mayB k = true) (W : World) : Calls Try.prog 31 #[.int .u64 i, .int .i64 k] W fun e w' => ∃ u, e = .returned u ∧ BytesAt w'.heap.size w' u (leI k i) ∧ Below W.heap.size W w' := by
  have hk0 : 0 ≤ k := by
    have : k = 1 ∨ k = 2 ∨ k = 4 ∨ k = 8 := by simpa [mayB] using hk
    omega
  obtain ⟨n, rfl⟩ := Int.eq_ofNat_of_zero_le hk0
  obtain ⟨x, rfl⟩ : ∃ x : BitVec 64, i = U x := U_mk h0 h1
  refine (refNumber_yes x n hk W).mono ?_
  rintro e w' ⟨u, he, hu, hb⟩
  refine ⟨u, he, ?_, hb⟩
  unfold leI
  rw [ofInt_U]
  exact BytesAt.of_owns (by rw [leB_len]; exact hu)
/-- A row that is made behind w0: nothing that was there has turned. -/
def RAt (w0 : World) (v : Value) (row : List (BitVec 8)) (W : World) : Prop := W.ownsRow w0.heap.size 5 1 v row.length (cellsOf row) ∧ Below w0.heap.size w0 W
theorem RAt.behind {w0 W W' : World} {v : Value} {row : List (BitVec 8)} (h : RAt w0 v row W) (hb : Below W.heap.size W W') : RAt w0 v row W' :=
  ⟨(Moves.of_below (S := fun _ => False) hb).row h.1 (fun _ _ h => h), h.2.trans (hb.mono h.2.size)⟩
theorem RAt.app {w0 W w1 : World} {v v1 : Value} {row bs : List (BitVec 8)} {n : Nat} (h : RAt w0 v row W) (hn : n = (row ++ bs).length) (ho : w1.ownsRow w0.heap.size 5 1 v1 n (cellsOf (row ++ bs))) (hg : W.grownBy w1 v.ownBlock) : RAt w0 v1 (row ++ bs) w1 := by
  subst hn
  exact ⟨ho, h.2.grown hg h.2.size (fun k e => (h.1.lt k e).1)⟩
theorem leI_one (n : Nat) : leI 1 n = [BitVec.ofNat 8 n] := by
  unfold leI leB
  simp only [Int.toNat_one, List.range_one, List.map_cons, List.map_nil, Nat.mul_zero, BitVec.ushiftRight_zero, List.cons.injEq, and_true]
  apply BitVec.eq_of_toNat_eq
  rw [BitVec.toNat_setWidth, BitVec.toNat_ofInt, BitVec.toNat_ofNat]
  omega
theorem two_made (w0 : World) (n : Nat) (hn : n < 256) : RAt w0 (.slice (some ⟨w0.heap.size, 0, none⟩) 2 2) (leI 1 165 ++ leI 1 n) (w0.alloc (.cells #[.int .u8 165, .int .u8 n] 5)) := by
  refine ⟨?_, (Below.refl _ _).alloc (Nat.le_refl _) _⟩
  have e : leI 1 165 ++ leI 1 n = [165#8, BitVec.ofNat 8 n] := by
    rw [leI_one n, show (165 : Int) = ((165 : Nat) : Int) from rfl, leI_one 165]; rfl
  have hU : U (BitVec.ofNat 8 n) = (n : Int) := (U_ofNat hn).symm
  rw [e]
  have e2 : cellsOf [165#8, BitVec.ofNat 8 n] = [.int .u8 165, .int .u8 n] := by simp [cellsOf, hU]; rfl
  rw [e2]
  refine ⟨by simp, .inr ⟨w0.heap.size, 2, _, rfl, Nat.le_refl _, heap_alloc_new _ _, Nat.le_refl _, by unfold maxLen; omega, ?_, ?_⟩⟩
  · rfl
  · rfl

set_option maxRecDepth 100000 in
set_option maxHeartbeats 8000000 in
theorem ref09Pack_any (x : RecP) (w : World) (l1 : x.key.length ≤ 549755813888) (l2 : x.val.length ≤ 549755813888) :
    Calls Try.prog 19 #[.agg x.doc] w (Packed (packB x.key x.val x.fin) (packErr x.key.length x.val.length x.fin) w) := by
  have HB0 := Lib.hid ((Below.refl w.heap.size w).alloc (Nat.le_refl _) (.cells x.doc 29))
  have hX : (w.alloc (.cells x.doc 29)).heap[w.heap.size]? = some (.cells x.doc 29 (0, 0)) := heap_alloc_new _ _
  have HNO := Lib.hid (fun (er : Int) (h : packErr x.key.length x.val.length x.fin = er) (h' : er ≠ 0) => (show Packed (packB x.key x.val x.fin) (packErr x.key.length x.val.length x.fin) w (.returned (.tuple #[.slice none 0 0, .int .i64 er])) (w.alloc (.cells x.doc 29)) from by
    refine ⟨_, by rw [h], ?_, HB0.out⟩
    unfold packB
    rw [h, if_neg h']
    exact World.ownsRow_nil _ _ _ _))
  have HD : Hid (x.doc = #[.string (strB x.key), .string (strB x.val), .int .i64 x.fin]) := rfl
  have hsz1 := strB_size x.key
  have hsz2 := strB_size x.val
  rw [HD.out] at HNO ⊢
  have HK0 := Lib.hid (show isKeyB x.key.length = decide (1 ≤ (x.key.length : Int) ∧ (x.key.length : Int) ≤ 64) from rfl)
  have HV0 := Lib.hid (show isValB x.val.length = decide (0 ≤ (x.val.length : Int) ∧ (x.val.length : Int) ≤ 4096) from rfl)
  have HE0 := Lib.hid (show isEndB x.fin = decide (0 ≤ x.fin ∧ x.fin ≤ 281474976710656) from rfl)
  by_cases k1 : (x.key.length : Int) < 1
  · have HN := Lib.hid (HNO.out 10 (by unfold packErr; rw [if_neg (by rw [HK0.out]; simp; omega)]) (by decide))
    clear HNO hX
    go_enter Try.func19, Try.ntmps19
    go_wp2
    go_ret2
    exact HN.out
  · by_cases k2 : (x.key.length : Int) ≤ 64
    · have hk : isKeyB x.key.length = true := by rw [HK0.out]; simp; omega
      by_cases v2 : (x.val.length : Int) ≤ 4096
      · have hv : isValB x.val.length = true := by rw [HV0.out]; simp; omega
        by_cases e1 : 0 ≤ x.fin
        · by_cases e2 : x.fin ≤ 281474976710656
          · have he : isEndB x.fin = true := by rw [HE0.out]; simp; omega
            have HP : Hid (packErr x.key.length x.val.length x.fin = 0) := by unfold Hid packErr; rw [hk, hv, he]; rfl
            clear HNO hk hv he HK0 HV0 HE0
            obtain ⟨w0, hw0⟩ : ∃ w0, w.alloc (.cells x.doc 29) = w0 := ⟨_, rfl⟩
            obtain ⟨X, hXe⟩ : ∃ X, w.heap.size = X := ⟨_, rfl⟩
            rw [hw0, hXe] at hX
            rw [hw0] at HB0
            have HX := Lib.hid hX
            have HXE := Lib.hid hXe
            obtain ⟨d0, d1, d2⟩ := rec_cells hX (Below.refl w0.heap.size w0)
            have HMK := Lib.hid (two_made w0 x.key.length (by omega))
            have kw : IntKind.u8.wrap (x.key.length : Int) = x.key.length := by simp [IntKind.wrap, IntKind.bits, IntKind.signed]; omega
            have hcv1 := fun W => conv_bytes W (strB x.key)
            have hcv2 := fun W => conv_bytes W (strB x.val)
            have HS1 := Lib.hid hsz1
            have HS2 := Lib.hid hsz2
            obtain ⟨i0, hi, hz0, hz1, hz2⟩ := info_parts Try.infoU8
            rw [HD.out] at hw0
            clear hX hXe
            go_enter Try.func19, Try.ntmps19
            go_upto_region 1 with (fail)
            rw [HXE.out]
            clear hw0
            go_upto_region 8 with (fail)
            have HR0 := Lib.hid HMK.out
            obtain ⟨r0, hr0⟩ : ∃ r, leI 1 165 ++ leI 1 x.key.length = r := ⟨_, rfl⟩
            have hl0 : r0.length = 2 := by rw [← hr0]; simp [leI_len]
            rw [hr0] at HR0
            have HL0 := Lib.hid (show r0.length = 2 ∧ x.val.length ≤ 4096 ∧ x.key.length ≤ 64 from ⟨hl0, by omega, by omega⟩)
            change (Code.region _ _ _).wp _ _ _ (w0.alloc (.cells #[.int .u8 165, .int .u8 x.key.length] 5))
            generalize w0.alloc (.cells #[.int .u8 165, .int .u8 x.key.length] 5) = wa at HR0 ⊢
            obtain ⟨d0, d1, d2⟩ := rec_cells HX.out HR0.out.2
            have HNA := Lib.hid (refNumI x.val.length 2 (by omega) (by omega) rfl)
            have HNB := Lib.hid (refNumI x.fin 8 (by omega) (by omega) rfl)
            have hbw1 := fun W => bw_bytes W x.key
            have hbw2 := fun W => bw_bytes W x.val
            simp only [strB_size] at hbw1 hbw2 hcv1 hcv2
            have HBW1 := Lib.hid hbw1
            have HBW2 := Lib.hid hbw2
            have HFORM : Hid (r0 ++ leI 2 x.val.length ++ leI 8 x.fin ++ x.key ++ x.val ++ [90#8] = recB x.key x.val x.fin) := by
              unfold Hid recB
              rw [← hr0, List.nil_append]
              rfl
            clear hbw1 hbw2 HMK hr0 hl0 kw
            go_wp2_with (first
              | (at_builtin; (refine wpList_append_bytes rfl (.tmp 55) (.tmp 56) rfl rfl w0.heap.size i0 hi hz0 hz1 hz2 _ rfl _ (HR6.out.behind ((Below.refl w6.heap.size w6).alloc (Nat.le_refl _) (.cells #[.int .u8 90] 5))).1 _ rfl _ _ (bytes_new w6 [90#8] 1 rfl #[.int .u8 90] rfl) (by simp [leI_len]; have := HL0.out; omega) (HR6.out.behind ((Below.refl w6.heap.size w6).alloc (Nat.le_refl _) (.cells #[.int .u8 90] 5))).2.size ?_); intro v7 w7 n7 hn hown hg _; have HR7 := Lib.hid (RAt.app (HR6.out.behind ((Below.refl w6.heap.size w6).alloc (Nat.le_refl _) (.cells #[.int .u8 90] 5))) hn.out hown hg); obtain ⟨d0, d1, d2⟩ := rec_cells HX.out HR7.out.2; clear hn hown hg)
              | (at_builtin; (refine wpList_append_bytes rfl (.tmp 50) (.tmp 53) rfl rfl w0.heap.size i0 hi hz0 hz1 hz2 _ rfl _ (HR5.out.behind (bw_below w5 5 (strB x.val))).1 _ rfl _ _ (HBW2.out w5) (by simp [leI_len]; have := HL0.out; omega) (HR5.out.behind (bw_below w5 5 (strB x.val))).2.size ?_); intro v6 w6 n6 hn hown hg _; have HR6 := Lib.hid (RAt.app (HR5.out.behind (bw_below w5 5 (strB x.val))) hn.out hown hg); obtain ⟨d0, d1, d2⟩ := rec_cells HX.out HR6.out.2; clear hn hown hg)
              | (at_builtin; (refine wpList_append_bytes rfl (.tmp 45) (.tmp 48) rfl rfl w0.heap.size i0 hi hz0 hz1 hz2 _ rfl _ (HR4.out.behind (bw_below w4 5 (strB x.key))).1 _ rfl _ _ (HBW1.out w4) (by simp [leI_len]; have := HL0.out; omega) (HR4.out.behind (bw_below w4 5 (strB x.key))).2.size ?_); intro v5 w5 n5 hn hown hg _; have HR5 := Lib.hid (RAt.app (HR4.out.behind (bw_below w4 5 (strB x.key))) hn.out hown hg); obtain ⟨d0, d1, d2⟩ := rec_cells HX.out HR5.out.2; clear hn hown hg)
              | (at_builtin; (refine wpList_append_bytes rfl (.tmp 39) (.tmp 43) rfl rfl w0.heap.size i0 hi hz0 hz1 hz2 _ rfl _ HR3.out.1 _ rfl _ _ HU3.out (by simp [leI_len]; have := HL0.out; omega) HR3.out.2.size ?_); intro v4 w4 n4 hn hown hg _; have HR4 := Lib.hid (RAt.app HR3.out hn.out hown hg); obtain ⟨d0, d1, d2⟩ := rec_cells HX.out HR4.out.2; clear hn hown hg)
              | (at_builtin; (refine wpList_append_bytes rfl (.tmp 32) (.tmp 37) rfl rfl w0.heap.size i0 hi hz0 hz1 hz2 _ rfl _ HR1.out.1 _ rfl _ _ HU1.out (by simp [leI_len]; have := HL0.out; omega) HR1.out.2.size ?_); intro v2 w2 n2 hn hown hg _; have HR2 := Lib.hid (RAt.app HR1.out hn.out hown hg); obtain ⟨d0, d1, d2⟩ := rec_cells HX.out HR2.out.2; clear hn hown hg)
              | (go_at_call 31; (with_reducible refine (HNB.out _).mono ?_); rintro e w3 ⟨u3, rfl, hu, hb⟩; have HU3 := Lib.hid hu; have HR3 := Lib.hid (HR2.out.behind hb); obtain ⟨d0, d1, d2⟩ := rec_cells HX.out HR3.out.2; clear hu hb)
              | (go_at_call 31; (with_reducible refine (HNA.out _).mono ?_); rintro e w1 ⟨u1, rfl, hu, hb⟩; have HU1 := Lib.hid hu; have HR1 := Lib.hid (HR0.out.behind hb); obtain ⟨d0, d1, d2⟩ := rec_cells HX.out HR1.out.2; clear hu hb))
            go_ret2
            have h7 := HR7.out
            rw [HFORM.out] at h7
            refine ⟨_, by rw [HP.out]; rfl, ?_, HB0.out.trans (h7.2.mono HB0.out.size)⟩
            unfold packB
            rw [if_pos HP.out]
            exact base_own h7.1 HB0.out.size
          · have HN := Lib.hid (HNO.out 2 (by unfold packErr; rw [if_pos hk, if_pos hv, if_neg (by rw [HE0.out]; simp; omega)]) (by decide))
            clear HNO hX hk hv
            go_enter Try.func19, Try.ntmps19
            go_wp2
            go_ret2
            exact HN.out
        · have HN := Lib.hid (HNO.out 2 (by unfold packErr; rw [if_pos hk, if_pos hv, if_neg (by rw [HE0.out]; simp; omega)]) (by decide))
          clear HNO hX hk hv
          go_enter Try.func19, Try.ntmps19
          go_wp2
          go_ret2
          exact HN.out
      · have HN := Lib.hid (HNO.out 11 (by unfold packErr; rw [if_pos hk, if_neg (by rw [HV0.out]; simp; omega)]) (by decide))
        clear HNO hX hk
        go_enter Try.func19, Try.ntmps19
        go_wp2
        go_ret2
        exact HN.out
    · have HN := Lib.hid (HNO.out 10 (by unfold packErr; rw [if_neg (by rw [HK0.out]; simp; omega)]) (by decide))
      clear HNO hX
      go_enter Try.func19, Try.ntmps19
      go_wp2
      go_ret2
      exact HN.out
end Go.Proofs.Ytakipdfmlolgfaa

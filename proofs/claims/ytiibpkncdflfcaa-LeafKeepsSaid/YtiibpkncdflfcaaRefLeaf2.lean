/-
  The document's answer for a leaf's sector: sgraffitoref05.Build, where there is one.
  Conditions: none.
-/
import Derived.Test.YtiibpkncdflfcaaRefLeaf
namespace Go.Proofs.Ytiibpkncdflfcaa
open Go.RowKit

set_option maxRecDepth 100000 in
set_option maxHeartbeats 8000000 in
theorem refBuild_yes (size : Int) (x : LeafP) (w : World) (he : buildErr size x.kind x.place x.stamp x.load.length = 0) (hst : x.stamp ≤ 9223372036854775807) :
    Calls Try.prog 6 #[.int .i64 size, .agg x.doc] w (Built (leafB size x.kind x.place x.stamp x.load) 0 w) := by
  have HB0 := Lib.hid ((Below.refl w.heap.size w).alloc (Nat.le_refl _) (.cells x.doc 29))
  have hX : (w.alloc (.cells x.doc 29)).heap[w.heap.size]? = some (.cells x.doc 29 (0, 0)) := heap_alloc_new _ _
  have HD : Hid (x.doc = #[.int .i64 x.kind, .int .i64 x.place, .int .i64 x.stamp, .string (strB x.load)]) := rfl
  have hsz := strB_size x.load
  have hall : (96 ≤ size ∧ size ≤ 512) ∧ (1 ≤ x.kind ∧ x.kind ≤ 4) ∧ (0 ≤ x.place ∧ x.place ≤ 2147483647 ∧ 0 ≤ x.stamp) ∧ (x.load.length : Int) ≤ size - 19 := by
    unfold buildErr at he
    by_cases h1 : sizeB size = true
    · rw [if_pos h1] at he
      by_cases h2 : kindB x.kind = true ∧ 0 ≤ x.place ∧ x.place ≤ 2147483647 ∧ 0 ≤ x.stamp
      · rw [if_pos h2] at he
        by_cases h3 : size - 19 < x.load.length
        · rw [if_pos h3] at he; exact absurd he (by decide)
        · exact ⟨by simpa [sizeB] using h1, by simpa [kindB] using h2.1, h2.2, by omega⟩
      · rw [if_neg h2] at he; exact absurd he (by decide)
    · rw [if_neg h1] at he; exact absurd he (by decide)
  clear he
  obtain ⟨⟨s1, s2⟩, ⟨k1, k2⟩, ⟨p1, p2, p3⟩, hl⟩ := hall
  obtain ⟨w0, hw0⟩ : ∃ w0, w.alloc (.cells x.doc 29) = w0 := ⟨_, rfl⟩
  obtain ⟨X, hXe⟩ : ∃ X, w.heap.size = X := ⟨_, rfl⟩
  rw [hw0, hXe] at hX
  rw [hw0] at HB0
  have HX := Lib.hid hX
  have HXE := Lib.hid hXe
  obtain ⟨d0, d1, d2, d3⟩ := doc_cells hX (Below.refl w0.heap.size w0)
  have hcv := fun W => conv_bytes W (strB x.load)
  have hbw := fun W => bw_bytes W x.load
  rw [strB_size] at hcv
  simp only [strB_size] at hbw
  have HBW := Lib.hid hbw
  obtain ⟨i0, hi, hz0, hz1, hz2⟩ := info_parts Try.infoU8
  have hl0 : (x.load.length : Int) ≤ 493 := by omega
  have HLL := Lib.hid (show x.load.length ≤ 493 from by omega)
  have HN1 := Lib.hid (refNumO x.kind 1 (by omega) (by omega) rfl)
  have HN2 := Lib.hid (refNumI x.load.length 2 (by omega) (by omega) rfl)
  have HN3 := Lib.hid (refNumI x.place 4 (by omega) (by omega) rfl)
  have HN4 := Lib.hid (refNumI x.stamp 8 (by omega) (by omega) rfl)
  obtain ⟨pad, hpad⟩ : ∃ pad : Nat, (size - 19 - x.load.length).toNat = pad := ⟨_, rfl⟩
  have HPAD := Lib.hid (show (pad : Int) = size - 19 - x.load.length from by omega)
  have HBODY : Hid (leI 1 x.kind ++ leI 2 x.load.length ++ leI 4 x.place ++ leI 8 x.stamp ++ x.load ++ List.replicate pad 0#8 = leafBody size x.kind x.place x.stamp x.load) := by
    unfold Hid leafBody; rw [hpad]; rfl
  rw [HD.out] at hw0 ⊢
  clear hX hXe hpad hbw
  go_enter Try.func6, Try.ntmps6
  go_upto_region 1 with (fail)
  rw [HXE.out]
  clear hw0
  go_wp2_with (first
    | (at_builtin; (refine wpList_append_bytes rfl (.tmp 66) (.tmp 69) rfl rfl w0.heap.size i0 hi hz0 hz1 hz2 _ rfl _ (HR7.out.behind (bw_below w7 5 (strB x.load))).1 _ rfl _ _ (HBW.out w7) (by simp [leI_len]; have := HLL.out; omega) (HR7.out.behind (bw_below w7 5 (strB x.load))).2.size ?_); intro v8 w8 n8 hn hown hg _; have HR8 := Lib.hid (RAt.app (HR7.out.behind (bw_below w7 5 (strB x.load))) hn.out hown hg); clear hn hown hg)
    | (at_builtin; (refine wpList_append_bytes rfl (.tmp 60) (.tmp 64) rfl rfl w0.heap.size i0 hi hz0 hz1 hz2 _ rfl _ HR6.out.1 _ rfl _ _ HU6.out (by simp [leI_len]) HR6.out.2.size ?_); intro v7 w7 n7 hn hown hg _; have HR7 := Lib.hid (RAt.app HR6.out hn.out hown hg); obtain ⟨d0, d1, d2, d3⟩ := doc_cells HX.out HR7.out.2; clear hn hown hg)
    | (at_builtin; (refine wpList_append_bytes rfl (.tmp 54) (.tmp 58) rfl rfl w0.heap.size i0 hi hz0 hz1 hz2 _ rfl _ HR4.out.1 _ rfl _ _ HU4.out (by simp [leI_len]) HR4.out.2.size ?_); intro v5 w5 n5 hn hown hg _; have HR5 := Lib.hid (RAt.app HR4.out hn.out hown hg); obtain ⟨d0, d1, d2, d3⟩ := doc_cells HX.out HR5.out.2; clear hn hown hg)
    | (at_builtin; (refine wpList_append_bytes rfl (.tmp 47) (.tmp 52) rfl rfl w0.heap.size i0 hi hz0 hz1 hz2 _ rfl _ HR2.out.1 _ rfl _ _ HU2.out (by simp [leI_len]) HR2.out.2.size ?_); intro v3 w3 n3 hn hown hg _; have HR3 := Lib.hid (RAt.app HR2.out hn.out hown hg); obtain ⟨d0, d1, d2, d3⟩ := doc_cells HX.out HR3.out.2; clear hn hown hg)
    | (go_at_call 20; (with_reducible refine (HN4.out _).mono ?_); rintro e w6 ⟨u6, rfl, hu, hb⟩; have HU6 := Lib.hid hu; have HR6 := Lib.hid (HR5.out.behind hb); obtain ⟨d0, d1, d2, d3⟩ := doc_cells HX.out HR6.out.2; clear hu hb)
    | (go_at_call 20; (with_reducible refine (HN3.out _).mono ?_); rintro e w4 ⟨u4, rfl, hu, hb⟩; have HU4 := Lib.hid hu; have HR4 := Lib.hid (HR3.out.behind hb); obtain ⟨d0, d1, d2, d3⟩ := doc_cells HX.out HR4.out.2; clear hu hb)
    | (go_at_call 20; (with_reducible refine (HN2.out _).mono ?_); rintro e w2 ⟨u2, rfl, hu, hb⟩; have HU2 := Lib.hid hu; have HR2 := Lib.hid (HR1.out.behind hb); obtain ⟨d0, d1, d2, d3⟩ := doc_cells HX.out HR2.out.2; clear hu hb)
    | (go_at_call 20; (with_reducible refine (HN1.out _).mono ?_); rintro e w1 ⟨u1, rfl, hu, hb⟩; have HR1 := Lib.hid (show RAt w0 u1 (leI 1 x.kind) w1 from ⟨hu, hb⟩); obtain ⟨d0, d1, d2, d3⟩ := doc_cells HX.out HR1.out.2; clear hu hb))
  obtain ⟨R5, hR5⟩ : ∃ R5, leI 1 x.kind ++ leI 2 x.load.length ++ leI 4 x.place ++ leI 8 x.stamp ++ x.load = R5 := ⟨_, rfl⟩
  have HL5 := Lib.hid (show R5.length + pad = (size - 4).toNat ∧ 96 ≤ size ∧ size ≤ 512 from ⟨by rw [← hR5]; simp [leI_len]; have := HPAD.out; omega, s1, s2⟩)
  rw [hR5] at HBODY HR8
  clear hR5 d0 d1 d2 d3 hcv hl0
  have HN5 := Lib.hid (fun (s : BitVec 32) => refNumI (U s) 4 (U_nonneg s) (by have := U_lt s; omega) rfl)
  go_loopw [6] (fun sv wr => ∃ (j : Nat) (row : List (BitVec 8)), j ≤ pad ∧ Hid (row = R5 ++ List.replicate j 0#8) ∧ RAt w0 sv row wr) (fun sv _ => 600 - lenOf sv)
  case atStart => exact ⟨0, R5, by omega, by simp [Hid], HR8.out⟩
  case round =>
    obtain ⟨j, row, hj, HROW, hR⟩ := hrel
    obtain ⟨a, c, rfl⟩ := owns_slice hR.1
    have HR := Lib.hid hR
    have hrl : row.length = R5.length + j := by rw [HROW.out]; simp
    by_cases hlt : j < pad
    · have h1 : (row.length : Int) < size - 4 := by have := HL5.out; omega
      have HRL := Lib.hid hrl
      clear hrl hR
      go_wp2_with (at_builtin; (refine wpList_append_bytes rfl (.tmp 76) (.tmp 77) rfl rfl w0.heap.size i0 hi hz0 hz1 hz2 _ rfl row (HR.out.behind ((Below.refl wr.heap.size wr).alloc (Nat.le_refl _) (.cells #[.int .u8 0] 5))).1 _ rfl _ _ (zero_made wr) (by have := HRL.out; have := HL5.out; simp; omega) (HR.out.behind ((Below.refl wr.heap.size wr).alloc (Nat.le_refl _) (.cells #[.int .u8 0] 5))).2.size ?_); intro v9 w9 n9 hn hown hg _; have HR9 := Lib.hid (RAt.app (HR.out.behind ((Below.refl wr.heap.size wr).alloc (Nat.le_refl _) (.cells #[.int .u8 0] 5))) hn.out hown hg); obtain ⟨a9, c9, rfl⟩ := owns_slice hown; have HN9 := Lib.hid hn; clear hn hown hg)
      go_roundw
      case rel => exact ⟨j + 1, row ++ [0#8], by omega, by unfold Hid; rw [HROW.out, rep_snoc], HR9.out⟩
      case measure => have e := HN9.out.out; have := HRL.out; have := HL5.out; simp [lenOf] at e ⊢; omega
    · obtain rfl : j = pad := by omega
      have HB := HROW
      unfold Hid at HB
      rw [HBODY.out] at HB
      have h1 : ¬ (row.length : Int) < size - 4 := by have := HL5.out; omega
      have HSU := Lib.hid (Crc.refSum_any row _ _ wr (crc_bytes (BytesAt.of_owns hR.1)) (by have := HL5.out; omega))
      obtain ⟨s, hs⟩ : ∃ s, Crc.crcAdd 0#32 row = s := ⟨_, rfl⟩
      rw [hs] at HSU
      have hw : IntKind.u64.wrap (U s) = U s := by
        have h0 := U_nonneg s
        have h2 := U_lt s
        exact IntWalk.u64_in _ (by omega)
      have HS := Lib.hid hs
      have HNS := Lib.hid (HN5.out s)
      have HRL := Lib.hid hrl
      have HBB := Lib.hid HB
      clear hs hrl hR HB hlt hj
      go_wp2_with (first
        | (go_at_call 21; (with_reducible refine HSU.out.mono ?_); rintro e w9 ⟨rfl, rfl⟩)
        | (go_at_call 20; (with_reducible refine (HNS.out _).mono ?_); rintro e w9 ⟨u9, rfl, hu, hb⟩; have HU9 := Lib.hid hu; have HR9 := Lib.hid (HR.out.behind hb); clear hu hb)
        | (at_builtin; (refine wpList_append_bytes rfl (.tmp 81) (.tmp 84) rfl rfl w0.heap.size i0 hi hz0 hz1 hz2 _ rfl row HR9.out.1 _ rfl _ _ HU9.out (by have := HRL.out; have := HL5.out; simp [leI_len]; omega) HR9.out.2.size ?_); intro v10 w10 n10 hn hown hg _; have HR10 := Lib.hid (RAt.app HR9.out hn.out hown hg); clear hn hown hg))
      go_ret2
      have h10 := HR10.out
      have e : row ++ leI 4 (U s) = leafB size x.kind x.place x.stamp x.load := by
        unfold leafB
        rw [← HBB.out, HS.out]
      rw [e] at h10
      exact ⟨_, rfl, base_own h10.1 HB0.out.size, HB0.out.trans (h10.2.mono HB0.out.size)⟩
end Go.Proofs.Ytiibpkncdflfcaa

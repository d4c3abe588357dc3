/-
  BucketFresh: what is left without what is stale by two numbers, one behind the other, is what is left by the greater one.
  Conditions: none.
-/
import Derived.Test.YtnjpppeljpcndaaOpenBkt
import Derived.Test.YtnjpppeljpcndaaBkt9
namespace Go.Proofs.Ytnjpppeljpcndaa
open Go.ChangeShapes Go.WideShapes Go.ChangeAt Go.RowKit

/-- A bucket that is answered, its cells written out. -/
def BktLit (d p : Int) (l : List Ent) (w : World) (e : Ending) (w' : World) : Prop := ∃ a n c, e = .returned (.agg #[.int .i64 d, .int .i64 p, .slice a n c]) ∧ EntsAt w'.heap.size w' (.slice a n c) l ∧ Below w.heap.size w w'
def RightCall (d p s : Int) (v : Value) (es : List Ent) (W : World) : Prop := Calls Try.prog 13 #[.agg #[.int .i64 d, .int .i64 p, v], .int .i64 s] W (RightRet d p s es W)
theorem right_is {d p s : Int} {v : Value} {es : List Ent} {W : World} (h : RightCall d p s v es W) (hr : Right14 d p s es) : Calls Try.prog 13 #[.agg #[.int .i64 d, .int .i64 p, v], .int .i64 s] W fun e w' => e = .returned (.bool true) ∧ Below W.heap.size W w' := by
  refine h.mono ?_
  rintro e w' ⟨r, rfl, hi, hb⟩
  rw [hi.2 hr]
  exact ⟨rfl, hb⟩
theorem right_not {d p s : Int} {v : Value} {es : List Ent} {W : World} (h : RightCall d p s v es W) (hr : ¬ Right14 d p s es) : Calls Try.prog 13 #[.agg #[.int .i64 d, .int .i64 p, v], .int .i64 s] W fun e w' => e = .returned (.bool false) ∧ Below W.heap.size W w' := by
  refine h.mono ?_
  rintro e w' ⟨r, rfl, hi, hb⟩
  cases r with
  | true => exact absurd (hi.1 rfl) hr
  | false => exact ⟨rfl, hb⟩
theorem fresh_fresh (es : List Ent) (x y m : Int) (hm : m = if x < y then y else x) : ((es.filter fun e => !decide (e.reg < x)).filter fun e => !decide (e.reg < y)) = es.filter fun e => !decide (e.reg < m) := by
  have h1 : m = x ∧ y ≤ x ∨ m = y ∧ x ≤ y := by
    by_cases h : x < y
    · rw [if_pos h] at hm; omega
    · rw [if_neg h] at hm; omega
  clear hm
  rw [List.filter_filter]
  congr 1
  funext e
  rw [Bool.eq_iff_iff]
  simp
  omega
theorem fresh_fresh2 (es : List Ent) (x y m : Int) (hm : m = if x < y then y else x) : ((es.filter fun e => !decide (e.reg < y)).filter fun e => !decide (e.reg < x)) = es.filter fun e => !decide (e.reg < m) := by
  refine fresh_fresh es y x m ?_
  by_cases h : x < y
  · rw [if_pos h] at hm; rw [if_neg (by omega)]; exact hm
  · rw [if_neg h] at hm
    by_cases h2 : y < x
    · rw [if_pos h2]; exact hm
    · rw [if_neg h2]; omega

set_option maxRecDepth 100000 in
set_option maxHeartbeats 8000000 in
theorem bucketFresh_walk (HRR : ∀ (d p s : Int) (a : Option Addr) (m c : Nat) (es : List Ent) (w : World), EntsAt w.heap.size w (.slice a m c) es → RightCall d p s (.slice a m c) es w)
    (d p : Int) (v : Value) (es : List Ent) (x y : Int) (w : World) (hE : EntsAt w.heap.size w v es) (hm : es.length ≤ maxLen) : Calls Try.prog 8 #[.agg #[.int .i64 d, .int .i64 p, v], .int .i64 x, .int .i64 y] w (Good w) := by
  unfold maxLen at hm
  obtain ⟨a, c, rfl, hc0⟩ := hE.slice
  obtain ⟨w1, hw1⟩ : ∃ w1, w.alloc (.cells #[.int .i64 d, .int .i64 p, .slice a es.length c] 24) = w1 := ⟨_, rfl⟩
  have hb1 : Below w.heap.size w w1 := by rw [← hw1]; exact (Below.refl _ w).alloc (Nat.le_refl _) _
  have hk1 : w1.heap[w.heap.size]? = some (.cells #[.int .i64 d, .int .i64 p, .slice a es.length c] 24 (0, 0)) := by rw [← hw1]; exact heap_alloc_new _ _
  have hE1 : EntsAt w1.heap.size w1 (.slice a es.length c) es := hE.next hb1
  have HW1 := Lib.hid hw1
  clear hw1
  by_cases hbig : 255 < es.length
  · have h1 : (255 : Int) < es.length := by omega
    go_enter Try.func8, Try.ntmps8
    go_wp2
    go_ret
    refine ⟨rfl, ?_⟩
    rw [HW1.out]; exact hb1
  have h1 : (es.length : Int) ≤ 255 := by omega
  have hl : es.length ≤ 1073741824 := by omega
  have c0 : w1.cell? ⟨w.heap.size, 0, none⟩ = some (.int .i64 d) := blk_cell hk1 0
  have c1 : w1.cell? ⟨w.heap.size, 1, none⟩ = some (.int .i64 p) := blk_cell hk1 1
  have c2 : w1.cell? ⟨w.heap.size, 2, none⟩ = some (.slice a es.length c) := blk_cell hk1 2
  have HAW := Lib.hid (fun W => awake14 W)
  have HB1 := Lib.hid hb1
  have hR1 := HRR d p 255 a es.length c es w1 hE1
  by_cases hR : Right14 d p 255 es
  · have HRC := Lib.hid (right_is hR1 hR)
    have HC : Hid (∀ W, Below w1.heap.size w1 W → W.cell? ⟨w.heap.size, 0, none⟩ = some (.int .i64 d) ∧ W.cell? ⟨w.heap.size, 1, none⟩ = some (.int .i64 p) ∧ W.cell? ⟨w.heap.size, 2, none⟩ = some (.slice a es.length c)) := fun W h =>
      ⟨(h.cell (p := ⟨w.heap.size, 0, none⟩) (blk_lt hk1)).trans c0, (h.cell (p := ⟨w.heap.size, 1, none⟩) (blk_lt hk1)).trans c1, (h.cell (p := ⟨w.heap.size, 2, none⟩) (blk_lt hk1)).trans c2⟩
    have HOF : Hid (∀ W, Below w1.heap.size w1 W → Calls Try.prog 10 #[.agg #[.int .i64 d, .int .i64 p, .slice a es.length c]] W (BktLit d p es W)) := fun W h => of_any d p a _ c es W ((hE1.below h).mono h.size) hl
    have HFR : Hid (∀ (o : Int) (a : Option Addr) (n c : Nat) (l : List Ent) W, EntsAt W.heap.size W (.slice a n c) l → l.length ≤ es.length → Calls Try.prog 26 #[.agg #[.int .i64 d, .int .i64 p, .slice a n c], .int .i64 o] W (BktLit d p (l.filter fun e => !decide (e.reg < o)) W)) := fun o a n c l W h hl2 => fresh_any d p o a n c l W h (by omega)
    have HRF : Hid (∀ (o : Int) W, Below w1.heap.size w1 W → Calls Try.prog 27 #[.agg #[.int .i64 d, .int .i64 p, .slice a es.length c], .int .i64 o] W (BktLit d p (es.filter fun e => !decide (e.reg < o)) W)) := fun o W h => refFresh_any d p o a _ c es W ((hE1.below h).mono h.size) hl
    clear hk1 hE1 hb1 hR1 hR HRR hE hbig
    go_enter Try.func8, Try.ntmps8
    go_upto_region 3 with (first
      | (go_at_call 13; rw [HW1.out]; (with_reducible refine HRC.out.mono ?_); rintro e w2 ⟨rfl, hb2⟩; have HB2 := Lib.hid hb2; obtain ⟨d0, d1, d2⟩ := HC.out _ hb2; clear hb2))
    go_upto_region 4 with (first
      | (go_at_call 10; (with_reducible refine (HOF.out _ HB2.out).mono ?_); rintro e w3 ⟨a3, n3, k3, rfl, h3, hb3⟩; have HE3 := Lib.hid h3; have HB3 := Lib.hid (HB2.out.trans (hb3.mono HB2.out.size)); clear h3 hb3)
      | (go_at_call 26; (with_reducible refine (HFR.out _ _ _ _ _ _ HE4.out (List.length_filter_le _ _)).mono ?_); rintro e w5 ⟨a5, n5, k5, rfl, h5, hb5⟩; have HE5 := Lib.hid h5; have HB5 := Lib.hid (HB4.out.trans (hb5.mono HB4.out.size)); clear h5 hb5)
      | (go_at_call 26; (with_reducible refine (HFR.out _ _ _ _ _ _ HE3.out (Nat.le_refl _)).mono ?_); rintro e w4 ⟨a4, n4, k4, rfl, h4, hb4⟩; have HE4 := Lib.hid h4; have HB4 := Lib.hid (HB3.out.trans (hb4.mono HB3.out.size)); clear h4 hb4))
    have hk6 : (w5.alloc (.cells #[.int .i64 d, .int .i64 p, .slice a5 n5 k5] 31)).heap[w5.heap.size]? = some (.cells #[.int .i64 d, .int .i64 p, .slice a5 n5 k5] 31 (0, 0)) := heap_alloc_new _ _
    have hb6 := HB5.out.alloc HB5.out.size (.cells #[.int .i64 d, .int .i64 p, .slice a5 n5 k5] 31)
    have he6 := HE5.out.next ((Below.refl _ w5).alloc (Nat.le_refl _) (.cells #[.int .i64 d, .int .i64 p, .slice a5 n5 k5] 31))
    obtain ⟨w6, hw6⟩ : ∃ w6, w5.alloc (.cells #[.int .i64 d, .int .i64 p, .slice a5 n5 k5] 31) = w6 := ⟨_, rfl⟩
    rw [hw6] at hk6 hb6 he6 ⊢
    have HK6 := Lib.hid hk6
    have HB6 := Lib.hid hb6
    have HE6 := Lib.hid he6
    obtain ⟨d0, d1, d2⟩ := HC.out _ hb6
    clear hw6 hk6 hb6 he6
    generalize w5.heap.size = Q5 at HK6 ⊢
    go_upto_region 5 with (first
      | (go_at_call 10; (with_reducible refine (HOF.out _ HB6.out).mono ?_); rintro e w7 ⟨a7, n7, k7, rfl, h7, hb7⟩; have HE7 := Lib.hid h7; have HB7 := Lib.hid (HB6.out.trans (hb7.mono HB6.out.size)); have HD7 := Lib.hid hb7; clear h7 hb7)
      | (go_at_call 26; (with_reducible refine (HFR.out _ _ _ _ _ _ HE8.out (List.length_filter_le _ _)).mono ?_); rintro e w9 ⟨a9, n9, k9, rfl, h9, hb9⟩; have HE9 := Lib.hid h9; have HB9 := Lib.hid (HB8.out.trans (hb9.mono HB8.out.size)); have HD9 := Lib.hid (HD8.out.trans (hb9.mono HD8.out.size)); clear h9 hb9)
      | (go_at_call 26; (with_reducible refine (HFR.out _ _ _ _ _ _ HE7.out (Nat.le_refl _)).mono ?_); rintro e w8 ⟨a8, n8, k8, rfl, h8, hb8⟩; have HE8 := Lib.hid h8; have HB8 := Lib.hid (HB7.out.trans (hb8.mono HB7.out.size)); have HD8 := Lib.hid (HD7.out.trans (hb8.mono HD7.out.size)); clear h8 hb8))
    have hkx : (w9.alloc (.cells #[.int .i64 d, .int .i64 p, .slice a9 n9 k9] 31)).heap[w9.heap.size]? = some (.cells #[.int .i64 d, .int .i64 p, .slice a9 n9 k9] 31 (0, 0)) := heap_alloc_new _ _
    have hbx := HB9.out.alloc HB9.out.size (.cells #[.int .i64 d, .int .i64 p, .slice a9 n9 k9] 31)
    have hdx := HD9.out.alloc HD9.out.size (.cells #[.int .i64 d, .int .i64 p, .slice a9 n9 k9] 31)
    have hex := HE9.out.next ((Below.refl _ w9).alloc (Nat.le_refl _) (.cells #[.int .i64 d, .int .i64 p, .slice a9 n9 k9] 31))
    obtain ⟨wx, hwx⟩ : ∃ wx, w9.alloc (.cells #[.int .i64 d, .int .i64 p, .slice a9 n9 k9] 31) = wx := ⟨_, rfl⟩
    rw [hwx] at hkx hbx hdx hex ⊢
    have HKX := Lib.hid hkx
    have HBX := Lib.hid hbx
    have HDX := Lib.hid hdx
    have HEX := Lib.hid hex
    obtain ⟨f0, f1, f2⟩ := HC.out _ hbx
    clear hwx hkx hbx hdx hex
    generalize w9.heap.size = Q9 at HKX ⊢
    go_upto_region 6 with (first
      | (go_at_call 27; (with_reducible refine (HRF.out _ _ HBX.out).mono ?_); rintro e wy ⟨ay, ny, ky, rfl, hy, hby⟩; have HEY := Lib.hid hy; have HDY := Lib.hid hby; clear hy hby))
    have HQ1 := Lib.hid (fresh_fresh es x y _ rfl)
    have HQ2 := Lib.hid (fresh_fresh2 es x y _ rfl)
    have HLL := Lib.hid (show (es.filter fun e => !decide (e.reg < if x < y then y else x)).length ≤ 1073741824 from Nat.le_trans (List.length_filter_le _ _) hl)
    rw [HQ1.out] at HE6
    rw [HQ2.out] at HEX
    clear HQ1 HQ2
    generalize (es.filter fun e => !decide (e.reg < if x < y then y else x)) = L at HE6 HEX HEY HLL
    have hkz : (wy.alloc (.cells #[.int .i64 d, .int .i64 p, .slice ay ny ky] 24)).heap[wy.heap.size]? = some (.cells #[.int .i64 d, .int .i64 p, .slice ay ny ky] 24 (0, 0)) := heap_alloc_new _ _
    have hdz := HDY.out.alloc HDY.out.size (.cells #[.int .i64 d, .int .i64 p, .slice ay ny ky] 24)
    have hez := HEY.out.next ((Below.refl _ wy).alloc (Nat.le_refl _) (.cells #[.int .i64 d, .int .i64 p, .slice ay ny ky] 24))
    obtain ⟨wz, hwz⟩ : ∃ wz, wy.alloc (.cells #[.int .i64 d, .int .i64 p, .slice ay ny ky] 24) = wz := ⟨_, rfl⟩
    rw [hwz] at hkz hdz hez ⊢
    clear hwz d0 d1 d2 f0 f1 f2 c0 c1 c2
    generalize wy.heap.size = QY at hkz ⊢
    have h6z : Below w6.heap.size w6 wz := HDX.out.trans (hdz.mono HDX.out.size)
    have k6z := (h6z.block _ (blk_lt HK6.out)).trans HK6.out
    have kxz := (hdz.block _ (blk_lt HKX.out)).trans HKX.out
    have HT1 := Lib.hid (told_any d p a5 ay n5 k5 ny ky L wz (HE6.out.next h6z) hez HLL.out)
    have HT2 : Hid (∀ W, Below wz.heap.size wz W → Calls Try.prog 17 #[.agg #[.int .i64 d, .int .i64 p, .slice a9 n9 k9], .agg #[.int .i64 d, .int .i64 p, .slice ay ny ky]] W fun e w' => e = .returned (.bool true) ∧ Below W.heap.size W w') := fun W h => told_any d p a9 ay n9 k9 ny ky L W ((HEX.out.next hdz).next h) (hez.next h) HLL.out
    have u0 : wz.cell? ⟨Q5, 0, none⟩ = some (.int .i64 d) := blk_cell k6z 0
    have u1 : wz.cell? ⟨Q5, 1, none⟩ = some (.int .i64 p) := blk_cell k6z 1
    have u2 : wz.cell? ⟨Q5, 2, none⟩ = some (.slice a5 n5 k5) := blk_cell k6z 2
    have v0 : wz.cell? ⟨QY, 0, none⟩ = some (.int .i64 d) := blk_cell hkz 0
    have v1 : wz.cell? ⟨QY, 1, none⟩ = some (.int .i64 p) := blk_cell hkz 1
    have v2 : wz.cell? ⟨QY, 2, none⟩ = some (.slice ay ny ky) := blk_cell hkz 2
    have HC2 : Hid (∀ W, Below wz.heap.size wz W → (W.cell? ⟨Q9, 0, none⟩ = some (.int .i64 d) ∧ W.cell? ⟨Q9, 1, none⟩ = some (.int .i64 p) ∧ W.cell? ⟨Q9, 2, none⟩ = some (.slice a9 n9 k9)) ∧ W.cell? ⟨QY, 0, none⟩ = some (.int .i64 d) ∧ W.cell? ⟨QY, 1, none⟩ = some (.int .i64 p) ∧ W.cell? ⟨QY, 2, none⟩ = some (.slice ay ny ky)) := fun W h =>
      ⟨⟨(h.cell (p := ⟨Q9, 0, none⟩) (blk_lt kxz)).trans (blk_cell kxz 0), (h.cell (p := ⟨Q9, 1, none⟩) (blk_lt kxz)).trans (blk_cell kxz 1), (h.cell (p := ⟨Q9, 2, none⟩) (blk_lt kxz)).trans (blk_cell kxz 2)⟩, (h.cell (p := ⟨QY, 0, none⟩) (blk_lt hkz)).trans v0, (h.cell (p := ⟨QY, 1, none⟩) (blk_lt hkz)).trans v1, (h.cell (p := ⟨QY, 2, none⟩) (blk_lt hkz)).trans v2⟩
    have HWZ := Lib.hid (HB1.out.trans ((HB6.out.trans (h6z.mono HB6.out.size)).mono HB1.out.size))
    clear hkz hdz hez h6z k6z kxz
    go_wp2_with (first
      | (go_at_call 17; (with_reducible refine HT1.out.mono ?_); rintro e wa ⟨rfl, hba⟩; obtain ⟨⟨t0, t1, t2⟩, t3, t4, t5⟩ := HC2.out _ hba; have HBA := Lib.hid hba; clear hba u0 u1 u2 v0 v1 v2)
      | (go_at_call 17; (with_reducible refine (HT2.out _ HBA.out).mono ?_); rintro e wb ⟨rfl, hbb⟩; have HBB := Lib.hid hbb; clear hbb)
      | (go_at_call 14; (with_reducible refine (HAW.out _).mono ?_); rintro e wc ⟨rfl, hbc⟩; have HBC := Lib.hid hbc; clear hbc))
    all_goals go_ret
    all_goals exact ⟨rfl, HWZ.out.trans ((HBA.out.trans ((HBB.out.trans (HBC.out.mono HBB.out.size)).mono HBA.out.size)).mono HWZ.out.size)⟩
  · have HRC := Lib.hid (right_not hR1 hR)
    clear hk1 hE1 hb1 hR1 hR HRR hE hbig
    go_enter Try.func8, Try.ntmps8
    go_wp2_with (first
      | (go_at_call 13; rw [HW1.out]; (with_reducible refine HRC.out.mono ?_); rintro e w2 ⟨rfl, hb2⟩; have HB2 := Lib.hid hb2; have d2 : w2.cell? ⟨w.heap.size, 2, none⟩ = some (.slice a es.length c) := (hb2.cell (World.block_lt_of_cell? _ _ c2)).trans c2; clear hb2)
      | (go_at_call 14; (with_reducible refine (HAW.out _).mono ?_); rintro e w6 ⟨rfl, hb6⟩; have HB6 := Lib.hid hb6; clear hb6))
    go_ret
    exact ⟨rfl, HB1.out.trans ((HB2.out.trans (HB6.out.mono HB2.out.size)).mono HB1.out.size)⟩
set_option maxRecDepth 100000 in
theorem bucketFresh_lifted (os : Os) (started : os.Started) (H : Type) (enc : TypeId × Value → H) :
    ReturnsInHanded {} Try.checked os 8 .any (Rows.bucketFreshSpec.pre6 enc Try.prog Try.f8 Rows.bucketFreshRow.domain false) (Rows.bucketFreshSpec.post enc Try.prog Try.f8 false true false false) :=
  law_lifted 8 Try.f8 Rows.bucketFreshSpec Try.func8 (by kernel_rfl) rfl rfl
    (fun ds h => by match ds, h with | [_, _, _], _ => rfl) (by kernel_rfl) os started
    (ChangeSpec.witness6 (enc := enc) (C := Try.checked) false ⟨#[], #[.agg #[.int .i64 0, .int .i64 0, .slice none 0 0], .int .i64 0, .int .i64 0], []⟩ 8 (by kernel_rfl) (by kernel_rfl) (by kernel_rfl) (by kernel_rfl))
    fun W args ds ps hval hA => by
      rw [Try.params8] at hA hval
      obtain ⟨v0, vs0, d0, ds0, p0, q0, hargs, rfl, rfl, h0, r0⟩ := trodAll_cons hA
      obtain ⟨v1, vs1, d1, ds1, p1, q1, rfl, rfl, rfl, h1, r1⟩ := trodAll_cons r0
      obtain ⟨v2, vs2, d2, ds2, p2, q2, rfl, rfl, rfl, h2, r2⟩ := trodAll_cons r1
      obtain ⟨rfl, rfl, rfl⟩ := trodAll_nil r2
      obtain rfl : args = #[v0, v1, v2] := by cases args; simp_all
      obtain ⟨b0, o0⟩ := hval 0 _ v0 rfl rfl
      obtain ⟨b1, o1⟩ := hval 1 _ v1 rfl rfl
      obtain ⟨b2, o2⟩ := hval 2 _ v2 rfl rfl
      obtain ⟨q0, rfl, hq0⟩ := open_bkt o0 h0
      obtain ⟨a1, rfl, rfl, rfl, w1⟩ := open_int Try.underlying3 o1 h1
      obtain ⟨a2, rfl, rfl, rfl, w2⟩ := open_int Try.underlying3 o2 h2
      exact bucketFresh_walk (fun d p s a m c es w h => refRight_any d p s a m c es w h) q0.1 q0.2.1 q0.2.2.1 q0.2.2.2 a1 a2 W hq0.1 hq0.2.1

/-- The statement. -/
theorem bucketFresh_holds : Rows.BucketFreshSaid :=
  OpenClaim.holds_of_wide 8 Try.f8 rfl rfl rfl rfl rfl rfl rfl ⟨rfl, rfl, rfl, rfl, rfl⟩ rfl rfl rfl rfl rfl (by kernel_rfl) Try.func8 (by kernel_rfl)
    (of_decide_eq_true (by kernel_rfl)) (by unfold Func.isWrapper; first | (rw [if_pos (by decide +kernel)]; kernel_rfl) | (rw [if_neg (by decide +kernel)]; exact ⟨rfl, rfl⟩))
    (fun os started H enc _ => bucketFresh_lifted os started H enc)
#print axioms bucketFresh_holds
end Go.Proofs.Ytnjpppeljpcndaa

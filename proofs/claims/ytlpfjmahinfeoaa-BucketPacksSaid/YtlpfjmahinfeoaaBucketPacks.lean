/-
  BucketPacks: the load of any bucket, or that it is none.
  Conditions: none.
-/
import Derived.Test.YtlpfjmahinfeoaaBkt14
import Derived.Test.YtlpfjmahinfeoaaBkt7
import Derived.Test.YtlpfjmahinfeoaaOpenBkt
import Derived.Test.YtlpfjmahinfeoaaStr
import Derived.BigQuiet
import Derived.Deep.RegionHeld3
namespace Go.Proofs.Ytlpfjmahinfeoaa
open Go.ChangeShapes Go.WideShapes Go.ChangeAt Go.RowKit

open Classical in
/-- The load, or none. -/
noncomputable def ldB (d p s : Int) (es : List Ent) : List (BitVec 8) := if Right14 d p s es then bktB d p es else []
open Classical in
noncomputable def ldE (d p s : Int) (es : List Ent) : Int := if Right14 d p s es then 0 else 5
theorem pack_any (d p s : Int) (a : Option Addr) (m c : Nat) (es : List Ent) (w : World) (hE : EntsAt w.heap.size w (.slice a m c) es) :
    Calls Try.prog 6 #[.agg #[.int .i64 d, .int .i64 p, .slice a m c], .int .i64 s] w (Loaded (ldB d p s es) (ldE d p s es) w) := by
  unfold ldB ldE
  by_cases h : Right14 d p s es
  · rw [if_pos h, if_pos h]
    obtain ⟨_, _, e0, _⟩ := hE.slice
    cases e0
    exact pack_yes d p s a c es w hE h
  · rw [if_neg h, if_neg h]
    exact pack_no d p s a m c es w hE h
theorem refPack14_any (d p s : Int) (a : Option Addr) (m c : Nat) (es : List Ent) (w : World) (hE : EntsAt w.heap.size w (.slice a m c) es) :
    Calls Try.prog 8 #[.agg #[.int .i64 d, .int .i64 p, .slice a m c], .int .i64 s] w (Loaded (ldB d p s es) (ldE d p s es) w) := by
  unfold ldB ldE
  by_cases h : Right14 d p s es
  · rw [if_pos h, if_pos h]
    obtain ⟨_, _, e0, _⟩ := hE.slice
    cases e0
    exact refPack_yes d p s a c es w hE h
  · rw [if_neg h, if_neg h]
    exact refPack_no d p s a m c es w hE h
set_option maxRecDepth 100000 in
set_option maxHeartbeats 8000000 in
theorem bucketPacks_walk (d p s : Int) (v : Value) (es : List Ent) (w : World) (hE : EntsAt w.heap.size w v es) (hm : es.length ≤ maxLen) : Calls Try.prog 3 #[.agg #[.int .i64 d, .int .i64 p, v], .int .i64 s] w (Good w) := by
  obtain ⟨a, c, rfl, _⟩ := hE.slice
  unfold maxLen at hm
  obtain ⟨w1, hw1⟩ : ∃ w1, w.alloc (.cells #[.int .i64 d, .int .i64 p, .slice a es.length c] 24) = w1 := ⟨_, rfl⟩
  have hb1 : Below w.heap.size w w1 := by rw [← hw1]; exact (Below.refl _ w).alloc (Nat.le_refl _) _
  have hg1 : w1.heap[w.heap.size]? = some (.cells #[.int .i64 d, .int .i64 p, .slice a es.length c] 24 (0, 0)) := by rw [← hw1]; exact heap_alloc_new _ _
  have HW1 := Lib.hid hw1
  have HB1 := Lib.hid hb1
  have hE1 := hE.next hb1
  have HE := Lib.hid (fun W (hb : Below w1.heap.size w1 W) => hE1.next hb)
  have HC : Hid (∀ W, Below w1.heap.size w1 W → W.cell? ⟨w.heap.size, 0, none⟩ = some (.int .i64 d) ∧ W.cell? ⟨w.heap.size, 1, none⟩ = some (.int .i64 p) ∧ W.cell? ⟨w.heap.size, 2, none⟩ = some (.slice a es.length c)) := fun W hb => by
    have := (hb.block _ (blk_lt hg1)).trans hg1
    exact ⟨blk_cell this 0, blk_cell this 1, blk_cell this 2⟩
  obtain ⟨c0, c1, c2⟩ := HC.out _ (Below.refl _ _)
  have HAW := Lib.hid (fun W => awake14 W)
  clear hw1 hb1 hg1 hE hE1
  by_cases hbig : 300 < es.length
  · have b1 : (300 : Int) < es.length := by omega
    go_enter Try.func3, Try.ntmps3
    go_upto_region 1 with (fail)
    rw [HW1.out]
    clear HW1
    go_wp2
    go_ret
    exact ⟨rfl, HB1.out⟩
  have b1 : (es.length : Int) ≤ 300 := by omega
  have HLN : Hid (es.length ≤ 300) := by unfold Hid; omega
  have HOF := Lib.hid (fun W (hb : Below w1.heap.size w1 W) => of_any d p a es.length c es W (HE.out W hb) (by have := HLN.out; omega))
  have HRP := Lib.hid (fun W (hb : Below w1.heap.size w1 W) => refPack14_any d p s a es.length c es W (HE.out W hb))
  have HRR := Lib.hid (fun W (hb : Below w1.heap.size w1 W) => refRight_any d p s a es.length c es W (HE.out W hb))
  have HRT := Lib.hid (fun W a2 n2 c2 (h : EntsAt W.heap.size W (.slice a2 n2 c2) es) => right_any d p s a2 n2 c2 es W h)
  have HPK := Lib.hid (fun W a2 n2 c2 (h : EntsAt W.heap.size W (.slice a2 n2 c2) es) => pack_any d p s a2 n2 c2 es W h)
  obtain ⟨L, hL⟩ : ∃ L, ldB d p s es = L := ⟨_, rfl⟩
  obtain ⟨er, her⟩ : ∃ er, ldE d p s es = er := ⟨_, rfl⟩
  simp only [hL, her] at HRP HPK
  have hq : ((strB L).toList == (strB L).toList) = true := by rw [strB_beq]; simp
  have hee : (er == er) = true := by simp
  clear hL her hm hbig
  go_enter Try.func3, Try.ntmps3
  go_upto_region 1 with (fail)
  rw [HW1.out]
  clear HW1
  go_upto_region 5 with (first
    | (go_at_call 7; (with_reducible refine (HOF.out _ (Below.refl _ _)).mono ?_); rintro e w2 ⟨a2, n2, k2, rfl, he2, hb2⟩; unfold bktC; have HE2 := Lib.hid he2; have HB2 := Lib.hid hb2; have HP2 := Lib.hid (HPK.out _ _ _ _ he2); clear he2 hb2)
    | (go_at_call 6; (with_reducible refine HP2.out.mono ?_); rintro e w3 ⟨u3, rfl, hu3, hb3⟩; have HU3 := Lib.hid (BytesAt.of_owns hu3); have HB3 := Lib.hid (HB2.out.trans (hb3.mono HB2.out.size)); obtain ⟨e0, e1, e2⟩ := HC.out _ HB3.out; clear hu3 hb3)
    | (go_at_call 8; (with_reducible refine (HRP.out _ HB3.out).mono ?_); rintro e w4 ⟨u4, rfl, hu4, hb4⟩; have HU4 := Lib.hid (BytesAt.of_owns hu4); have HU5 := Lib.hid ((HU3.out.below hb4).mono hb4.size); have HB4 := Lib.hid (HB3.out.trans (hb4.mono HB3.out.size)); clear hu4 hb4))
  obtain ⟨a3, k3, rfl, _⟩ := id HU5.out
  obtain ⟨a4, k4, rfl, _⟩ := id HU4.out
  clear c0 c1 c2 e0 e1 e2
  have HCS : Hid (∀ W, Below w4.heap.size w4 W → W.cell? ⟨w.heap.size, 0, none⟩ = some (.int .i64 d) ∧ W.cell? ⟨w.heap.size, 1, none⟩ = some (.int .i64 p) ∧ W.cell? ⟨w.heap.size, 2, none⟩ = some (.slice a es.length c) ∧ (convert 25 9 (.slice a3 L.length k3)).run Try.prog W = .ok (.string (strB L)) W ∧ (convert 25 9 (.slice a4 L.length k4)).run Try.prog W = .ok (.string (strB L)) W) := fun W hb => by
    obtain ⟨q0, q1, q2⟩ := HC.out W (HB4.out.trans (hb.mono HB4.out.size))
    exact ⟨q0, q1, q2, conv_str (HU5.out.below hb), conv_str (HU4.out.below hb)⟩
  have HBD := Lib.hid ((Below.refl w4.heap.size w4).drew)
  have HBW := Lib.hid (HB1.out.trans (HB4.out.mono HB1.out.size))
  have HRB : Hid (∀ r r' : Bool, (r = true ↔ Right14 d p s es) → (r' = true ↔ Right14 d p s es) → (r == r') = true) := fun r r' h h' => by
    have : r = r' := Bool.eq_iff_iff.2 (h.trans h'.symm)
    rw [this]
    simp
  go_region_held3 (fun W => W.cell? ⟨w.heap.size, 0, none⟩ = some (.int .i64 d) ∧ W.cell? ⟨w.heap.size, 1, none⟩ = some (.int .i64 p) ∧ W.cell? ⟨w.heap.size, 2, none⟩ = some (.slice a es.length c) ∧ (convert 25 9 (.slice a3 L.length k3)).run Try.prog W = .ok (.string (strB L)) W ∧ (convert 25 9 (.slice a4 L.length k4)).run Try.prog W = .ok (.string (strB L)) W)
    (exact HCS.out _ HBD.out)
    (first
      | (go_at_call 7; (with_reducible refine (HOF.out _ (HB4.out.trans (HBD.out.mono HB4.out.size))).mono ?_); rintro e w6 ⟨a6, n6, k6, rfl, he6, hb6⟩; unfold bktC; have HE6 := Lib.hid he6; have hbn := HBD.out.trans (hb6.mono HBD.out.size); clear HBD; have HBD := Lib.hid hbn; clear he6 hb6 hbn)
      | (go_at_call 9; (with_reducible refine (HRT.out _ _ _ _ HE6.out).mono ?_); rintro e w7 ⟨r7, rfl, hr7, hb7⟩; have HR7 := Lib.hid hr7; have hbn := HBD.out.trans (hb7.mono HBD.out.size); clear HBD; have HBD := Lib.hid hbn; (try have hrr := HRB.out _ _ hr7 HR8.out); clear hr7 hb7 hbn)
      | (go_at_call 10; (with_reducible refine (HRR.out _ (HB4.out.trans (HBD.out.mono HB4.out.size))).mono ?_); rintro e w8 ⟨r8, rfl, hr8, hb8⟩; have HR8 := Lib.hid hr8; have hbn := HBD.out.trans (hb8.mono HBD.out.size); clear HBD; have HBD := Lib.hid hbn; (try (have RA := Lib.hid (HE6.out.next hb8); clear HE6; have HE6 := RA; clear RA)); (try have hrr := HRB.out _ _ HR7.out hr8); clear hr8 hb8 hbn)
      | (go_at_call 11; (with_reducible refine (HAW.out _).mono ?_); rintro e w9 ⟨rfl, hb9⟩; have hbn := HBD.out.trans (hb9.mono HBD.out.size); clear HBD; have HBD := Lib.hid hbn; clear hb9 hbn))
  all_goals
    go_wp2
    go_ret
    exact ⟨rfl, HBW.out.trans (HBD.out.mono HBW.out.size)⟩
set_option maxRecDepth 100000 in
theorem bucketPacks_lifted (os : Os) (started : os.Started) (H : Type) (enc : TypeId × Value → H) :
    ReturnsInHanded {} Try.checked os 3 .any (Rows.bucketPacksSpec.pre6 enc Try.prog Try.f3 Rows.bucketPacksRow.domain false) (Rows.bucketPacksSpec.post enc Try.prog Try.f3 false true false false) :=
  law_lifted 3 Try.f3 Rows.bucketPacksSpec Try.func3 (by kernel_rfl) rfl rfl
    (fun ds h => by match ds, h with | [_, _], _ => rfl) (by kernel_rfl) os started
    (ChangeSpec.witness6 (enc := enc) (C := Try.checked) false ⟨#[], #[.agg #[.int .i64 0, .int .i64 0, .slice none 0 0], .int .i64 0], []⟩ 8 (by kernel_rfl) (by kernel_rfl) (by kernel_rfl) (by kernel_rfl))
    fun W args ds ps hval hA => by
      rw [Try.params3] at hA hval
      obtain ⟨v0, vs0, d0, ds0, p0, q0, hargs, rfl, rfl, h0, r0⟩ := trodAll_cons hA
      obtain ⟨v1, vs1, d1, ds1, p1, q1, rfl, rfl, rfl, h1, r1⟩ := trodAll_cons r0
      obtain ⟨rfl, rfl, rfl⟩ := trodAll_nil r1
      obtain rfl : args = #[v0, v1] := by cases args; simp_all
      obtain ⟨b0, o0⟩ := hval 0 _ v0 rfl rfl
      obtain ⟨b1, o1⟩ := hval 1 _ v1 rfl rfl
      obtain ⟨q0, rfl, hq0⟩ := open_bkt o0 h0
      obtain ⟨a1, rfl, rfl, rfl, w1⟩ := open_int Try.underlying3 o1 h1
      exact bucketPacks_walk q0.1 q0.2.1 a1 q0.2.2.1 q0.2.2.2 W hq0.1 hq0.2.1

/-- The statement. -/
theorem bucketPacks_holds : Rows.BucketPacksSaid :=
  OpenClaim.holds_of_wide 3 Try.f3 rfl rfl rfl rfl rfl rfl rfl ⟨rfl, rfl, rfl, rfl, rfl⟩ rfl rfl rfl rfl rfl (by kernel_rfl) Try.func3 (by kernel_rfl)
    (of_decide_eq_true (by kernel_rfl)) (by unfold Func.isWrapper; first | (rw [if_pos (by decide +kernel)]; kernel_rfl) | (rw [if_neg (by decide +kernel)]; exact ⟨rfl, rfl⟩))
    (fun os started H enc _ => bucketPacks_lifted os started H enc)
#print axioms bucketPacks_holds
end Go.Proofs.Ytlpfjmahinfeoaa

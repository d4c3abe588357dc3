/-
  LeafBuilds: the sector of any leaf, or why there is none.
  Conditions: none.
-/
import Derived.Test.YtopjadmjahpeoaaRefLeaf2
namespace Go.Proofs.Ytopjadmjahpeoaa
open Go.ChangeShapes Go.WideShapes Go.ChangeAt Go.RowKit

theorem refBuild_any (size : Int) (x : LeafP) (w : World) (hst : x.stamp ≤ 9223372036854775807) (hs3 : x.load.length ≤ maxLen) :
    Calls Try.prog 10 #[.int .i64 size, .agg x.doc] w (Built (buildB size x.kind x.place x.stamp x.load) (buildErr size x.kind x.place x.stamp x.load.length) w) := by
  unfold buildB
  by_cases he : buildErr size x.kind x.place x.stamp x.load.length = 0
  · rw [if_pos he, he]
    exact refBuild_yes size x w he hst
  · rw [if_neg he]
    exact refBuild_no size x w he hs3

set_option maxRecDepth 100000 in
set_option maxHeartbeats 4000000 in
theorem leafBuilds_walk (size : Int) (x : LeafP) (hx : x.wf) (w : World) : Calls Try.prog 3 #[.int .i64 size, .agg x.doc] w (Good w) := by
  have HD : Hid (x.doc = #[.int .i64 x.kind, .int .i64 x.place, .int .i64 x.stamp, .string (strB x.load)]) := rfl
  have hX : (w.alloc (.cells x.doc 23)).heap[w.heap.size]? = some (.cells x.doc 23 (0, 0)) := heap_alloc_new _ _
  have HB0 : Hid (Below w.heap.size w (w.alloc (.cells x.doc 23))) := (Below.refl _ _).alloc (Nat.le_refl _) _
  have HST := Lib.hid hx.stamp.2
  have hsz := strB_size x.load
  clear hx
  obtain ⟨w0, hw0⟩ : ∃ w0, w.alloc (.cells x.doc 23) = w0 := ⟨_, rfl⟩
  obtain ⟨X, hXe⟩ : ∃ X, w.heap.size = X := ⟨_, rfl⟩
  rw [hw0] at hX HB0
  rw [hXe] at hX
  have HX := Lib.hid hX
  have HXE := Lib.hid hXe
  obtain ⟨d0, d1, d2, d3⟩ := doc_cells hX (Below.refl w0.heap.size w0)
  rw [HD.out] at hw0 ⊢
  clear hX hXe
  have HAW := Lib.hid (fun W => awake05 W)
  go_enter Try.func3, Try.ntmps3
  go_upto_region 1 with (fail)
  rw [HXE.out]
  clear hw0
  by_cases hl : x.load.length ≤ 600
  · have hl1 : (x.load.length : Int) ≤ 600 := by omega
    have HOF := Lib.hid (show Calls Try.prog 9 #[.agg #[.int .i64 x.kind, .int .i64 x.place, .int .i64 x.stamp, .string (strB x.load)]] w0 (LeafRet x w0) from of05_any x w0)
    have HBU := Lib.hid (fun (u : Value) W (h : BytesAt W.heap.size W u x.load) => (show Calls Try.prog 8 #[.int .i64 size, .agg (x.cells u)] W (Built (buildB size x.kind x.place x.stamp x.load) (buildErr size x.kind x.place x.stamp x.load.length) W) from build_any size x.kind x.place x.stamp u x.load W h HST.out))
    have HRB := Lib.hid (fun W => (show Calls Try.prog 10 #[.int .i64 size, .agg #[.int .i64 x.kind, .int .i64 x.place, .int .i64 x.stamp, .string (strB x.load)]] W (Built (buildB size x.kind x.place x.stamp x.load) (buildErr size x.kind x.place x.stamp x.load.length) W) from refBuild_any size x W HST.out (by unfold maxLen; omega)))
    obtain ⟨bs, hbs⟩ : ∃ bs, buildB size x.kind x.place x.stamp x.load = bs := ⟨_, rfl⟩
    obtain ⟨er, her⟩ : ∃ er, buildErr size x.kind x.place x.stamp x.load.length = er := ⟨_, rfl⟩
    rw [hbs, her] at HBU HRB
    clear hbs her
    have HRM := Lib.hid (fun W => room_any size W)
    have hq : ((strB bs).toList == (strB bs).toList) = true := by rw [strB_beq]; simp
    go_upto_region 6 with (first
      | (go_at_call 9; (with_reducible refine HOF.out.mono ?_); rintro e w1 ⟨u, rfl, hu, hb⟩; have HB1 := Lib.hid hb; have HBU1 := Lib.hid (HBU.out _ _ hu); clear hu hb)
      | (go_at_call 8; (with_reducible refine HBU1.out.mono ?_); rintro e w2 ⟨b, rfl, hb2, hbel⟩; have HBS := Lib.hid (BytesAt.of_owns hb2); have HB2 := Lib.hid (HB1.out.trans (hbel.mono HB1.out.size)); obtain ⟨d0, d1, d2, d3⟩ := doc_cells HX.out HB2.out; clear hb2 hbel)
      | (go_at_call 10; (with_reducible refine (HRB.out _).mono ?_); rintro e w3 ⟨b3, rfl, hb3, hbel⟩; have hc3 := conv_str (BytesAt.of_owns hb3); have hc2 := conv_str (HBS.out.below hbel); have HB3 := Lib.hid (HB2.out.trans (hbel.mono HB2.out.size)); clear hb3 hbel))
    clear HOF HBU HRB HBU1 HB1 HB2 HBS d0 d1 d2 d3
    by_cases s1 : 96 ≤ size
    · by_cases s2 : size ≤ 512
      · have hr : roomI size = size - 19 := by unfold roomI; rw [if_pos (by unfold sizeB; simp; omega)]
        rw [hr] at HRM
        clear hr
        go_wp2_with (first
          | (go_at_call 11; (with_reducible refine (HRM.out _).mono ?_); rintro e w4 ⟨rfl, rfl⟩)
          | (go_at_call 12; (with_reducible refine (HAW.out _).mono ?_); rintro e w6 ⟨rfl, hb⟩; have HB6 := Lib.hid hb; clear hb))
        go_ret
        exact ⟨rfl, HB0.out.trans ((HB3.out.trans (HB6.out.mono HB3.out.size)).mono HB0.out.size)⟩
      · have hr : roomI size = 0 := by unfold roomI; rw [if_neg (by unfold sizeB; simp; omega)]
        rw [hr] at HRM
        clear hr
        go_wp2_with (first
          | (go_at_call 11; (with_reducible refine (HRM.out _).mono ?_); rintro e w4 ⟨rfl, rfl⟩)
          | (go_at_call 12; (with_reducible refine (HAW.out _).mono ?_); rintro e w6 ⟨rfl, hb⟩; have HB6 := Lib.hid hb; clear hb))
        go_ret
        exact ⟨rfl, HB0.out.trans ((HB3.out.trans (HB6.out.mono HB3.out.size)).mono HB0.out.size)⟩
    · have hr : roomI size = 0 := by unfold roomI; rw [if_neg (by unfold sizeB; simp; omega)]
      rw [hr] at HRM
      clear hr
      go_wp2_with (first
        | (go_at_call 11; (with_reducible refine (HRM.out _).mono ?_); rintro e w4 ⟨rfl, rfl⟩)
        | (go_at_call 12; (with_reducible refine (HAW.out _).mono ?_); rintro e w6 ⟨rfl, hb⟩; have HB6 := Lib.hid hb; clear hb))
      go_ret
      exact ⟨rfl, HB0.out.trans ((HB3.out.trans (HB6.out.mono HB3.out.size)).mono HB0.out.size)⟩
  · have hl1 : 600 < (x.load.length : Int) := by omega
    clear d0 d1 d2
    go_wp2
    go_ret
    exact ⟨rfl, HB0.out⟩
set_option maxRecDepth 100000 in
theorem leafBuilds_lifted (os : Os) (started : os.Started) (H : Type) (enc : TypeId × Value → H) :
    ReturnsInHanded {} Try.checked os 3 .any (Rows.leafBuildsSpec.pre6 enc Try.prog Try.f3 Rows.leafBuildsRow.domain false) (Rows.leafBuildsSpec.post enc Try.prog Try.f3 false true false false) :=
  law_lifted 3 Try.f3 Rows.leafBuildsSpec Try.func3 (by kernel_rfl) rfl rfl
    (fun ds h => by match ds, h with | [_, _], _ => rfl) (by kernel_rfl) os started
    (ChangeSpec.witness6 (enc := enc) (C := Try.checked) false ⟨#[], #[.int .i64 0, .agg #[.int .i64 0, .int .i64 0, .int .i64 0, .string ⟨#[]⟩]], []⟩ 8 (by kernel_rfl) (by kernel_rfl) (by kernel_rfl) (by kernel_rfl))
    fun W args ds ps hval hA => by
      rw [Try.params3] at hA hval
      obtain ⟨v0, vs0, d0, ds0, p0, q0, hargs, rfl, rfl, h0, r0⟩ := trodAll_cons hA
      obtain ⟨v1, vs1, d1, ds1, p1, q1, rfl, rfl, rfl, h1, r1⟩ := trodAll_cons r0
      obtain ⟨rfl, rfl, rfl⟩ := trodAll_nil r1
      obtain rfl : args = #[v0, v1] := by cases args; simp_all
      obtain ⟨b0, o0⟩ := hval 0 _ v0 rfl rfl
      obtain ⟨b1, o1⟩ := hval 1 _ v1 rfl rfl
      obtain ⟨a0, rfl, rfl, rfl, w0⟩ := open_int Try.underlying3 o0 h0
      obtain ⟨q1, rfl, hq1⟩ := open_leaf o1 h1
      exact leafBuilds_walk a0 q1 hq1 W

/-- The statement. -/
theorem leafBuilds_holds : Rows.LeafBuildsSaid :=
  OpenClaim.holds_of_wide 3 Try.f3 rfl rfl rfl rfl rfl rfl rfl ⟨rfl, rfl, rfl, rfl, rfl⟩ rfl rfl rfl rfl rfl (by kernel_rfl) Try.func3 (by kernel_rfl)
    (of_decide_eq_true (by kernel_rfl)) (by unfold Func.isWrapper; first | (rw [if_pos (by decide +kernel)]; kernel_rfl) | (rw [if_neg (by decide +kernel)]; exact ⟨rfl, rfl⟩))
    (fun os started H enc _ => leafBuilds_lifted os started H enc)
#print axioms leafBuilds_holds
end Go.Proofs.Ytopjadmjahpeoaa

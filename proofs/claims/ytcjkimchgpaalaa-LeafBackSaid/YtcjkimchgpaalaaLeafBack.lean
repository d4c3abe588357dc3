/-
  LeafBack: a leaf is read as it was built.
  Conditions: none.
-/
import Derived.Test.YtcjkimchgpaalaaLeafLaw
namespace Go.Proofs.Ytcjkimchgpaalaa
open Go.ChangeShapes Go.WideShapes Go.ChangeAt Go.RowKit

theorem doc_cells {w0 W : World} {X : Nat} {x : LeafP} {t : TypeId} (h : w0.heap[X]? = some (.cells x.doc t (0, 0))) (hb : Below w0.heap.size w0 W) :
    W.cell? ⟨X, 0, none⟩ = some (.int .i64 x.kind) ∧ W.cell? ⟨X, 1, none⟩ = some (.int .i64 x.place) ∧ W.cell? ⟨X, 2, none⟩ = some (.int .i64 x.stamp) ∧ W.cell? ⟨X, 3, none⟩ = some (.string (strB x.load)) := leaf_cells h hb
theorem leafp_cells {w0 W : World} {X : Nat} {x : LeafP} {u : Value} {t : TypeId} (h : w0.heap[X]? = some (.cells (x.cells u) t (0, 0))) (hb : Below w0.heap.size w0 W) :
    W.cell? ⟨X, 0, none⟩ = some (.int .i64 x.kind) ∧ W.cell? ⟨X, 1, none⟩ = some (.int .i64 x.place) ∧ W.cell? ⟨X, 2, none⟩ = some (.int .i64 x.stamp) ∧ W.cell? ⟨X, 3, none⟩ = some u := leaf_cells h hb

set_option maxRecDepth 100000 in
set_option maxHeartbeats 4000000 in
theorem leafBack_walk (size : Int) (x : LeafP) (hx : x.wf) (w : World) : Calls Try.prog 6 #[.int .i64 size, .agg x.doc] w (Good w) := by
  have HD : Hid (x.doc = #[.int .i64 x.kind, .int .i64 x.place, .int .i64 x.stamp, .string (strB x.load)]) := rfl
  have hX : (w.alloc (.cells x.doc 23)).heap[w.heap.size]? = some (.cells x.doc 23 (0, 0)) := heap_alloc_new _ _
  have HB0 : Hid (Below w.heap.size w (w.alloc (.cells x.doc 23))) := (Below.refl _ _).alloc (Nat.le_refl _) _
  have HST := Lib.hid hx.stamp.2
  have hsz := strB_size x.load
  clear hx
  obtain ⟨w0, hw0⟩ : ∃ w0, w.alloc (.cells x.doc 23) = w0 := ⟨_, rfl⟩
  obtain ⟨X, hXe⟩ : ∃ X, w.heap.size = X := ⟨_, rfl⟩
  rw [hw0] at hX HB0
  rw [hXe] at hX
  have HX := Lib.hid hX
  have HXE := Lib.hid hXe
  obtain ⟨d0, d1, d2, d3⟩ := doc_cells hX (Below.refl w0.heap.size w0)
  rw [HD.out] at hw0 ⊢
  clear hX hXe
  have HAW := Lib.hid (fun W => awake05 W)
  go_enter Try.func6, Try.ntmps6
  go_upto_region 1 with (fail)
  rw [HXE.out]
  clear hw0
  by_cases hl : x.load.length ≤ 600
  · have hl1 : (x.load.length : Int) ≤ 600 := by omega
    have HOF := Lib.hid (show Calls Try.prog 11 #[.agg #[.int .i64 x.kind, .int .i64 x.place, .int .i64 x.stamp, .string (strB x.load)]] w0 (LeafRet x w0) from of05_any x w0)
    have HTO := Lib.hid (fun (u : Value) n W (h : BytesAt n W u x.load) => (show Calls Try.prog 17 #[.agg #[.int .i64 x.kind, .int .i64 x.place, .int .i64 x.stamp, u], .agg #[.int .i64 x.kind, .int .i64 x.place, .int .i64 x.stamp, .string (strB x.load)]] W (fun e w' => e = .returned (.bool true) ∧ Below W.heap.size W w') from told05_yes x u n W h))
    have HBU := Lib.hid (fun (u : Value) W (h : BytesAt W.heap.size W u x.load) => (show Calls Try.prog 10 #[.int .i64 size, .agg (x.cells u)] W (Built (buildB size x.kind x.place x.stamp x.load) (buildErr size x.kind x.place x.stamp x.load.length) W) from build_any size x.kind x.place x.stamp u x.load W h HST.out))
    by_cases he : buildErr size x.kind x.place x.stamp x.load.length = 0
    · obtain ⟨r1, r2, r3⟩ := read_built he HST.out
      have hbb : buildB size x.kind x.place x.stamp x.load = leafB size x.kind x.place x.stamp x.load := by unfold buildB; rw [if_pos he]
      have hs : size ≤ 512 := by
        have h1 : sizeB size = true := by
          cases hs : sizeB size with
          | true => rfl
          | false => exact absurd he (by unfold buildErr; rw [hs, if_neg (by decide)]; decide)
        have : 96 ≤ size ∧ size ≤ 512 := by simpa [sizeB] using h1
        omega
      have HRD := Lib.hid (fun v W (h : BytesAt W.heap.size W v (leafB size x.kind x.place x.stamp x.load)) => read_any v _ W h (by omega))
      rw [r1, show readL (leafB size x.kind x.place x.stamp x.load) = x from r2] at HRD
      rw [hbb, he] at HBU
      obtain ⟨bs, hbs⟩ : ∃ bs, leafB size x.kind x.place x.stamp x.load = bs := ⟨_, rfl⟩
      rw [hbs] at HBU HRD r3
      have HR3 := Lib.hid r3
      clear he hbb hs hbs r1 r2 r3
      go_upto_region 7 with (first
        | (go_at_call 11; (with_reducible refine HOF.out.mono ?_); rintro e w1 ⟨u, rfl, hu, hb⟩; have HB1 := Lib.hid hb; have HU1 := Lib.hid hu; have HBU1 := Lib.hid (HBU.out _ _ hu); clear hu hb)
        | (go_at_call 10; (with_reducible refine HBU1.out.mono ?_); rintro e w2 ⟨b, rfl, hb2, hbel⟩; have HB2 := Lib.hid hbel; have HRD2 := Lib.hid (HRD.out _ _ (BytesAt.of_owns hb2)); obtain ⟨ab, cb, rfl⟩ := owns_slice hb2; clear hb2 hbel)
        | (go_at_call 15; (with_reducible refine HRD2.out.mono ?_); rintro e w3 ⟨v, rfl, hv, hbel⟩; obtain ⟨av, cv, rfl, _⟩ := id hv; have HV := Lib.hid hv; have HB3 := Lib.hid hbel; clear hv hbel)
        | (refine wpList_store_row (o := ⟨none, _, _, _, _, _⟩) rfl 29 (.tmp 7) (.tmp 31) rfl w3.heap.size (x.cells (.slice av x.load.length cv)) rfl rfl 29 (LeafP.zero.cells (.slice none 0 0)) (heap_alloc_new _ _) (leaf_sz _ _) rfl ?_ ?_; exact leaf_one _))
      have hbw : Below w3.heap.size w3 ((w3.alloc (.cells (LeafP.zero.cells (.slice none 0 0)) 29)).setRow w3.heap.size (x.cells (.slice av x.load.length cv))) := below_setRow ((Below.refl _ _).alloc (Nat.le_refl _) _) (Nat.le_refl _) _
      have hP2 : ((w3.alloc (.cells (LeafP.zero.cells (.slice none 0 0)) 29)).setRow w3.heap.size (x.cells (.slice av x.load.length cv))).heap[w3.heap.size]? = some (.cells (x.cells (.slice av x.load.length cv)) 29 (0, 0)) := setRow_heap _ _ _ _ _ _ (heap_alloc_new _ _)
      change (Code.region _ _ _).wp _ _ _ ((w3.alloc (.cells (LeafP.zero.cells (.slice none 0 0)) 29)).setRow w3.heap.size (x.cells (.slice av x.load.length cv)))
      generalize (w3.alloc (.cells (LeafP.zero.cells (.slice none 0 0)) 29)).setRow w3.heap.size (x.cells (.slice av x.load.length cv)) = w4 at hbw hP2 ⊢
      obtain ⟨p0, p1, p2, p3⟩ := leafp_cells hP2 (Below.refl w4.heap.size w4)
      have hb34 := HB3.out.trans (hbw.mono HB3.out.size)
      have hb24 := HB2.out.trans (hb34.mono HB2.out.size)
      have hb14 := HB1.out.trans (hb24.mono HB1.out.size)
      obtain ⟨d0, d1, d2, d3⟩ := doc_cells HX.out hb14
      have HT4 := Lib.hid (HTO.out _ _ w4 (HV.out.below hbw))
      have HEND := Lib.hid (HB0.out.trans (hb14.mono HB0.out.size))
      obtain ⟨P, hP⟩ : ∃ P, w3.heap.size = P := ⟨_, rfl⟩
      rw [hP] at p0 p1 p2 p3 ⊢
      have hle : ((bs.length : Int) == size) = true := by simpa using HR3.out
      clear hbw hP2 hb34 hb24 hb14 hP HTO HBU HRD HV HB1 HB2 HB3
      go_wp2_with (first
        | (go_at_call 17; (with_reducible refine HT4.out.mono ?_); rintro e w5 ⟨rfl, hb⟩; have HB5 := Lib.hid hb; clear hb)
        | (go_at_call 14; (with_reducible refine (HAW.out _).mono ?_); rintro e w6 ⟨rfl, hb⟩; have HB6 := Lib.hid hb; clear hb))
      go_ret
      exact ⟨rfl, HEND.out.trans ((HB5.out.trans (HB6.out.mono HB5.out.size)).mono HEND.out.size)⟩
    · have hbb : buildB size x.kind x.place x.stamp x.load = [] := by unfold buildB; rw [if_neg he]
      obtain ⟨er, her⟩ : ∃ er, buildErr size x.kind x.place x.stamp x.load.length = er := ⟨_, rfl⟩
      rw [hbb, her] at HBU
      rw [her] at he
      have hne : (er != 0) = true := by simpa using he
      clear hbb her he HTO
      go_wp2_with (first
        | (go_at_call 11; (with_reducible refine HOF.out.mono ?_); rintro e w1 ⟨u, rfl, hu, hb⟩; have HB1 := Lib.hid hb; have HBU1 := Lib.hid (HBU.out _ _ hu); clear hu hb)
        | (go_at_call 10; (with_reducible refine HBU1.out.mono ?_); rintro e w2 ⟨b, rfl, hb2, hbel⟩; have HB2 := Lib.hid hbel; obtain ⟨ab, cb, rfl⟩ := owns_slice hb2; clear hb2 hbel)
        | (go_at_call 14; (with_reducible refine (HAW.out _).mono ?_); rintro e w6 ⟨rfl, hb⟩; have HB6 := Lib.hid hb; clear hb))
      go_ret
      exact ⟨rfl, HB0.out.trans ((HB1.out.trans ((HB2.out.trans (HB6.out.mono HB2.out.size)).mono HB1.out.size)).mono HB0.out.size)⟩
  · have hl1 : 600 < (x.load.length : Int) := by omega
    clear d0 d1 d2
    go_wp2
    go_ret
    exact ⟨rfl, HB0.out⟩
set_option maxRecDepth 100000 in
theorem leafBack_lifted (os : Os) (started : os.Started) (H : Type) (enc : TypeId × Value → H) :
    ReturnsInHanded {} Try.checked os 6 .any (Rows.leafBackSpec.pre6 enc Try.prog Try.f6 Rows.leafBackRow.domain false) (Rows.leafBackSpec.post enc Try.prog Try.f6 false true false false) :=
  law_lifted 6 Try.f6 Rows.leafBackSpec Try.func6 (by kernel_rfl) rfl rfl
    (fun ds h => by match ds, h with | [_, _], _ => rfl) (by kernel_rfl) os started
    (ChangeSpec.witness6 (enc := enc) (C := Try.checked) false ⟨#[], #[.int .i64 0, .agg #[.int .i64 0, .int .i64 0, .int .i64 0, .string ⟨#[]⟩]], []⟩ 8 (by kernel_rfl) (by kernel_rfl) (by kernel_rfl) (by kernel_rfl))
    fun W args ds ps hval hA => by
      rw [Try.params6] at hA hval
      obtain ⟨v0, vs0, d0, ds0, p0, q0, hargs, rfl, rfl, h0, r0⟩ := trodAll_cons hA
      obtain ⟨v1, vs1, d1, ds1, p1, q1, rfl, rfl, rfl, h1, r1⟩ := trodAll_cons r0
      obtain ⟨rfl, rfl, rfl⟩ := trodAll_nil r1
      obtain rfl : args = #[v0, v1] := by cases args; simp_all
      obtain ⟨b0, o0⟩ := hval 0 _ v0 rfl rfl
      obtain ⟨b1, o1⟩ := hval 1 _ v1 rfl rfl
      obtain ⟨a0, rfl, rfl, rfl, w0⟩ := open_int Try.underlying3 o0 h0
      obtain ⟨q1, rfl, hq1⟩ := open_leaf o1 h1
      exact leafBack_walk a0 q1 hq1 W

/-- The statement. -/
theorem leafBack_holds : Rows.LeafBackSaid :=
  OpenClaim.holds_of_wide 6 Try.f6 rfl rfl rfl rfl rfl rfl rfl ⟨rfl, rfl, rfl, rfl, rfl⟩ rfl rfl rfl rfl rfl (by kernel_rfl) Try.func6 (by kernel_rfl)
    (of_decide_eq_true (by kernel_rfl)) (by unfold Func.isWrapper; first | (rw [if_pos (by decide +kernel)]; kernel_rfl) | (rw [if_neg (by decide +kernel)]; exact ⟨rfl, rfl⟩))
    (fun os started H enc _ => leafBack_lifted os started H enc)
#print axioms leafBack_holds
end Go.Proofs.Ytcjkimchgpaalaa

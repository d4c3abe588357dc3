/-
  RecordShort: cut short, bytes of a record are none.
  Conditions: none.
-/
import Derived.Test.YtmpkalidpaeloaaRecLaw
import Derived.Test.YtmpkalidpaeloaaRecMath
namespace Go.Proofs.Ytmpkalidpaeloaa
open Go.ChangeShapes Go.WideShapes Go.ChangeAt Go.RowKit

theorem rdoc_cells {w0 W : World} {X : Nat} {x : RecP} {t : TypeId} (h : w0.heap[X]? = some (.cells x.doc t (0, 0))) (hb : Below w0.heap.size w0 W) :
    W.cell? ⟨X, 0, none⟩ = some (.string (strB x.key)) ∧ W.cell? ⟨X, 1, none⟩ = some (.string (strB x.val)) ∧ W.cell? ⟨X, 2, none⟩ = some (.int .i64 x.fin) := rec_cells h hb
theorem u16_wrap (c : BitVec 16) : wrap64 (U c) = U c := by
  have h1 := U_nonneg c
  have h2 := U_lt c
  unfold wrap64; omega

set_option maxRecDepth 100000 in
set_option maxHeartbeats 4000000 in
theorem recordShort_walk (x : RecP) (c : BitVec 16) (w : World) : Calls Try.prog 6 #[.agg x.doc, .int .u16 (U c)] w (Good w) := by
  have HD : Hid (x.doc = #[.string (strB x.key), .string (strB x.val), .int .i64 x.fin]) := rfl
  have hX : (w.alloc (.cells x.doc 23)).heap[w.heap.size]? = some (.cells x.doc 23 (0, 0)) := heap_alloc_new _ _
  have HB0 : Hid (Below w.heap.size w (w.alloc (.cells x.doc 23))) := (Below.refl _ _).alloc (Nat.le_refl _) _
  have hsz1 := strB_size x.key
  have hsz2 := strB_size x.val
  obtain ⟨w0, hw0⟩ : ∃ w0, w.alloc (.cells x.doc 23) = w0 := ⟨_, rfl⟩
  obtain ⟨X, hXe⟩ : ∃ X, w.heap.size = X := ⟨_, rfl⟩
  rw [hw0] at hX HB0
  rw [hXe] at hX
  have HX := Lib.hid hX
  have HXE := Lib.hid hXe
  obtain ⟨d0, d1, d2⟩ := rdoc_cells hX (Below.refl w0.heap.size w0)
  rw [HD.out] at hw0 ⊢
  clear hX hXe
  have HAW := Lib.hid (fun W => awake09 W)
  go_enter Try.func6, Try.ntmps6
  go_upto_region 1 with (fail)
  rw [HXE.out]
  clear hw0
  by_cases hk : x.key.length ≤ 200
  · have hk1 : (x.key.length : Int) ≤ 200 := by omega
    by_cases hv : x.val.length ≤ 200
    · have hv1 : (x.val.length : Int) ≤ 200 := by omega
      have HOF := Lib.hid (show Calls Try.prog 9 #[.agg #[.string (strB x.key), .string (strB x.val), .int .i64 x.fin]] w0 (RecRet x w0) from of09_any x w0)
      have HPK := Lib.hid (fun (u v : Value) W (h1 : BytesAt W.heap.size W u x.key) (h2 : BytesAt W.heap.size W v x.val) => (show Calls Try.prog 8 #[.agg (x.cells u v)] W (Packed (packB x.key x.val x.fin) (packErr x.key.length x.val.length x.fin) W) from pack_any u v x.key x.val x.fin W h1 h2 (by omega) (by omega)))
      by_cases he : packErr x.key.length x.val.length x.fin = 0
      · have hpb : packB x.key x.val x.fin = recB x.key x.val x.fin := by unfold packB; rw [if_pos he]
        have hlen := recB_len x.key x.val x.fin
        have hcut := rec_cut he
        rw [hpb, he] at HPK
        obtain ⟨bs, hbs⟩ : ∃ bs, recB x.key x.val x.fin = bs := ⟨_, rfl⟩
        rw [hbs] at HPK hlen hcut
        obtain ⟨m, hm⟩ : ∃ m : Nat, c.toNat % bs.length = m := ⟨_, rfl⟩
        have hml : m < bs.length := by rw [← hm]; exact Nat.mod_lt _ (by omega)
        have HCUT := Lib.hid (hcut m hml)
        have HQ1 : Hid (unpRec (bs.take m) = RecP.zero) := by unfold Hid unpRec; rw [if_neg HCUT.out]
        have HQ2 : Hid (unpN (bs.take m) = 0) := by unfold Hid unpN; rw [if_neg HCUT.out]
        have HQ3 : Hid (unpErr (bs.take m) = 5) := by unfold Hid unpErr; rw [if_neg HCUT.out]
        have hm1 : (U c).tmod (bs.length : Int) = m := by
          rw [Int.tmod_eq_emod_of_nonneg (U_nonneg c)]
          unfold U
          rw [← hm]
          rfl
        have hm2 : U c % (bs.length : Int) = m := by
          rw [← Int.tmod_eq_emod_of_nonneg (U_nonneg c)]; exact hm1
        have hn0 : ((bs.length : Int) == 0) = false := beq_eq_false_iff_ne.2 (by omega)
        have HL := Lib.hid (show bs.length ≤ 413 ∧ m < bs.length from ⟨by omega, hml⟩)
        have hml' : (m : Int) < bs.length := by omega
        have hn1 : ¬ ((bs.length : Int) = 0) := by omega
        have hcw := u16_wrap c
        have hmw : IntKind.i64.wrap (m : Int) = m := IntWalk.i64_in _ (by omega)
        clear he hpb hlen hcut hbs hm hml hk hv
        go_upto_region 9 with (first
          | (go_at_call 9; (with_reducible refine HOF.out.mono ?_); rintro e w1 ⟨u, v, rfl, hu, hv, hb⟩; have HB1 := Lib.hid hb; have HPK1 := Lib.hid (HPK.out _ _ _ hu hv); clear hu hv hb)
          | (go_at_call 8; (with_reducible refine HPK1.out.mono ?_); rintro e w2 ⟨b, rfl, hb2, hbel⟩; obtain ⟨ab, cb, rfl, hcb, _⟩ := id (BytesAt.of_owns hb2); have HBS := Lib.hid (BytesAt.of_owns hb2); have HB2 := Lib.hid hbel; have hun := unpackR_any _ _ w2 (HBS.out.pre m (by have := HL.out.2; omega)) (by have := HL.out.1; simp; omega); rw [HQ1.out, HQ2.out, HQ3.out] at hun; have HUN := Lib.hid hun; clear hb2 hbel hun)
          | (go_at_call 14; (with_reducible refine HUN.out.mono ?_); rintro e w3 ⟨u3, v3, rfl, hu3, hv3, hb3⟩; obtain ⟨au3, cu3, rfl, _⟩ := id hu3; obtain ⟨av3, cv3, rfl, _⟩ := id hv3; have HB3 := Lib.hid hb3; clear hu3 hv3 hb3)
          | (refine wpList_store_row (o := ⟨none, _, _, _, _, _⟩) rfl 29 (.tmp 7) (.tmp 46) rfl w3.heap.size (RecP.zero.cells (.slice au3 RecP.zero.key.length cu3) (.slice av3 RecP.zero.val.length cv3)) rfl rfl 29 (RecP.zero.cells (.slice none 0 0) (.slice none 0 0)) (heap_alloc_new _ _) (rec_sz _ _ _) rfl ?_ ?_; exact rec_one _))
        have hbw : Below w3.heap.size w3 ((w3.alloc (.cells (RecP.zero.cells (.slice none 0 0) (.slice none 0 0)) 29)).setRow w3.heap.size (RecP.zero.cells (.slice au3 RecP.zero.key.length cu3) (.slice av3 RecP.zero.val.length cv3))) := below_setRow ((Below.refl _ _).alloc (Nat.le_refl _) _) (Nat.le_refl _) _
        change (Code.region _ _ _).wp _ _ _ ((w3.alloc (.cells (RecP.zero.cells (.slice none 0 0) (.slice none 0 0)) 29)).setRow w3.heap.size (RecP.zero.cells (.slice au3 RecP.zero.key.length cu3) (.slice av3 RecP.zero.val.length cv3)))
        generalize (w3.alloc (.cells (RecP.zero.cells (.slice none 0 0) (.slice none 0 0)) 29)).setRow w3.heap.size (RecP.zero.cells (.slice au3 RecP.zero.key.length cu3) (.slice av3 RecP.zero.val.length cv3)) = w4 at hbw ⊢
        have HEND := Lib.hid (HB0.out.trans ((HB1.out.trans ((HB2.out.trans ((HB3.out.trans (hbw.mono HB3.out.size)).mono HB2.out.size)).mono HB1.out.size)).mono HB0.out.size))
        clear hbw
        go_wp2_with (go_at_call 13; (with_reducible refine (HAW.out _).mono ?_); rintro e w6 ⟨rfl, hb⟩; have HB6 := Lib.hid hb; clear hb)
        go_ret
        exact ⟨rfl, HEND.out.trans (HB6.out.mono HEND.out.size)⟩
      · have hpb : packB x.key x.val x.fin = [] := by unfold packB; rw [if_neg he]
        obtain ⟨er, her⟩ : ∃ er, packErr x.key.length x.val.length x.fin = er := ⟨_, rfl⟩
        rw [hpb, her] at HPK
        rw [her] at he
        have hne : (er != 0) = true := by simpa using he
        clear hpb her he
        go_wp2_with (first
          | (go_at_call 9; (with_reducible refine HOF.out.mono ?_); rintro e w1 ⟨u, v, rfl, hu, hv, hb⟩; have HB1 := Lib.hid hb; have HPK1 := Lib.hid (HPK.out _ _ _ hu hv); clear hu hv hb)
          | (go_at_call 8; (with_reducible refine HPK1.out.mono ?_); rintro e w2 ⟨b, rfl, hb2, hbel⟩; have HB2 := Lib.hid hbel; obtain ⟨ab, cb, rfl⟩ := owns_slice hb2; clear hb2 hbel)
          | (go_at_call 13; (with_reducible refine (HAW.out _).mono ?_); rintro e w6 ⟨rfl, hb⟩; have HB6 := Lib.hid hb; clear hb))
        go_ret
        exact ⟨rfl, HB0.out.trans ((HB1.out.trans ((HB2.out.trans (HB6.out.mono HB2.out.size)).mono HB1.out.size)).mono HB0.out.size)⟩
    · have hv1 : 200 < (x.val.length : Int) := by omega
      go_wp2
      go_ret
      exact ⟨rfl, HB0.out⟩
  · have hk1 : 200 < (x.key.length : Int) := by omega
    go_wp2
    go_ret
    exact ⟨rfl, HB0.out⟩
set_option maxRecDepth 100000 in
theorem recordShort_lifted (os : Os) (started : os.Started) (H : Type) (enc : TypeId × Value → H) :
    ReturnsInHanded {} Try.checked os 6 .any (Rows.recordShortSpec.pre6 enc Try.prog Try.f6 Rows.recordShortRow.domain false) (Rows.recordShortSpec.post enc Try.prog Try.f6 false true false false) :=
  law_lifted 6 Try.f6 Rows.recordShortSpec Try.func6 (by kernel_rfl) rfl rfl
    (fun ds h => by match ds, h with | [_, _], _ => rfl) (by kernel_rfl) os started
    (ChangeSpec.witness6 (enc := enc) (C := Try.checked) false ⟨#[], #[.agg #[.string ⟨#[]⟩, .string ⟨#[]⟩, .int .i64 0], .int .u16 0], []⟩ 8 (by kernel_rfl) (by kernel_rfl) (by kernel_rfl) (by kernel_rfl))
    fun W args ds ps hval hA => by
      rw [Try.params6] at hA hval
      obtain ⟨v0, vs0, d0, ds0, p0, q0, hargs, rfl, rfl, h0, r0⟩ := trodAll_cons hA
      obtain ⟨v1, vs1, d1, ds1, p1, q1, rfl, rfl, rfl, h1, r1⟩ := trodAll_cons r0
      obtain ⟨rfl, rfl, rfl⟩ := trodAll_nil r1
      obtain rfl : args = #[v0, v1] := by cases args; simp_all
      obtain ⟨b0, o0⟩ := hval 0 _ v0 rfl rfl
      obtain ⟨b1, o1⟩ := hval 1 _ v1 rfl rfl
      obtain ⟨q0, rfl, hq0⟩ := open_rec o0 h0
      obtain ⟨a1, rfl, rfl, rfl, w1⟩ := open_int Try.underlying48 o1 h1
      obtain ⟨x1, rfl⟩ := wf_u16 w1
      exact recordShort_walk q0 x1 W

/-- The statement. -/
theorem recordShort_holds : Rows.RecordShortSaid :=
  OpenClaim.holds_of_wide 6 Try.f6 rfl rfl rfl rfl rfl rfl rfl ⟨rfl, rfl, rfl, rfl, rfl⟩ rfl rfl rfl rfl rfl (by kernel_rfl) Try.func6 (by kernel_rfl)
    (of_decide_eq_true (by kernel_rfl)) (by unfold Func.isWrapper; first | (rw [if_pos (by decide +kernel)]; kernel_rfl) | (rw [if_neg (by decide +kernel)]; exact ⟨rfl, rfl⟩))
    (fun os started H enc _ => recordShort_lifted os started H enc)
#print axioms recordShort_holds
end Go.Proofs.Ytmpkalidpaeloaa

/-
  RecordPacks: the bytes of any record, or why it may not be.
  Conditions: none.
-/
import Derived.Test.YtmpkalidpaeloaaRec5
import Derived.Deep.RegionHeld3
import Derived.Deep.RegionWith
import Derived.StillTailTactics
namespace Go.Proofs.Ytmpkalidpaeloaa
open Go.ChangeShapes Go.WideShapes Go.ChangeAt Go.RowKit

theorem rdoc_cells {w0 W : World} {X : Nat} {x : RecP} {t : TypeId} (h : w0.heap[X]? = some (.cells x.doc t (0, 0))) (hb : Below w0.heap.size w0 W) :
    W.cell? ⟨X, 0, none⟩ = some (.string (strB x.key)) ∧ W.cell? ⟨X, 1, none⟩ = some (.string (strB x.val)) ∧ W.cell? ⟨X, 2, none⟩ = some (.int .i64 x.fin) := rec_cells h hb

set_option maxRecDepth 100000 in
set_option maxHeartbeats 8000000 in
theorem recordPacks_walk (x : RecP) (at_ : Int) (w : World) : Calls Try.prog 3 #[.agg x.doc, .int .i64 at_] w (Good w) := by
  have HD : Hid (x.doc = #[.string (strB x.key), .string (strB x.val), .int .i64 x.fin]) := rfl
  have hX : (w.alloc (.cells x.doc 23)).heap[w.heap.size]? = some (.cells x.doc 23 (0, 0)) := heap_alloc_new _ _
  have HB0 : Hid (Below w.heap.size w (w.alloc (.cells x.doc 23))) := (Below.refl _ _).alloc (Nat.le_refl _) _
  have hsz1 := strB_size x.key
  have hsz2 := strB_size x.val
  obtain ⟨w0, hw0⟩ : ∃ w0, w.alloc (.cells x.doc 23) = w0 := ⟨_, rfl⟩
  obtain ⟨X, hXe⟩ : ∃ X, w.heap.size = X := ⟨_, rfl⟩
  rw [hw0] at hX HB0
  rw [hXe] at hX
  have HX := Lib.hid hX
  have HXE := Lib.hid hXe
  obtain ⟨d0, d1, d2⟩ := rdoc_cells hX (Below.refl w0.heap.size w0)
  rw [HD.out] at hw0 ⊢
  clear hX hXe
  have HAW := Lib.hid (fun W => awake09 W)
  go_enter Try.func3, Try.ntmps3
  go_upto_region 1 with (fail)
  rw [HXE.out]
  clear hw0
  by_cases hk : x.key.length ≤ 100
  · have hk1 : (x.key.length : Int) ≤ 100 := by omega
    by_cases hv : x.val.length ≤ 5000
    · have hv1 : (x.val.length : Int) ≤ 5000 := by omega
      have HOF := Lib.hid (show Calls Try.prog 9 #[.agg #[.string (strB x.key), .string (strB x.val), .int .i64 x.fin]] w0 (RecRet x w0) from of09_any x w0)
      have HPK := Lib.hid (fun (u v : Value) W (h1 : BytesAt W.heap.size W u x.key) (h2 : BytesAt W.heap.size W v x.val) => (show Calls Try.prog 8 #[.agg (x.cells u v)] W (Packed (packB x.key x.val x.fin) (packErr x.key.length x.val.length x.fin) W) from pack_any u v x.key x.val x.fin W h1 h2 (by omega) (by omega)))
      have HRP := Lib.hid (fun W => (show Calls Try.prog 10 #[.agg #[.string (strB x.key), .string (strB x.val), .int .i64 x.fin]] W (Packed (packB x.key x.val x.fin) (packErr x.key.length x.val.length x.fin) W) from ref09Pack_any x W (by omega) (by omega)))
      obtain ⟨bs, hbs⟩ : ∃ bs, packB x.key x.val x.fin = bs := ⟨_, rfl⟩
      obtain ⟨er, her⟩ : ∃ er, packErr x.key.length x.val.length x.fin = er := ⟨_, rfl⟩
      rw [hbs, her] at HPK HRP
      clear hbs her
      have HK := Lib.hid (show isKeyB x.key.length = decide (1 ≤ (x.key.length : Int) ∧ (x.key.length : Int) ≤ 64) from rfl)
      have HV := Lib.hid (show isValB x.val.length = decide (0 ≤ (x.val.length : Int) ∧ (x.val.length : Int) ≤ 4096) from rfl)
      have HSZ := Lib.hid (show recSize x.key.length x.val.length = if isKeyB x.key.length && isValB x.val.length then 13 + (x.key.length : Int) + x.val.length else 0 from rfl)
      go_upto_region 6 with (first
        | (go_at_call 9; (with_reducible refine HOF.out.mono ?_); rintro e w1 ⟨u, v, rfl, hu, hv, hb⟩; have HB1 := Lib.hid hb; have HPK1 := Lib.hid (HPK.out _ _ _ hu hv); clear hu hv hb)
        | (go_at_call 8; (with_reducible refine HPK1.out.mono ?_); rintro e w2 ⟨b, rfl, hb2, hbel⟩; have HBS := Lib.hid (BytesAt.of_owns hb2); have HB2 := Lib.hid (HB1.out.trans (hbel.mono HB1.out.size)); obtain ⟨d0, d1, d2⟩ := rdoc_cells HX.out HB2.out; clear hb2 hbel)
        | (go_at_call 10; (with_reducible refine (HRP.out _).mono ?_); rintro e w3 ⟨b3, rfl, hb3, hbel⟩; have HBS3 := Lib.hid (BytesAt.of_owns hb3); have HBS2 := Lib.hid ((HBS.out.below hbel).mono hbel.size); have HB3 := Lib.hid (HB2.out.trans (hbel.mono HB2.out.size)); obtain ⟨d0, d1, d2⟩ := rdoc_cells HX.out HB3.out; clear hb3 hbel))
      clear HOF HPK HRP HPK1 HB1 HB2 HBS
      go_cut [46] (fun s46 wx => s46 = .bool (isKeyB x.key.length && isValB x.val.length) ∧ w3 = wx)
      case first =>
        by_cases k1 : 1 ≤ (x.key.length : Int)
        · by_cases k2 : (x.key.length : Int) ≤ 64
          · by_cases v2 : (x.val.length : Int) ≤ 4096
            · have HG : Hid ((isKeyB x.key.length && isValB x.val.length) = true) := by unfold Hid; rw [HK.out, HV.out]; simp; omega
              go_wp2
              go_meet
              exact ⟨by rw [HG.out], rfl⟩
            · have HG : Hid ((isKeyB x.key.length && isValB x.val.length) = false) := by unfold Hid; rw [HK.out, HV.out]; simp; omega
              go_wp2
              go_meet
              exact ⟨by rw [HG.out], rfl⟩
          · have HG : Hid ((isKeyB x.key.length && isValB x.val.length) = false) := by unfold Hid; rw [HK.out, HV.out]; simp; omega
            go_wp2
            go_meet
            exact ⟨by rw [HG.out], rfl⟩
        · have HG : Hid ((isKeyB x.key.length && isValB x.val.length) = false) := by unfold Hid; rw [HK.out, HV.out]; simp; omega
          go_wp2
          go_meet
          exact ⟨by rw [HG.out], rfl⟩
      case rest =>
        obtain ⟨rfl, rfl⟩ := hcut
        have HSC := Lib.hid (fun W => size_any x.key.length x.val.length W)
        obtain ⟨G, hG⟩ : ∃ G, (isKeyB x.key.length && isValB x.val.length) = G := ⟨_, rfl⟩
        obtain ⟨S, hS⟩ : ∃ S, recSize x.key.length x.val.length = S := ⟨_, rfl⟩
        rw [hG, hS] at HSZ
        rw [hG]
        rw [hS] at HSC
        clear hG hS HK HV
        go_upto_if 46 with (fail)
        go_cut [9] (fun s9 wx => s9 = .int .i64 S ∧ w3 = wx)
        case first =>
          cases G with
          | true =>
            have HG : Hid (S = 13 + (x.key.length : Int) + x.val.length) := HSZ.out
            go_wp2
            go_meet
            exact ⟨by rw [HG.out], rfl⟩
          | false =>
            have HG : Hid (S = 0) := HSZ.out
            go_wp2
            go_meet
            exact ⟨by rw [HG.out], rfl⟩
        case rest =>
          obtain ⟨rfl, rfl⟩ := hcut
          clear d0 d1 d2
          go_upto_region 8 with (fail)
          have HS : Hid (∀ W, Below w3.heap.size w3 W → (convert 24 9 b).run Try.prog W = .ok (.string (strB bs)) W ∧ (convert 24 9 b3).run Try.prog W = .ok (.string (strB bs)) W ∧ W.cell? ⟨X, 0, none⟩ = some (.string (strB x.key)) ∧ W.cell? ⟨X, 1, none⟩ = some (.string (strB x.val)) ∧ W.cell? ⟨X, 2, none⟩ = some (.int .i64 x.fin)) := fun W hW => by
            obtain ⟨q0, q1, q2⟩ := rdoc_cells HX.out (HB3.out.trans (hW.mono HB3.out.size))
            exact ⟨conv_str (HBS2.out.below hW), conv_str (HBS3.out.below hW), q0, q1, q2⟩
          have hBc := Lib.hid ((Below.refl w3.heap.size w3).drew)
          have HEN := Lib.hid (fun W => ended_any x.fin at_ W)
          have hq : ((strB bs).toList == (strB bs).toList) = true := by rw [strB_beq]; simp
          clear HSZ HBS2 HBS3
          by_cases f0 : x.fin = 0
          · have b1 : endedB 0 at_ = false := by simp [endedB]
            rw [f0, b1] at HEN
            rw [f0] at HS
            clear f0 b1
            obtain ⟨q1, q2, q3, q4, q5⟩ := HS.out _ hBc.out
            refine wp_region_still_tail 38 (by kernel_rfl) (by kernel_rfl) ?_
            simp only [List.take_succ_cons, List.take_zero, List.drop_succ_cons, List.drop_zero]
            repeat still_step
            still_call ((HSC.out _).mono fun _ _ h => ⟨h.1, h.2.symm⟩)
            repeat still_step
            still_call ((HEN.out _).mono fun _ _ h => ⟨h.1, h.2.symm⟩)
            repeat still_step
            refine wpStill_nil ?_
            change wpList _ _ _ _ _ w3.drew
            go_wp2_with (go_at_call 13; (with_reducible refine (HAW.out _).mono ?_); rintro e w8 ⟨rfl, hb8⟩; have hBn := hBc.out.trans (hb8.mono hBc.out.size); clear hBc hb8; have hBc := Lib.hid hBn; clear hBn)
            go_ret
            exact ⟨rfl, HB0.out.trans ((HB3.out.trans (hBc.out.mono HB3.out.size)).mono HB0.out.size)⟩
          · have g1 : (x.fin == 0) = false := beq_eq_false_iff_ne.2 f0
            have g2 : (x.fin != 0) = true := by simpa using f0
            have g3 : decide (x.fin = 0) = false := by simpa using f0
            by_cases f1 : x.fin ≤ at_
            · have b1 : endedB x.fin at_ = true := by simp [endedB, f0, f1]
              have b2 : decide (x.fin ≤ at_) = true := by simpa using f1
              rw [b1] at HEN
              clear b1
              go_region_held3 (fun W => (convert 24 9 b).run Try.prog W = .ok (.string (strB bs)) W ∧ (convert 24 9 b3).run Try.prog W = .ok (.string (strB bs)) W ∧ W.cell? ⟨X, 0, none⟩ = some (.string (strB x.key)) ∧ W.cell? ⟨X, 1, none⟩ = some (.string (strB x.val)) ∧ W.cell? ⟨X, 2, none⟩ = some (.int .i64 x.fin))
                (exact HS.out _ hBc.out)
                (first
                  | (go_at_call 11; (with_reducible refine (HSC.out _).mono ?_); rintro e w7 ⟨rfl, rfl⟩)
                  | (go_at_call 12; (with_reducible refine (HEN.out _).mono ?_); rintro e w7 ⟨rfl, rfl⟩)
                  | (go_at_call 13; (with_reducible refine (HAW.out _).mono ?_); rintro e w8 ⟨rfl, hb8⟩; have hBn := hBc.out.trans (hb8.mono hBc.out.size); clear hBc hb8; have hBc := Lib.hid hBn; clear hBn))
              all_goals go_wp2
              all_goals go_ret
              all_goals exact ⟨rfl, HB0.out.trans ((HB3.out.trans (hBc.out.mono HB3.out.size)).mono HB0.out.size)⟩
            · have b1 : endedB x.fin at_ = false := by simp [endedB]; omega
              have b2 : decide (x.fin ≤ at_) = false := by simpa using f1
              rw [b1] at HEN
              clear b1
              go_region_held3 (fun W => (convert 24 9 b).run Try.prog W = .ok (.string (strB bs)) W ∧ (convert 24 9 b3).run Try.prog W = .ok (.string (strB bs)) W ∧ W.cell? ⟨X, 0, none⟩ = some (.string (strB x.key)) ∧ W.cell? ⟨X, 1, none⟩ = some (.string (strB x.val)) ∧ W.cell? ⟨X, 2, none⟩ = some (.int .i64 x.fin))
                (exact HS.out _ hBc.out)
                (first
                  | (go_at_call 11; (with_reducible refine (HSC.out _).mono ?_); rintro e w7 ⟨rfl, rfl⟩)
                  | (go_at_call 12; (with_reducible refine (HEN.out _).mono ?_); rintro e w7 ⟨rfl, rfl⟩)
                  | (go_at_call 13; (with_reducible refine (HAW.out _).mono ?_); rintro e w8 ⟨rfl, hb8⟩; have hBn := hBc.out.trans (hb8.mono hBc.out.size); clear hBc hb8; have hBc := Lib.hid hBn; clear hBn))
              all_goals go_wp2
              all_goals go_ret
              all_goals exact ⟨rfl, HB0.out.trans ((HB3.out.trans (hBc.out.mono HB3.out.size)).mono HB0.out.size)⟩
    · have hv2 : 5000 < (x.val.length : Int) := by omega
      go_wp2
      go_ret
      exact ⟨rfl, HB0.out⟩
  · have hk1 : 100 < (x.key.length : Int) := by omega
    go_wp2
    go_ret
    exact ⟨rfl, HB0.out⟩
set_option maxRecDepth 100000 in
theorem recordPacks_lifted (os : Os) (started : os.Started) (H : Type) (enc : TypeId × Value → H) :
    ReturnsInHanded {} Try.checked os 3 .any (Rows.recordPacksSpec.pre6 enc Try.prog Try.f3 Rows.recordPacksRow.domain false) (Rows.recordPacksSpec.post enc Try.prog Try.f3 false true false false) :=
  law_lifted 3 Try.f3 Rows.recordPacksSpec Try.func3 (by kernel_rfl) rfl rfl
    (fun ds h => by match ds, h with | [_, _], _ => rfl) (by kernel_rfl) os started
    (ChangeSpec.witness6 (enc := enc) (C := Try.checked) false ⟨#[], #[.agg #[.string ⟨#[]⟩, .string ⟨#[]⟩, .int .i64 0], .int .i64 0], []⟩ 8 (by kernel_rfl) (by kernel_rfl) (by kernel_rfl) (by kernel_rfl))
    fun W args ds ps hval hA => by
      rw [Try.params3] at hA hval
      obtain ⟨v0, vs0, d0, ds0, p0, q0, hargs, rfl, rfl, h0, r0⟩ := trodAll_cons hA
      obtain ⟨v1, vs1, d1, ds1, p1, q1, rfl, rfl, rfl, h1, r1⟩ := trodAll_cons r0
      obtain ⟨rfl, rfl, rfl⟩ := trodAll_nil r1
      obtain rfl : args = #[v0, v1] := by cases args; simp_all
      obtain ⟨b0, o0⟩ := hval 0 _ v0 rfl rfl
      obtain ⟨b1, o1⟩ := hval 1 _ v1 rfl rfl
      obtain ⟨q0, rfl, hq0⟩ := open_rec o0 h0
      obtain ⟨a1, rfl, rfl, rfl, w1⟩ := open_int Try.underlying3 o1 h1
      exact recordPacks_walk q0 a1 W

/-- The statement. -/
theorem recordPacks_holds : Rows.RecordPacksSaid :=
  OpenClaim.holds_of_wide 3 Try.f3 rfl rfl rfl rfl rfl rfl rfl ⟨rfl, rfl, rfl, rfl, rfl⟩ rfl rfl rfl rfl rfl (by kernel_rfl) Try.func3 (by kernel_rfl)
    (of_decide_eq_true (by kernel_rfl)) (by unfold Func.isWrapper; first | (rw [if_pos (by decide +kernel)]; kernel_rfl) | (rw [if_neg (by decide +kernel)]; exact ⟨rfl, rfl⟩))
    (fun os started H enc _ => recordPacks_lifted os started H enc)
#print axioms recordPacks_holds
end Go.Proofs.Ytmpkalidpaeloaa

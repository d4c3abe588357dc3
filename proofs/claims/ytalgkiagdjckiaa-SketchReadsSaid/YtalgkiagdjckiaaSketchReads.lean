/-
  Proved: which sketch any bytes are. Whatever bytes come in (1000 of them), the law SketchReads answers true and the argument reads as it did.
  Conditions: none.
-/
import Derived.Test.YtalgkiagdjckiaaUnMath
import Derived.Test.YtalgkiagdjckiaaRk2
import Derived.Test.YtalgkiagdjckiaaSk8
import Derived.Deep.RegionHeldLaw
import Derived.Deep.DeepCutAuto
namespace Go.Proofs.Ytalgkiagdjckiaa
open Go.ChangeShapes Go.WideShapes Go.ChangeAt Go.RowKit

theorem strB_self (xs : List (BitVec 8)) : ((strB xs).toList == (strB xs).toList) = true := by simp
set_option maxRecDepth 100000 in
set_option maxHeartbeats 4000000 in
theorem sketchReads_walk (v : Value) (bs : List (BitVec 8)) (w : World) (hv : BytesAt w.heap.size w v bs) (_hm : bs.length ≤ maxLen) : Calls Try.prog 4 #[v] w (Good w) := by
  obtain ⟨i0, hi, hz0, hz1, hz2⟩ := info_parts Try.infoU8
  obtain ⟨a, c, rfl, hlc, _⟩ := id hv
  by_cases hbig : 1000 < bs.length
  · obtain ⟨n, hn⟩ : ∃ n, bs.length = n := ⟨_, rfl⟩
    rw [hn] at hbig ⊢
    have l1 : (1000 : Int) < n := by omega
    clear hv hlc hn
    go_enter Try.func4, Try.ntmps4
    go_wp2
    go_ret
    exact ⟨rfl, Below.refl _ _⟩
  · have HV := Lib.hid hv
    have HLN := Lib.hid (show bs.length ≤ 1000 by omega)
    have HUN := Lib.hid (fun (V : World) (u : Value) (h : BytesAt V.heap.size V u bs) => unpack_any h (Nat.le_refl _) (by have := HLN.out; omega))
    have HRU := Lib.hid (fun (V : World) (hb : Below w.heap.size w V) => refUn_any (HV.out.below hb) hb.size (by have := HLN.out; omega))
    obtain ⟨n, hn⟩ : ∃ n, bs.length = n := ⟨_, rfl⟩
    rw [hn] at HV HRU ⊢
    have HN := Lib.hid hn
    have l1 : (n : Int) ≤ 1000 := by omega
    clear hv hlc hbig hn
    by_cases hU : UnOk bs
    · replace HUN : Hid (∀ (V : World) (u : Value), BytesAt V.heap.size V u bs → Calls Try.prog 16 #[u] V fun e w' => e = .returned (.tuple #[.pointer (some ⟨V.heap.size, 0, none⟩), .int .i64 0]) ∧ SkAt w' V.heap.size (fun r => V.heap.size + 1 + r) (unW bs) (unA bs) (cnTo (bs.drop 6) (unW bs / 2) 4 0) ∧ Below V.heap.size V w') := fun V u h => (HUN.out V u h).mono fun e w' h => by
        rcases h with h | h
        · exact h.2
        · exact absurd hU h.1
      replace HRU : Hid (∀ V, Below w.heap.size w V → Calls Try.prog 24 #[.slice a n c] V fun e w' => (∃ a n c, e = .returned (.tuple #[.agg (rkC (unW bs) (unA bs) (.slice a n c)), .int .i64 0])) ∧ Below V.heap.size V w') := fun V hb => (HRU.out V hb).mono fun e w' h => by
        rcases h with h | h
        · exact h.2
        · exact absurd hU h.1
      have HPM := Lib.hid (packS_un hU)
      obtain ⟨C, hC⟩ : ∃ C, cnTo (bs.drop 6) (unW bs / 2) 4 0 = C := ⟨_, rfl⟩
      obtain ⟨N, hN⟩ : ∃ N, unW bs = N := ⟨_, rfl⟩
      obtain ⟨A, hA⟩ : ∃ A, unA bs = A := ⟨_, rfl⟩
      rw [hC, hN, hA] at HUN
      rw [hC, hN, hA] at HPM
      rw [hN, hA] at HRU
      clear hC hN hA hU
      go_enter Try.func4, Try.ntmps4
      go_wp2_with (first
        | (at_builtin; go_must (refine wpList_append_bytes rfl (.tmp 11) (.tmp 12) rfl rfl w.heap.size i0 hi hz0 hz1 hz2 _ rfl [] (own_empty w w.heap.size (Nat.le_refl _)) _ rfl w.heap.size bs (HV.out.below ((Below.refl _ w).alloc (Nat.le_refl _) _)) (by have := HLN.out; simp; omega) (by simp) ?_); intro v1 w1 n1 HN1 hown1 hgrow1 hat1; have HB1 := Lib.hid (((Below.refl w.heap.size w).alloc (Nat.le_refl _) (.cells #[] 5)).grown hgrow1 (by simp) (fun k e => ((own_empty w w.heap.size (Nat.le_refl _)).lt k e).1)); have HU1 := Lib.hid (HUN.out w1 v1 (BytesAt.of_owns (by have e := HN1.out; subst e; simpa using hown1))); obtain ⟨a1, c1, rfl⟩ := owns_slice hown1; clear hown1 hgrow1 hat1)
        | (go_at_call 16; (with_reducible refine HU1.out.mono ?_); rintro e w2 ⟨rfl, hs2, hb2⟩; have HS2 := Lib.hid hs2; have HB2 := Lib.hid (HB1.out.trans (hb2.mono HB1.out.size)); have HR2 := Lib.hid (HRU.out _ HB2.out); clear hs2 hb2)
        | (go_at_call 24; (with_reducible refine HR2.out.mono ?_); rintro e w3 ⟨⟨a3, n3, c3, rfl⟩, hb3⟩; have HB3 := Lib.hid (HB2.out.trans (hb3.mono HB2.out.size)); have HS3 := Lib.hid (HS2.out.same hb3); clear hb3)
        | (refine wpList_store_row (o := ⟨none, _, _, _, _, _⟩) rfl 30 (.tmp 5) (.tmp 20) rfl w3.heap.size (rkC N A (.slice a3 n3 c3)) rfl rfl 30 (rkC 0 0 (.slice none 0 0)) (heap_alloc_new w3 _) (rkC_sz _ _ _) rfl ?_ ?_; exact rkC_one _ _ _ _ _))
      have hbs : Below w3.heap.size w3 ((w3.alloc (.cells (rkC 0 0 (.slice none 0 0)) 30)).setRow w3.heap.size (rkC N A (.slice a3 n3 c3))) := below_setRow1 ((Below.refl _ w3).alloc (Nat.le_refl _) _) (Nat.le_refl _) _
      have hk4 : ((w3.alloc (.cells (rkC 0 0 (.slice none 0 0)) 30)).setRow w3.heap.size (rkC N A (.slice a3 n3 c3))).heap[w3.heap.size]? = some (.cells (rkC N A (.slice a3 n3 c3)) 30 (0, 0)) := setRow_heap1 _ _ _ _ _ _ (heap_alloc_new w3 _)
      change Code.wp _ _ _ _ ((w3.alloc (.cells (rkC 0 0 (.slice none 0 0)) 30)).setRow w3.heap.size (rkC N A (.slice a3 n3 c3)))
      obtain ⟨V, hV⟩ : ∃ V, (w3.alloc (.cells (rkC 0 0 (.slice none 0 0)) 30)).setRow w3.heap.size (rkC N A (.slice a3 n3 c3)) = V := ⟨_, rfl⟩
      rw [hV] at hbs hk4 ⊢
      have HSK := Lib.hid (fun W (hb : Below V.heap.size V W) => (HS3.out.same hbs).same hb)
      have HBV := Lib.hid (HB3.out.trans (hbs.mono HB3.out.size))
      have HBN := Lib.hid (fun W (hb : Below V.heap.size V W) => HBV.out.trans (hb.mono HBV.out.size))
      obtain ⟨D, hD⟩ : ∃ D, w3.heap.size = D := ⟨_, rfl⟩
      rw [hD] at hk4 ⊢
      have HS : Hid (∀ W, Below V.heap.size V W → W.cell? ⟨D, 0, none⟩ = some (.int .i64 (N : Int)) ∧ W.cell? ⟨D, 1, none⟩ = some (.int .i64 (A : Int))) := fun W hW => by
        have h1 := (hW.block _ (blk_lt hk4)).trans hk4
        exact ⟨blk_cell h1 0, blk_cell h1 1⟩
      have HAG := Lib.hid (fun W hb => age_any (HSK.out W hb))
      have HWD := Lib.hid (fun W hb => width_any (HSK.out W hb))
      have HPK := Lib.hid (fun W hb => pack_any (HSK.out W hb))
      rw [HPM.out] at HPK
      have hee := strB_self bs
      have hBc := Lib.hid ((Below.refl V.heap.size V).drew)
      have HCV := Lib.hid (fun W hb => conv_str (HV.out.below (HBN.out W hb)))
      have hcb := HCV.out _ hBc.out
      clear hbs hk4 hV hD HS3 HS2 HB3 HB2
      go_cut [2] (fun s2 wx => s2 = .bool true ∧ Below V.heap.size V wx)
      case first =>
        go_region_held_law (fun W => W.cell? ⟨D, 0, none⟩ = some (.int .i64 (N : Int)) ∧ W.cell? ⟨D, 1, none⟩ = some (.int .i64 (A : Int)))
          (exact HS.out _ hBc.out)
          (first
          | (go_at_call 21; (with_reducible refine (HAG.out _ hBc.out).mono ?_); rintro e w' ⟨rfl, rfl⟩)
          | (go_at_call 10; (with_reducible refine (HWD.out _ hBc.out).mono ?_); rintro e w' ⟨rfl, rfl⟩)
          | (go_at_call 15; (with_reducible refine (HPK.out _ hBc.out).mono ?_); rintro e w8 ⟨u8, rfl, ho8, hb8⟩; have hc8 := conv_str (BytesAt.of_owns ho8); have hBn := hBc.out.trans (hb8.mono hBc.out.size); clear hBc hb8 ho8; have hBc := Lib.hid hBn; clear hBn hcb; have hcb := HCV.out _ hBc.out)
          | (go_at_call 11; (with_reducible refine (awake23 _).mono ?_); rintro e w10 ⟨rfl, hb10⟩; have hBn := hBc.out.trans (hb10.mono hBc.out.size); clear hBc hb10; have hBc := Lib.hid hBn; clear hBn))
        all_goals (go_wp2_with fail)
        all_goals go_meet
        all_goals exact ⟨rfl, hBc.out⟩
      case rest =>
        obtain ⟨rfl, hbx⟩ := hcut
        have HBX := Lib.hid hbx
        clear hbx
        go_wp2
        go_ret
        exact ⟨rfl, HBV.out.trans (HBX.out.mono HBV.out.size)⟩
    · replace HUN : Hid (∀ (V : World) (u : Value), BytesAt V.heap.size V u bs → Calls Try.prog 16 #[u] V fun e w' => e = .returned (.tuple #[.pointer none, .int .i64 5]) ∧ Below V.heap.size V w') := fun V u h => (HUN.out V u h).mono fun e w' h => by
        rcases h with h | h
        · exact absurd h.1 hU
        · exact h.2
      replace HRU : Hid (∀ V, Below w.heap.size w V → Calls Try.prog 24 #[.slice a n c] V fun e w' => e = .returned (.tuple #[.agg (rkC 0 0 (.slice none 0 0)), .int .i64 5]) ∧ Below V.heap.size V w') := fun V hb => (HRU.out V hb).mono fun e w' h => by
        rcases h with h | h
        · exact absurd h.1 hU
        · exact h.2
      clear hU
      go_enter Try.func4, Try.ntmps4
      go_wp2_with (first
        | (at_builtin; go_must (refine wpList_append_bytes rfl (.tmp 11) (.tmp 12) rfl rfl w.heap.size i0 hi hz0 hz1 hz2 _ rfl [] (own_empty w w.heap.size (Nat.le_refl _)) _ rfl w.heap.size bs (HV.out.below ((Below.refl _ w).alloc (Nat.le_refl _) _)) (by have := HLN.out; simp; omega) (by simp) ?_); intro v1 w1 n1 HN1 hown1 hgrow1 hat1; have HB1 := Lib.hid (((Below.refl w.heap.size w).alloc (Nat.le_refl _) (.cells #[] 5)).grown hgrow1 (by simp) (fun k e => ((own_empty w w.heap.size (Nat.le_refl _)).lt k e).1)); have HU1 := Lib.hid (HUN.out w1 v1 (BytesAt.of_owns (by have e := HN1.out; subst e; simpa using hown1))); obtain ⟨a1, c1, rfl⟩ := owns_slice hown1; clear hown1 hgrow1 hat1)
        | (go_at_call 16; (with_reducible refine HU1.out.mono ?_); rintro e w2 ⟨rfl, hb2⟩; have HB2 := Lib.hid (HB1.out.trans (hb2.mono HB1.out.size)); have HR2 := Lib.hid (HRU.out _ HB2.out); clear hb2)
        | (go_at_call 24; (with_reducible refine HR2.out.mono ?_); rintro e w3 ⟨rfl, hb3⟩; have HB3 := Lib.hid (HB2.out.trans (hb3.mono HB2.out.size)); clear hb3)
        | (refine wpList_store_row (o := ⟨none, _, _, _, _, _⟩) rfl 30 (.tmp 5) (.tmp 20) rfl w3.heap.size (rkC 0 0 (.slice none 0 0)) rfl rfl 30 (rkC 0 0 (.slice none 0 0)) (heap_alloc_new w3 _) (rkC_sz _ _ _) rfl ?_ ?_; exact rkC_one _ _ _ _ _)
        | (go_at_call 11; (with_reducible refine (awake23 _).mono ?_); rintro e w5 ⟨rfl, hb5⟩; have HB5 := Lib.hid hb5; clear hb5))
      go_ret
      have b4 : Below w.heap.size w ((w3.alloc (.cells (rkC 0 0 (.slice none 0 0)) 30)).setRow w3.heap.size (rkC 0 0 (.slice none 0 0))) := below_setRow1 (HB3.out.alloc HB3.out.size _) HB3.out.size _
      exact ⟨rfl, b4.trans (HB5.out.mono b4.size)⟩

set_option maxRecDepth 100000 in
theorem sketchReads_lifted (os : Os) (started : os.Started) (H : Type) (enc : TypeId × Value → H) :
    ReturnsInHanded {} Try.checked os 4 .any (Rows.sketchReadsSpec.pre6 enc Try.prog Try.f4 Rows.sketchReadsRow.domain false) (Rows.sketchReadsSpec.post enc Try.prog Try.f4 false true false false) :=
  law_lifted 4 Try.f4 Rows.sketchReadsSpec Try.func4 (by kernel_rfl) rfl rfl
    (fun ds h => by match ds, h with | [_], _ => rfl) (by kernel_rfl) os started
    (ChangeSpec.witness6 (enc := enc) (C := Try.checked) false ⟨#[], #[.slice none 0 0], []⟩ 8 (by kernel_rfl) (by kernel_rfl) (by kernel_rfl) (by kernel_rfl))
    fun W args ds ps hval hA => by
      rw [Try.params4] at hA hval
      obtain ⟨v0, vs0, d0, ds0, p0, q0, hargs, rfl, rfl, h0, r0⟩ := trodAll_cons hA
      obtain ⟨rfl, rfl, rfl⟩ := trodAll_nil r0
      obtain rfl : args = #[v0] := by cases args; simp_all
      obtain ⟨b0, o0⟩ := hval 0 _ v0 rfl rfl
      obtain ⟨bs0, hb0, hm0⟩ := open_bytes o0 h0
      exact sketchReads_walk v0 bs0 W hb0 hm0

/-- The statement. -/
theorem sketchReads_holds : Rows.SketchReadsSaid :=
  OpenClaim.holds_of_wide 4 Try.f4 rfl rfl rfl rfl rfl rfl rfl ⟨rfl, rfl, rfl, rfl, rfl⟩ rfl rfl rfl rfl rfl (by kernel_rfl) Try.func4 (by kernel_rfl)
    (of_decide_eq_true (by kernel_rfl)) (by unfold Func.isWrapper; first | (rw [if_pos (by decide +kernel)]; kernel_rfl) | (rw [if_neg (by decide +kernel)]; exact ⟨rfl, rfl⟩))
    (fun os started H enc _ => sketchReads_lifted os started H enc)
#print axioms sketchReads_holds

end Go.Proofs.Ytalgkiagdjckiaa

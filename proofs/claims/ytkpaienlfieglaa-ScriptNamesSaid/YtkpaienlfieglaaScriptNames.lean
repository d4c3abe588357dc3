/-
  ScriptNames: the name of any kind, the kind of any name.
  Conditions: none.
-/
import Derived.Test.YtkpaienlfieglaaScr8
import Derived.Test.YtkpaienlfieglaaLaw
namespace Go.Proofs.Ytkpaienlfieglaa
open Go.ChangeShapes Go.WideShapes Go.ChangeAt Go.RowKit
attribute [local go_sem] Oper.semAt_some

set_option maxRecDepth 100000 in
set_option maxHeartbeats 4000000 in
theorem scriptNames_walk (k : Int) (s : ByteArray) (w : World) : Calls Try.prog 5 #[.int .i64 k, .string s] w (Good w) := by
  by_cases hbig : 50 < s.size
  · have h1 : (50 : Int) < s.size := by omega
    go_enter Try.func5, Try.ntmps5
    go_wp2
    go_ret
    exact ⟨rfl, Below.refl _ _⟩
  · have h1 : ¬ (50 : Int) < s.size := by omega
    clear hbig
    go_enter Try.func5, Try.ntmps5
    go_wp2
    go_loopw [5, 6, 7] (fun a b i wr => ∃ j : Nat, j ≤ 10 ∧ i = .int .i64 j ∧ ∃ k f, a = .int .i64 k ∧ b = .bool f ∧ KindOf j s k f ∧ Below w.heap.size w wr) (fun _ _ i _ => 10 - (intOf i).toNat)
    case atStart => exact ⟨0, by omega, rfl, 0, false, rfl, rfl, .inr ⟨rfl, rfl, fun i hi => absurd hi (by omega)⟩, Below.refl _ _⟩
    case round =>
      obtain ⟨j, hj, rfl, k', f, rfl, rfl, hK, hB⟩ := hrel
      have HK := Lib.hid hK
      have HB := Lib.hid hB
      by_cases hlt : j < 10
      · have j1 : (j : Int) < 10 := by omega
        have HLT := Lib.hid hlt
        have hr := refName_any (j : Int) wr
        rw [kn_nat j hlt] at hr
        have HR := Lib.hid hr
        have hq := str_beq (nm j) s
        clear hr hK hB hlt hj
        by_cases hs : nm j = s
        · rw [decide_eq_true hs] at hq
          have HS := Lib.hid hs
          clear hs
          go_wp2_with (go_at_call 18; (with_reducible refine HR.out.mono ?_); rintro e w5 ⟨rfl, hb⟩; have HB5 := Lib.hid (HB.out.trans (hb.mono HB.out.size)); clear hb)
          go_roundw
          case rel => exact ⟨j + 1, HLT.out, by go_num, j, true, rfl, rfl, .inl ⟨rfl, j, by omega, HS.out, rfl⟩, HB5.out⟩
          case measure => have := HLT.out; simp [intOf]; omega
        · rw [decide_eq_false hs] at hq
          have HS := Lib.hid hs
          clear hs
          go_wp2_with (go_at_call 18; (with_reducible refine HR.out.mono ?_); rintro e w5 ⟨rfl, hb⟩; have HB5 := Lib.hid (HB.out.trans (hb.mono HB.out.size)); clear hb)
          go_roundw
          case rel =>
            refine ⟨j + 1, HLT.out, by go_num, k', f, rfl, rfl, ?_, HB5.out⟩
            rcases HK.out with ⟨h1, i, hi, h2, h3⟩ | ⟨h1, h2, h3⟩
            · exact .inl ⟨h1, i, by omega, h2, h3⟩
            · refine .inr ⟨h1, h2, fun i hi => ?_⟩
              by_cases h9 : i < j
              · exact h3 i h9
              · obtain rfl : i = j := by omega
                exact HS.out
          case measure => have := HLT.out; simp [intOf]; omega
      · obtain rfl : j = 10 := by omega
        have HKD := Lib.hid ((kind_any s wr).mono (R' := fun e w' => e = .returned (.tuple #[.int .i64 k', .bool f]) ∧ Below wr.heap.size wr w') (fun e w' ⟨k2, f2, he, hk, hb⟩ => by
          obtain ⟨rfl, rfl⟩ := KindOf.one (by decide) hk hK
          exact ⟨he, hb⟩))
        have HNM := Lib.hid (fun W => name_any k W)
        have HRN := Lib.hid (fun W => refName_any k W)
        have HAW := Lib.hid (fun W => awake20 W)
        generalize nm (kn k) = t at HNM HRN
        have q1 := str_self t
        clear hK hB hj hlt HK
        go_wp2_with (first
          | (go_at_call 19; (with_reducible refine HKD.out.mono ?_); rintro e w5 ⟨rfl, hb⟩; have HB5 := Lib.hid (HB.out.trans (hb.mono HB.out.size)); clear hb)
          | (go_at_call 20; (with_reducible refine (HNM.out _).mono ?_); rintro e w6 ⟨rfl, hb⟩; have HB6 := Lib.hid (HB5.out.trans (hb.mono HB5.out.size)); clear hb)
          | (go_at_call 18; (with_reducible refine (HRN.out _).mono ?_); rintro e w7 ⟨rfl, hb⟩; have HB7 := Lib.hid (HB6.out.trans (hb.mono HB6.out.size)); clear hb)
          | (go_at_call 14; (with_reducible refine (HAW.out _).mono ?_); rintro e w8 ⟨rfl, hb⟩; have HB8 := Lib.hid (HB7.out.trans (hb.mono HB7.out.size)); clear hb))
        go_ret
        exact ⟨rfl, HB8.out⟩
set_option maxRecDepth 100000 in
theorem scriptNames_lifted (os : Os) (started : os.Started) (H : Type) (enc : TypeId × Value → H) :
    ReturnsInHanded {} Try.checked os 5 .any (Rows.scriptNamesSpec.pre6 enc Try.prog Try.f5 Rows.scriptNamesRow.domain false) (Rows.scriptNamesSpec.post enc Try.prog Try.f5 false true false false) :=
  law_lifted 5 Try.f5 Rows.scriptNamesSpec Try.func5 (by kernel_rfl) rfl rfl
    (fun ds h => by match ds, h with | [_, _], _ => rfl) (by kernel_rfl) os started
    (ChangeSpec.witness6 (enc := enc) (C := Try.checked) false ⟨#[], #[.int .i64 0, .string ⟨#[]⟩], []⟩ 8 (by kernel_rfl) (by kernel_rfl) (by kernel_rfl) (by kernel_rfl))
    fun W args ds ps hval hA => by
      rw [Try.params5] at hA hval
      obtain ⟨v0, vs0, d0, ds0, p0, q0, hargs, rfl, rfl, h0, r0⟩ := trodAll_cons hA
      obtain ⟨v1, vs1, d1, ds1, p1, q1, rfl, rfl, rfl, h1, r1⟩ := trodAll_cons r0
      obtain ⟨rfl, rfl, rfl⟩ := trodAll_nil r1
      obtain rfl : args = #[v0, v1] := by cases args; simp_all
      obtain ⟨b0, o0⟩ := hval 0 _ v0 rfl rfl
      obtain ⟨b1, o1⟩ := hval 1 _ v1 rfl rfl
      obtain ⟨a0, rfl, rfl, rfl, w0⟩ := open_int Try.underlying3 o0 h0
      obtain ⟨s1, rfl, rfl, rfl, z1⟩ := Go.ChangeMaps.open_string Try.underlying9 o1 h1
      exact scriptNames_walk a0 s1 W

/-- The statement. -/
theorem scriptNames_holds : Rows.ScriptNamesSaid :=
  OpenClaim.holds_of_wide 5 Try.f5 rfl rfl rfl rfl rfl rfl rfl ⟨rfl, rfl, rfl, rfl, rfl⟩ rfl rfl rfl rfl rfl (by kernel_rfl) Try.func5 (by kernel_rfl)
    (of_decide_eq_true (by kernel_rfl)) (by unfold Func.isWrapper; first | (rw [if_pos (by decide +kernel)]; kernel_rfl) | (rw [if_neg (by decide +kernel)]; exact ⟨rfl, rfl⟩))
    (fun os started H enc _ => scriptNames_lifted os started H enc)
#print axioms scriptNames_holds
end Go.Proofs.Ytkpaienlfieglaa

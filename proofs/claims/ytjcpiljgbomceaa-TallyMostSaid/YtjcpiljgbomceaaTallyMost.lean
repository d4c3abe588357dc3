/-
  Proved: no count is above 2^60, and none falls, whatever is counted. Whatever numbers come in, the law TallyMost answers true and the argument reads as it did.
  Conditions: none.
-/
import Derived.Test.YtjcpiljgbomceaaTal4
namespace Go.Proofs.Ytjcpiljgbomceaa
open Go.ChangeShapes Go.WideShapes Go.ChangeAt Go.RowKit

theorem add_less {w : World} {T g : Nat} {c : Int} (h : TalAt w T g [c]) (n : Int) (hn : n < 0) :
    Calls Try.prog 11 #[.pointer (some ⟨T, 0, none⟩), .int .i64 0, .int .i64 n] w fun e w' => e = .returned (.int .i64 1) ∧ w = w' := add_not (.inr ⟨T, g, rfl, h⟩) 0 n (.inr hn)
theorem wrapM {x : Int} (h0 : -9223372036854775808 ≤ x) (h1 : x ≤ 9223372036854775807) : wrap64 x = x := IntWalk.wrap64_in _ ⟨h0, by omega⟩
/-- What holds at a round's head. -/
def MostAt (w W : World) : Prop := ∃ c, TalAt W (w.heap.size + 1) w.heap.size [c] ∧ Below w.heap.size w W
set_option maxRecDepth 100000 in
set_option maxHeartbeats 4000000 in
theorem tallyMost_walk (l : List Int) (v : Value) (w : World) (hv : IntsAt w.heap.size w v l) (hwf : l.length ≤ maxLen ∧ ∀ x ∈ l, (Lit.int .i64 x).wf = true) : Calls Try.prog 6 #[v] w (Good w) := by
  obtain ⟨hm, hwf⟩ := hwf
  unfold maxLen at hm
  obtain ⟨a, cap, rfl⟩ := hv.slice
  by_cases hbig : 100 < l.length
  · have b1 : (100 : Int) < l.length := by omega
    clear hwf hv
    go_enter Try.func6, Try.ntmps6
    go_wp2
    go_ret
    exact ⟨rfl, Below.refl _ _⟩
  have b1 : (l.length : Int) ≤ 100 := by omega
  have HV := Lib.hid hv
  have HWF := Lib.hid hwf
  clear hv hwf
  go_enter Try.func6, Try.ntmps6
  go_upto_region 4 with (go_at_call 7; (with_reducible refine (aw_new _).mono ?_); rintro e w1 ⟨rfl, h1, hb1⟩)
  have HS1 : Hid (MostAt w w1) := ⟨0, h1, hb1⟩
  clear h1 hb1
  go_wp2
  go_loopw [4] (fun iv wr => ∃ k : Nat, k ≤ l.length ∧ iv = .int .i64 k ∧ MostAt w wr) (fun iv _ => l.length - (intOf iv).toNat)
  case atStart => exact ⟨0, by omega, rfl, HS1.out⟩
  case round =>
    obtain ⟨k, hk, rfl, c, hT, hB⟩ := hrel
    by_cases hlt : k < l.length
    · have i1 : (k : Int) < l.length := by omega
      obtain ⟨g, off, rfl, hg, c0⟩ := (HV.out.below hB).get hlt
      have hx := wf_i64 (HWF.out _ (List.getElem_mem hlt))
      have hxe : l[k]?.getD 0 = l[k] := by rw [List.getElem?_eq_getElem hlt]; rfl
      rw [← hxe] at hx
      clear hxe
      generalize (l[k]?.getD 0) = n at hx c0
      have hc := hT.ok.2 0 (by simp)
      simp only [List.getElem?_cons_zero, Option.getD_some] at hc
      have HC0 := Lib.hid (fun W (h : Below w.heap.size w W) => (show W.cell? ⟨g, off + k, none⟩ = some (.int .i64 n) from by
        obtain ⟨g', off', e, _, q⟩ := (HV.out.below h).get hlt
        cases e
        rw [q]
        have := (hB.cell (p := ⟨g, off + k, none⟩) hg)
        have q0 := (HV.out.get hlt)
        obtain ⟨g'', off'', e'', _, q''⟩ := q0
        cases e''
        rw [← q'', ← this, c0]))
      have HG1 := Lib.hid (get_one hT)
      have HB := Lib.hid hB
      have HTT := Lib.hid hT
      obtain ⟨hx1, hx2⟩ := hx
      obtain ⟨hc1, hc2⟩ := hc
      clear hT hB c0
      by_cases hn : n < 0
      · go_upto_region 8 with (go_at_call 12; (with_reducible refine HG1.out.mono ?_); rintro e w2 ⟨rfl, hb2⟩)
        have hT2 := HTT.out.same hb2
        have hB2 := HB.out.trans (hb2.mono HB.out.size)
        have c0 := HC0.out _ hB2
        have HA := Lib.hid (add_less hT2 n hn)
        have HG2 := Lib.hid (get_one hT2)
        have HT2 := Lib.hid hT2
        have HB2 := Lib.hid hB2
        have n1 : ¬ 0 ≤ n := by omega
        have n2 : ¬ c < c := by omega
        have n3 : ¬ 1152921504606846976 < c := by omega
        clear hT2 hB2 hb2 HG1 HTT HB HC0 hc1 hc2
        go_wp2_with (first
          | (go_at_call 11; (with_reducible refine HA.out.mono ?_); rintro e w' ⟨rfl, rfl⟩)
          | (go_at_call 12; (with_reducible refine HG2.out.mono ?_); rintro e w3 ⟨rfl, hb3⟩; have c0' := (hb3.cell (p := ⟨g, off + k, none⟩) (World.block_lt_of_cell? _ _ c0)).trans c0; have HB3 := Lib.hid hb3; clear hb3))
        go_roundw
        case rel => exact ⟨k + 1, by omega, by go_num, c, HT2.out.same HB3.out, HB2.out.trans (HB3.out.mono HB2.out.size)⟩
        case measure => simp [intOf]; omega
      · go_upto_region 8 with (go_at_call 12; (with_reducible refine HG1.out.mono ?_); rintro e w2 ⟨rfl, hb2⟩)
        have hT2 := HTT.out.same hb2
        have hB2 := HB.out.trans (hb2.mono HB.out.size)
        have c0 := HC0.out _ hB2
        have n1 : 0 ≤ n := by omega
        have hda := addC_ok ⟨hc1, hc2⟩ n1
        by_cases hs : n ≤ 1152921504606846976 - c
        · have hd : addC c n = c + n := by unfold addC; omega
          obtain ⟨d, he⟩ : ∃ d, c + n = d := ⟨_, rfl⟩
          rw [he] at hd
          have HA := Lib.hid (add_one hT2 n n1 hx2 hd)
          have HB2 := Lib.hid hB2
          rw [hd] at hda
          obtain ⟨d0, d1, d2⟩ := hda
          have n2 : ¬ d < c := by omega
          have n3 : ¬ 1152921504606846976 < d := by omega
          have n4 : d - c = n := by omega
          have n5 : ¬ n < 0 := by omega
          clear hT2 hB2 hb2 HG1 HTT HB HC0 hd he hs hn
          go_wp2_with (first
            | (go_at_call 11; (with_reducible refine HA.out.mono ?_); rintro e w3 ⟨rfl, h3, m3⟩; have c0' := (m3.below (B := w.heap.size) (fun i hi => by omega) HB2.out.size).cell (p := ⟨g, off + k, none⟩) hg; rw [c0] at c0'; have HT3 := Lib.hid h3; have HG2 := Lib.hid (get_one h3); have HB3 := Lib.hid (HB2.out.trans (m3.below (B := w.heap.size) (fun i hi => by omega) HB2.out.size)); clear c0 h3 m3)
            | (go_at_call 12; (with_reducible refine HG2.out.mono ?_); rintro e w4 ⟨rfl, hb4⟩; have c0'' := (hb4.cell (p := ⟨g, off + k, none⟩) (World.block_lt_of_cell? _ _ c0')).trans c0'; have HB4 := Lib.hid hb4; clear hb4 c0'))
          go_roundw
          case rel => exact ⟨k + 1, by omega, by go_num, d, HT3.out.same HB4.out, HB3.out.trans (HB4.out.mono HB3.out.size)⟩
          case measure => simp [intOf]; omega
        · have hd : addC c n = 1152921504606846976 := by unfold addC; omega
          have HA := Lib.hid (add_one hT2 n n1 hx2 hd)
          have HB2 := Lib.hid hB2
          have n2 : ¬ 1152921504606846976 < c := by omega
          have n5 : ¬ n < 0 := by omega
          obtain ⟨t, ht⟩ : ∃ t, 1152921504606846976 - c = t := ⟨_, rfl⟩
          have htn : ¬ t = n := by omega
          have htn2 : (t == n) = false := beq_eq_false_iff_ne.2 htn
          clear hT2 hB2 hb2 HG1 HTT HB HC0 hd hs hn hda
          go_wp2_with (first
            | (go_at_call 11; (with_reducible refine HA.out.mono ?_); rintro e w3 ⟨rfl, h3, m3⟩; have c0' := (m3.below (B := w.heap.size) (fun i hi => by omega) HB2.out.size).cell (p := ⟨g, off + k, none⟩) hg; rw [c0] at c0'; have HT3 := Lib.hid h3; have HG2 := Lib.hid (get_one h3); have HB3 := Lib.hid (HB2.out.trans (m3.below (B := w.heap.size) (fun i hi => by omega) HB2.out.size)); clear c0 h3 m3)
            | (go_at_call 12; (with_reducible refine HG2.out.mono ?_); rintro e w4 ⟨rfl, hb4⟩; have c0'' := (hb4.cell (p := ⟨g, off + k, none⟩) (World.block_lt_of_cell? _ _ c0')).trans c0'; have HB4 := Lib.hid hb4; clear hb4 c0'))
          go_roundw
          case rel => exact ⟨k + 1, by omega, by go_num, 1152921504606846976, HT3.out.same HB4.out, HB3.out.trans (HB4.out.mono HB3.out.size)⟩
          case measure => simp [intOf]; omega
    · obtain rfl : k = l.length := by omega
      have HB := Lib.hid hB
      clear hB hT
      go_wp2_with (go_at_call 9; (with_reducible refine (awake16 _).mono ?_); rintro e w7 ⟨rfl, hb7⟩)
      go_ret
      exact ⟨rfl, HB.out.trans (hb7.mono HB.out.size)⟩

set_option maxRecDepth 100000 in
theorem tallyMost_lifted (os : Os) (started : os.Started) (H : Type) (enc : TypeId × Value → H) :
    ReturnsInHanded {} Try.checked os 6 .any (Rows.tallyMostSpec.pre6 enc Try.prog Try.f6 Rows.tallyMostRow.domain false) (Rows.tallyMostSpec.post enc Try.prog Try.f6 false true false false) :=
  law_lifted 6 Try.f6 Rows.tallyMostSpec Try.func6 (by kernel_rfl) rfl rfl
    (fun ds h => by match ds, h with | [_], _ => rfl) (by kernel_rfl) os started
    (ChangeSpec.witness6 (enc := enc) (C := Try.checked) false ⟨#[], #[.slice none 0 0], []⟩ 8 (by kernel_rfl) (by kernel_rfl) (by kernel_rfl) (by kernel_rfl))
    fun W args ds ps hval hA => by
      rw [Try.params6] at hA hval
      obtain ⟨v0, vs0, d0, ds0, p0, q0, hargs, rfl, rfl, h0, r0⟩ := trodAll_cons hA
      obtain ⟨rfl, rfl, rfl⟩ := trodAll_nil r0
      obtain rfl : args = #[v0] := by cases args; simp_all
      obtain ⟨b0, o0⟩ := hval 0 _ v0 rfl rfl
      obtain ⟨l0, hb0, hm0⟩ := open_ints1 o0 h0
      exact tallyMost_walk l0 _ W hb0 hm0

/-- The statement. -/
theorem tallyMost_holds : Rows.TallyMostSaid :=
  OpenClaim.holds_of_wide 6 Try.f6 rfl rfl rfl rfl rfl rfl rfl ⟨rfl, rfl, rfl, rfl, rfl⟩ rfl rfl rfl rfl rfl (by kernel_rfl) Try.func6 (by kernel_rfl)
    (of_decide_eq_true (by kernel_rfl)) (by unfold Func.isWrapper; first | (rw [if_pos (by decide +kernel)]; kernel_rfl) | (rw [if_neg (by decide +kernel)]; exact ⟨rfl, rfl⟩))
    (fun os started H enc _ => tallyMost_lifted os started H enc)
#print axioms tallyMost_holds

end Go.Proofs.Ytjcpiljgbomceaa

/-
  ScriptReads: which acts any bytes are.
  Conditions: none.
-/
import Derived.Test.YtgaabclgoolalaaScriptBack
import Derived.Test.YtgaabclgoolalaaScr30
namespace Go.Proofs.Ytgaabclgoolalaa
open Go.ChangeShapes Go.WideShapes Go.ChangeAt Go.RowKit
attribute [local go_sem] Oper.semAt_some

theorem unpS_small (bs : List (BitVec 8)) : (unpS bs).1.length ≤ 1000000 ∧ ∀ x ∈ (unpS bs).1, x.nums.length ≤ 1000000 := by
  rcases unpS_code bs with ⟨l, hl⟩ | hl | ⟨hl, _⟩
  · rw [hl]
    obtain ⟨_, h1, h2⟩ := unpS_back bs l hl
    refine ⟨by show l.length ≤ _; omega, fun x hx => ?_⟩
    have := (fit_len (h2 x hx).1).2.2.2
    omega
  · rw [hl]
    exact ⟨by simp, fun x hx => by simp at hx⟩
  · rw [hl]
    exact ⟨by simp, fun x hx => by simp at hx⟩
set_option maxRecDepth 100000 in
set_option maxHeartbeats 16000000 in
theorem scriptReads_walk (v : Value) (bs : List (BitVec 8)) (w : World) (hv : BytesAt w.heap.size w v bs) : Calls Try.prog 3 #[v] w (Good w) := by
  have HAW := Lib.hid (fun W => awake20 W)
  have HV := Lib.hid hv
  obtain ⟨ab, cb, rfl, hcb, _⟩ := id hv
  clear hv
  by_cases hbl : bs.length ≤ 2000
  · have hb1 : (bs.length : Int) ≤ 2000 := by omega
    obtain ⟨hs1, hs2⟩ := unpS_small bs
    have HBL := Lib.hid hbl
    have HUU := Lib.hid (fun (u : Value) (W : World) (hu : BytesAt W.heap.size W u bs) => (unpack_any u bs W hu (by omega)).mono (fun e w' h => show ∃ a c, e = Ending.returned (.tuple #[.slice a (unpS bs).1.length c, .int .i64 (unpS bs).2]) ∧ ActsAt w'.heap.size w' (.slice a (unpS bs).1.length c) (unpS bs).1 ∧ Below W.heap.size W w' from by
      obtain ⟨u, rfl, ha, hb⟩ := h
      obtain ⟨a, c, rfl, _⟩ := ha.slice
      exact ⟨a, c, rfl, ha, hb⟩))
    have HRU := Lib.hid (fun (W : World) (hu : BytesAt W.heap.size W (.slice ab bs.length cb) bs) => (refUnpack20_any _ bs W hu (by omega)).mono (fun e w' h => show ∃ a c, e = Ending.returned (.tuple #[.slice a (unpS bs).1.length c, .int .i64 (unpS bs).2]) ∧ DocsAt w'.heap.size w' (.slice a (unpS bs).1.length c) (unpS bs).1 ∧ Below W.heap.size W w' from h))
    have HTO := Lib.hid (fun (u v : Value) (W : World) h1 h2 => told_yes u v (unpS bs).1 W h1 h2 hs1 hs2)
    clear hbl hs1 hs2
    generalize (unpS bs).1 = l at HUU HRU HTO
    generalize (unpS bs).2 = k at HUU HRU
    obtain ⟨n, hn⟩ : ∃ n, l.length = n := ⟨_, rfl⟩
    rw [hn] at HUU HRU
    clear hn
    have hkk : ((k : Int) == k) = true := beq_self_eq_true k
    obtain ⟨i0, hi, hz0, hz1, hz2⟩ := info_parts Try.infoU8
    have HE0 := Lib.hid (own_empty w w.heap.size (Nat.le_refl _))
    have HB0 : Hid (Below w.heap.size w (w.alloc (.cells #[] 5))) := (Below.refl _ _).alloc (Nat.le_refl _) _
    go_enter Try.func3, Try.ntmps3
    go_wp2_with (first
      | (at_builtin; (refine wpList_append_bytes rfl (.tmp 11) (.tmp 12) rfl rfl w.heap.size i0 hi hz0 hz1 hz2 _ rfl [] HE0.out _ rfl _ _ (HV.out.below HB0.out) (by have := HBL.out; simp; omega) HB0.out.size ?_); intro v1 w1 n1 hn hown hg _; have HB1 := Lib.hid (HB0.out.grown hg HB0.out.size (fun k e => (HE0.out.lt k e).1)); have HU1 := Lib.hid (HUU.out v1 w1 (BytesAt.of_owns (show w1.ownsRow w.heap.size 5 1 v1 bs.length (cellsOf bs) from by rw [hn.out, List.nil_append] at hown; exact hown))); clear hn hown hg)
      | (go_at_call 6; (with_reducible refine HU1.out.mono ?_); rintro e w2 ⟨a2, c2, rfl, hac, hb⟩; have HB2 := Lib.hid (HB1.out.trans (hb.mono HB1.out.size)); have HAC := Lib.hid hac; have HR2 := Lib.hid (HRU.out w2 ((HV.out.below HB2.out).mono HB2.out.size)); clear hb hac)
      | (go_at_call 7; (with_reducible refine HR2.out.mono ?_); rintro e w3 ⟨a3, c3, rfl, hdc, hb⟩; have HB3 := Lib.hid (HB2.out.trans (hb.mono HB2.out.size)); have HT3 := Lib.hid (HTO.out _ _ w3 (HAC.out.next hb) hdc); clear hb hdc)
      | (go_at_call 8; (with_reducible refine HT3.out.mono ?_); rintro e w4 ⟨rfl, hb⟩; have HB4 := Lib.hid (HB3.out.trans (hb.mono HB3.out.size)); clear hb)
      | (go_at_call 9; (with_reducible refine (HAW.out _).mono ?_); rintro e w8 ⟨rfl, hb⟩; have HB8 := Lib.hid (HB4.out.trans (hb.mono HB4.out.size)); clear hb))
    go_ret
    exact ⟨rfl, HB8.out⟩
  · have hb1 : 2000 < (bs.length : Int) := by omega
    clear hbl
    go_enter Try.func3, Try.ntmps3
    go_wp2
    go_ret
    exact ⟨rfl, Below.refl _ _⟩
set_option maxRecDepth 100000 in
theorem scriptReads_lifted (os : Os) (started : os.Started) (H : Type) (enc : TypeId × Value → H) :
    ReturnsInHanded {} Try.checked os 3 .any (Rows.scriptReadsSpec.pre6 enc Try.prog Try.f3 Rows.scriptReadsRow.domain false) (Rows.scriptReadsSpec.post enc Try.prog Try.f3 false true false false) :=
  law_lifted 3 Try.f3 Rows.scriptReadsSpec Try.func3 (by kernel_rfl) rfl rfl
    (fun ds h => by match ds, h with | [_], _ => rfl) (by kernel_rfl) os started
    (ChangeSpec.witness6 (enc := enc) (C := Try.checked) false ⟨#[], #[.slice none 0 0], []⟩ 8 (by kernel_rfl) (by kernel_rfl) (by kernel_rfl) (by kernel_rfl))
    fun W args ds ps hval hA => by
      rw [Try.params3] at hA hval
      obtain ⟨v0, vs0, d0, ds0, p0, q0, hargs, rfl, rfl, h0, r0⟩ := trodAll_cons hA
      obtain ⟨rfl, rfl, rfl⟩ := trodAll_nil r0
      obtain rfl : args = #[v0] := by cases args; simp_all
      obtain ⟨b0, o0⟩ := hval 0 _ v0 rfl rfl
      obtain ⟨bs0, hb0, hm0⟩ := open_bytes o0 h0
      exact scriptReads_walk v0 bs0 W hb0

/-- The statement. -/
theorem scriptReads_holds : Rows.ScriptReadsSaid :=
  OpenClaim.holds_of_wide 3 Try.f3 rfl rfl rfl rfl rfl rfl rfl ⟨rfl, rfl, rfl, rfl, rfl⟩ rfl rfl rfl rfl rfl (by kernel_rfl) Try.func3 (by kernel_rfl)
    (of_decide_eq_true (by kernel_rfl)) (by unfold Func.isWrapper; first | (rw [if_pos (by decide +kernel)]; kernel_rfl) | (rw [if_neg (by decide +kernel)]; exact ⟨rfl, rfl⟩))
    (fun os started H enc _ => scriptReads_lifted os started H enc)
#print axioms scriptReads_holds

end Go.Proofs.Ytgaabclgoolalaa

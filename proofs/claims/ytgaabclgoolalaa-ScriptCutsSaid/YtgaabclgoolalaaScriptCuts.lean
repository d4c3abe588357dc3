/-
  ScriptCuts: cut short, bytes of a script are none; with more behind neither.
  Conditions: none.
-/
import Derived.Test.YtgaabclgoolalaaScr8
import Derived.Test.YtgaabclgoolalaaScr11
import Derived.Test.YtgaabclgoolalaaScr15
import Derived.Test.YtgaabclgoolalaaJU
import Derived.Test.YtgaabclgoolalaaJM
import Derived.Test.YtgaabclgoolalaaLaw
import Derived.BigQuiet
import Derived.Deep.RegionHeld3
namespace Go.Proofs.Ytgaabclgoolalaa
open Go.ChangeShapes Go.WideShapes Go.ChangeAt Go.RowKit
attribute [local go_sem] Oper.semAt_some

theorem packE_two {l : List SAct} (h : l.length ≤ 60) : packE l = 0 ∨ packE l = 17 := by
  unfold packE
  rw [if_neg (by omega)]
  cases l.all rightA
  · exact .inr rfl
  · exact .inl rfl
theorem packS_len {l : List SAct} (h : packE l = 0) (hl : l.length ≤ 60) : 4 ≤ (packS l).length ∧ (packS l).length ≤ 9000000 := by
  rw [packS_of h, List.length_append, leI_len]
  have := acts_len l (packE_all h).2
  omega
theorem bytes_some {n : Nat} {w : World} {v : Value} {bs : List (BitVec 8)} (h : BytesAt n w v bs) (hp : 0 < bs.length) : ∃ g off cap, v = .slice (some ⟨g, off, none⟩) bs.length cap ∧ bs.length ≤ cap := by
  obtain ⟨a, cap, rfl, hc, _, h⟩ := h
  rcases h with h | ⟨g, off, rfl, _⟩
  · rw [h] at hp; exact absurd hp (by simp)
  · exact ⟨g, off, cap, rfl, hc⟩
theorem litN {l : List SAct} (h : lightL l = true) : l.length ≤ 60 ∧ (∀ x ∈ l, x.nums.length ≤ 120) ∧ ∀ i, i < l.length → (l[i]?.getD default).nums.length ≤ 1000000 := by
  unfold lightL at h
  rw [Bool.and_eq_true, decide_eq_true_eq, List.all_eq_true] at h
  obtain ⟨h1, h2⟩ := h
  have h3 : ∀ x ∈ l, x.nums.length ≤ 120 := fun x hx => by
    have := h2 x hx
    unfold litA at this
    simp only [Bool.and_eq_true, decide_eq_true_eq] at this
    exact this.2.2
  refine ⟨h1, h3, fun i hi => ?_⟩
  rw [List.getElem?_eq_getElem hi]
  have := h3 _ (List.getElem_mem hi)
  show (l[i]).nums.length ≤ _
  omega
/-- What Unpack answers where the bytes are none. -/
theorem unpack_none {v : Value} {bs : List (BitVec 8)} {w : World} (hu : BytesAt w.heap.size w v bs) (hl : bs.length ≤ 1099511627776) (h : unpS bs = ([], 5)) : Calls Try.prog 6 #[v] w fun e w' => (∃ a c, e = .returned (.tuple #[.slice a 0 c, .int .i64 5])) ∧ Below w.heap.size w w' := by
  refine (unpack_any v bs w hu hl).mono ?_
  rintro e w' ⟨u, rfl, ha, hb⟩
  rw [h] at ha ⊢
  obtain ⟨a, c, rfl, _⟩ := ha.slice
  exact ⟨⟨a, c, rfl⟩, hb⟩
set_option maxRecDepth 100000 in
set_option maxHeartbeats 16000000 in
theorem scriptCuts_walk (l : List SAct) (v : Value) (x1 : BitVec 16) (x2 : BitVec 8) (w : World) (hE : DocsAt w.heap.size w v l) (hm : l.length ≤ maxLen ∧ ∀ x ∈ l, x.wf) : Calls Try.prog 5 #[v, .int .u16 (U x1), .int .u8 (U x2)] w (Good w) := by
  obtain ⟨a, c, rfl, hc⟩ := hE.slice
  have HLI := Lib.hid (light_any _ l w hE)
  have HAW := Lib.hid (fun W => awake20 W)
  cases hli : lightL l with
  | false =>
    rw [hli] at HLI
    clear hE hli
    go_enter Try.func5, Try.ntmps5
    go_wp2_with (go_at_call 10; (with_reducible refine HLI.out.mono ?_); rintro e w1 ⟨rfl, hb⟩; have HB1 := Lib.hid hb; clear hb)
    go_ret
    exact ⟨rfl, HB1.out⟩
  | true =>
    rw [hli] at HLI
    obtain ⟨hl60, hnum, hnumi⟩ := litN hli
    have HE := Lib.hid hE
    have HNI := Lib.hid hnumi
    have HL60 := Lib.hid hl60
    have HWF := Lib.hid hm.2
    rcases packE_two hl60 with hpe | hpe
    · obtain ⟨hp4, hpm⟩ := packS_len hpe hl60
      have HCUT := Lib.hid (fun k hk => unpS_cut l hpe hm.2 k hk)
      have HMORE := Lib.hid (unpS_more l hpe hm.2 [x2] (by simp))
      have HPA := Lib.hid (fun (u : Value) (W : World) (hac : ActsAt W.heap.size W u l) => (pack_any u l W hac (by omega)).mono (fun e w' h => show ∃ g off cap, e = Ending.returned (.tuple #[.slice (some ⟨g, off, none⟩) (packS l).length cap, .int .i64 0]) ∧ (packS l).length ≤ cap ∧ BytesAt w'.heap.size w' (.slice (some ⟨g, off, none⟩) (packS l).length cap) (packS l) ∧ Below W.heap.size W w' from by
        obtain ⟨u, rfl, hu, hb⟩ := h
        obtain ⟨g, off, cap, rfl, hcap⟩ := bytes_some hu (by omega)
        exact ⟨g, off, cap, by rw [hpe], hcap, hu, hb⟩))
      clear hE hli hnum hnumi hl60 hm hpe
      obtain ⟨p, hp⟩ : ∃ p, packS l = p := ⟨_, rfl⟩
      rw [hp] at HCUT HMORE HPA hp4 hpm
      clear hp
      obtain ⟨L, hL⟩ : ∃ L, p.length = L := ⟨_, rfl⟩
      have HLL := Lib.hid hL
      rw [hL] at HPA hp4 hpm HCUT
      clear hL
      have HP4 := Lib.hid hp4
      have HPM := Lib.hid hpm
      have p4 : (4 : Int) ≤ L := by omega
      have p5 : (L : Int) ≤ 9000000 := by omega
      clear hp4 hpm
      go_enter Try.func5, Try.ntmps5
      go_upto_region 6 with (first
        | (go_at_call 10; (with_reducible refine HLI.out.mono ?_); rintro e w1 ⟨rfl, hb⟩; have HB1 := Lib.hid hb; have HOF := Lib.hid (of_any _ l w1 (HE.out.next HB1.out) (by have := HL60.out; omega) HNI.out); clear hb)
        | (go_at_call 12; (with_reducible refine HOF.out.mono ?_); rintro e w2 ⟨a2, c2, rfl, hac, hb⟩; have HB2 := Lib.hid (HB1.out.trans (hb.mono HB1.out.size)); have HPK := Lib.hid (HPA.out _ w2 hac); clear hb hac)
        | (go_at_call 11; (with_reducible refine HPK.out.mono ?_); rintro e w3 ⟨g, off, cap, rfl, hcap, hu, hb⟩; have HU3 := Lib.hid hu; have HCP := Lib.hid hcap; have HB3 := Lib.hid (HB2.out.trans (hb.mono HB2.out.size)); clear hb hu hcap))
      obtain ⟨k, hk⟩ : ∃ k, (U x1).toNat % L = k := ⟨_, rfl⟩
      have hx0 := U_nonneg x1
      have hL0 : 0 < L := by have := HP4.out; omega
      have hkL : k < L := by rw [← hk]; exact Nat.mod_lt _ hL0
      have htm : (wrap64 (U x1)).tmod (L : Int) = (k : Int) := by
        rw [IntWalk.wrap64_in (U x1) (by have h9 : U x1 = (x1.toNat : Int) := rfl; have := x1.isLt; omega)]
        rw [Int.tmod_eq_emod_of_nonneg hx0, ← hk]
        obtain ⟨n, hn⟩ := Int.eq_ofNat_of_zero_le hx0
        rw [hn, Int.toNat_natCast]
        exact (Int.natCast_emod n L).symm
      have kc1 : (k : Int) ≤ cap := by have := HCP.out; omega
      have kc2 : (k : Int) ≤ L := by omega
      have HKL := Lib.hid hkL
      have HBT := Lib.hid (HU3.out.pre k (by rw [HLL.out]; omega))
      have HUP := Lib.hid (unpack_none HBT.out (by rw [List.length_take, HLL.out]; have := HPM.out; omega) (HCUT.out k hkL))
      obtain ⟨i0, hi, hz0, hz1, hz2⟩ := info_parts Try.infoU8
      clear hk hx0 hL0 hkL
      go_wp2_with (first
        | (go_at_call 6; go_loud (first
            | ((with_reducible refine HUQ.out.mono ?_); rintro e w7 ⟨⟨a7, c7, rfl⟩, hb⟩; have HB7 := Lib.hid (HB6.out.trans (hb.mono HB6.out.size)); clear hb)
            | ((with_reducible refine HUP.out.mono ?_); rintro e w4 ⟨⟨a4, c4, rfl⟩, hb⟩; have HB4 := Lib.hid (HB3.out.trans (hb.mono HB3.out.size)); have HU4 := Lib.hid ((HU3.out.below hb).mono hb.size); have he0 := own_empty w4 w.heap.size HB4.out.size; have HE0 := Lib.hid he0; have hb0 := HB4.out.alloc HB4.out.size (.cells #[] 5); have HB0 := Lib.hid hb0; have HUE := Lib.hid (HU4.out.below ((Below.refl w4.heap.size w4).alloc (Nat.le_refl _) (.cells #[] 5))); clear hb he0 hb0)))
        | (at_builtin; (refine wpList_append_bytes rfl (.tmp 51) (.tmp 52) rfl rfl w.heap.size i0 hi hz0 hz1 hz2 _ rfl [] HE0.out _ rfl _ _ HUE.out (by rw [HLL.out]; have := HPM.out; simp; omega) HB0.out.size ?_); intro v5 w5 n5 hn hown hg _; have HB5 := Lib.hid (HB0.out.grown hg HB0.out.size (fun k e => (HE0.out.lt k e).1)); have HO5 := Lib.hid (show w5.ownsRow w.heap.size 5 1 v5 p.length (cellsOf p) from by rw [hn.out, List.nil_append] at hown; exact hown); clear hn hown hg)
        | (at_builtin; (have HU6 := Lib.hid (bytes_one w5 x2)); (have HO6 := Lib.hid (HO5.out.alloc (.cells #[.int .u8 (U x2)] 5))); (have HB6' := Lib.hid (HB5.out.alloc HB5.out.size (.cells #[.int .u8 (U x2)] 5))); (refine wpList_append_bytes rfl (.tmp 53) (.tmp 55) rfl rfl w.heap.size i0 hi hz0 hz1 hz2 _ rfl p HO6.out _ rfl _ [x2] HU6.out (by rw [HLL.out]; have := HPM.out; simp; omega) HB6'.out.size ?_); intro v6 w6 n6 hn hown hg _; have HB6 := Lib.hid (HB6'.out.grown hg HB6'.out.size (fun k e => (HO6.out.lt k e).1)); have HUQ := Lib.hid (unpack_none (BytesAt.of_owns (show w6.ownsRow w.heap.size 5 1 v6 (p ++ [x2]).length (cellsOf (p ++ [x2])) from by rw [hn.out] at hown; exact hown)) (by rw [List.length_append, HLL.out]; have := HPM.out; simp; omega) HMORE.out); clear hn hown hg)
        | (go_at_call 9; (with_reducible refine (HAW.out _).mono ?_); rintro e w8 ⟨rfl, hb⟩; have HB8 := Lib.hid (HB7.out.trans (hb.mono HB7.out.size)); clear hb))
      go_ret
      exact ⟨rfl, HB8.out⟩
    · have hps : packS l = [] := by unfold packS; rw [hpe]; rfl
      have HPA := Lib.hid (fun (u : Value) (W : World) (hac : ActsAt W.heap.size W u l) => (pack_any u l W hac (by omega)).mono (fun e w' h => show ∃ g cap, e = Ending.returned (.tuple #[.slice g 0 cap, .int .i64 17]) ∧ Below W.heap.size W w' from by
        obtain ⟨u, rfl, hu, hb⟩ := h
        rw [hps] at hu
        obtain ⟨g, cap, rfl, _⟩ := hu
        exact ⟨g, cap, by rw [hpe]; rfl, hb⟩))
      clear hE hli hnum hnumi hl60 hm hpe hps
      go_enter Try.func5, Try.ntmps5
      go_wp2_with (first
        | (go_at_call 10; (with_reducible refine HLI.out.mono ?_); rintro e w1 ⟨rfl, hb⟩; have HB1 := Lib.hid hb; have HOF := Lib.hid (of_any _ l w1 (HE.out.next HB1.out) (by have := HL60.out; omega) HNI.out); clear hb)
        | (go_at_call 12; (with_reducible refine HOF.out.mono ?_); rintro e w2 ⟨a2, c2, rfl, hac, hb⟩; have HB2 := Lib.hid (HB1.out.trans (hb.mono HB1.out.size)); have HPK := Lib.hid (HPA.out _ w2 hac); clear hb hac)
        | (go_at_call 11; (with_reducible refine HPK.out.mono ?_); rintro e w3 ⟨g, cap, rfl, hb⟩; have HB3 := Lib.hid (HB2.out.trans (hb.mono HB2.out.size)); clear hb)
        | (go_at_call 9; (with_reducible refine (HAW.out _).mono ?_); rintro e w8 ⟨rfl, hb⟩; have HB8 := Lib.hid (HB3.out.trans (hb.mono HB3.out.size)); clear hb))
      go_ret
      exact ⟨rfl, HB8.out⟩
set_option maxRecDepth 100000 in
theorem scriptCuts_lifted (os : Os) (started : os.Started) (H : Type) (enc : TypeId × Value → H) :
    ReturnsInHanded {} Try.checked os 5 .any (Rows.scriptCutsSpec.pre6 enc Try.prog Try.f5 Rows.scriptCutsRow.domain false) (Rows.scriptCutsSpec.post enc Try.prog Try.f5 false true false false) :=
  law_lifted 5 Try.f5 Rows.scriptCutsSpec Try.func5 (by kernel_rfl) rfl rfl
    (fun ds h => by match ds, h with | [_, _, _], _ => rfl) (by kernel_rfl) os started
    (ChangeSpec.witness6 (enc := enc) (C := Try.checked) false ⟨#[], #[.slice none 0 0, .int .u16 0, .int .u8 0], []⟩ 8 (by kernel_rfl) (by kernel_rfl) (by kernel_rfl) (by kernel_rfl))
    fun W args ds ps hval hA => by
      rw [Try.params5] at hA hval
      obtain ⟨v0, vs0, d0, ds0, p0, q0, hargs, rfl, rfl, h0, r0⟩ := trodAll_cons hA
      obtain ⟨v1, vs1, d1, ds1, p1, q1, rfl, rfl, rfl, h1, r1⟩ := trodAll_cons r0
      obtain ⟨v2, vs2, d2, ds2, p2, q2, rfl, rfl, rfl, h2, r2⟩ := trodAll_cons r1
      obtain ⟨rfl, rfl, rfl⟩ := trodAll_nil r2
      obtain rfl : args = #[v0, v1, v2] := by cases args; simp_all
      obtain ⟨b0, o0⟩ := hval 0 _ v0 rfl rfl
      obtain ⟨b1, o1⟩ := hval 1 _ v1 rfl rfl
      obtain ⟨b2, o2⟩ := hval 2 _ v2 rfl rfl
      obtain ⟨l0, hb0, hm0⟩ := open_docs o0 h0
      obtain ⟨a1, rfl, rfl, rfl, w1⟩ := open_int Try.underlying38 o1 h1
      obtain ⟨x1, rfl⟩ := wf_u16 w1
      obtain ⟨a2, rfl, rfl, rfl, w2⟩ := open_int Try.underlying5 o2 h2
      obtain ⟨x2, rfl⟩ := wf_u8 w2
      exact scriptCuts_walk l0 v0 x1 x2 W hb0 hm0

/-- The statement. -/
theorem scriptCuts_holds : Rows.ScriptCutsSaid :=
  OpenClaim.holds_of_wide 5 Try.f5 rfl rfl rfl rfl rfl rfl rfl ⟨rfl, rfl, rfl, rfl, rfl⟩ rfl rfl rfl rfl rfl (by kernel_rfl) Try.func5 (by kernel_rfl)
    (of_decide_eq_true (by kernel_rfl)) (by unfold Func.isWrapper; first | (rw [if_pos (by decide +kernel)]; kernel_rfl) | (rw [if_neg (by decide +kernel)]; exact ⟨rfl, rfl⟩))
    (fun os started H enc _ => scriptCuts_lifted os started H enc)
#print axioms scriptCuts_holds

end Go.Proofs.Ytgaabclgoolalaa

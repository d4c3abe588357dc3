/-
  ScriptBack: acts are read of their bytes as they were; bytes that are read are just those that are written for them.
  Conditions: none.
-/
import Derived.Test.YtgaabclgoolalaaScriptCuts
import Derived.Test.YtgaabclgoolalaaScr22
namespace Go.Proofs.Ytgaabclgoolalaa
open Go.ChangeShapes Go.WideShapes Go.ChangeAt Go.RowKit
attribute [local go_sem] Oper.semAt_some

theorem unpS_nil : unpS [] = ([], 5) := by kernel_rfl
/-- What Pack answers of acts that may be. -/
theorem pack_yes {u : Value} {l : List SAct} {w : World} (ha : ActsAt w.heap.size w u l) (hm : l.length ≤ 1073741824) (h : packE l = 0) : Calls Try.prog 11 #[u] w fun e w' => ∃ a c, e = .returned (.tuple #[.slice a (packS l).length c, .int .i64 0]) ∧ BytesAt w'.heap.size w' (.slice a (packS l).length c) (packS l) ∧ Below w.heap.size w w' := by
  refine (pack_any u l w ha hm).mono ?_
  rintro e w' ⟨v, rfl, hv, hb⟩
  obtain ⟨a, c, rfl, _⟩ := id hv
  exact ⟨a, c, by rw [h], hv, hb⟩
theorem pack_no {u : Value} {l : List SAct} {w : World} (ha : ActsAt w.heap.size w u l) (hm : l.length ≤ 1073741824) (h : packE l = 17) : Calls Try.prog 11 #[u] w fun e w' => ∃ a c, e = .returned (.tuple #[.slice a 0 c, .int .i64 17]) ∧ BytesAt w'.heap.size w' (.slice a 0 c) [] ∧ Below w.heap.size w w' := by
  have hps : packS l = [] := by unfold packS; rw [h]; rfl
  refine (pack_any u l w ha hm).mono ?_
  rintro e w' ⟨v, rfl, hv, hb⟩
  rw [hps] at hv
  obtain ⟨a, c, rfl, _⟩ := id hv
  exact ⟨a, c, by rw [h]; rfl, hv, hb⟩
/-- What Unpack answers of bytes that are a script's. -/
theorem unpack_yes {v : Value} {bs : List (BitVec 8)} {l : List SAct} {w : World} (hu : BytesAt w.heap.size w v bs) (hl : bs.length ≤ 1099511627776) (h : unpS bs = (l, 0)) : Calls Try.prog 6 #[v] w fun e w' => ∃ a c, e = .returned (.tuple #[.slice a l.length c, .int .i64 0]) ∧ ActsAt w'.heap.size w' (.slice a l.length c) l ∧ Below w.heap.size w w' := by
  refine (unpack_any v bs w hu hl).mono ?_
  rintro e w' ⟨u, rfl, ha, hb⟩
  rw [h] at ha ⊢
  obtain ⟨a, c, rfl, _⟩ := ha.slice
  exact ⟨a, c, rfl, ha, hb⟩
theorem unpack_code {v : Value} {bs : List (BitVec 8)} {k : Int} {w : World} (hu : BytesAt w.heap.size w v bs) (hl : bs.length ≤ 1099511627776) (h : unpS bs = ([], k)) : Calls Try.prog 6 #[v] w fun e w' => ∃ a c, e = .returned (.tuple #[.slice a 0 c, .int .i64 k]) ∧ ActsAt w'.heap.size w' (.slice a 0 c) [] ∧ Below w.heap.size w w' := by
  refine (unpack_any v bs w hu hl).mono ?_
  rintro e w' ⟨u, rfl, ha, hb⟩
  rw [h] at ha ⊢
  obtain ⟨a, c, rfl, _⟩ := ha.slice
  exact ⟨a, c, rfl, ha, hb⟩
set_option maxRecDepth 100000 in
set_option maxHeartbeats 16000000 in
theorem scriptBack_walk (l : List SAct) (v v1 : Value) (bs : List (BitVec 8)) (w : World) (hE : DocsAt w.heap.size w v l) (hm : l.length ≤ maxLen ∧ ∀ x ∈ l, x.wf) (hv : BytesAt w.heap.size w v1 bs) : Calls Try.prog 4 #[v, v1] w (Good w) := by
  obtain ⟨a, c, rfl, hc⟩ := hE.slice
  have HLI := Lib.hid (light_any _ l w hE)
  have HAW := Lib.hid (fun W => awake20 W)
  have HV := Lib.hid hv
  obtain ⟨ab, cb, rfl, hcb, _⟩ := id hv
  clear hv
  cases hli : lightL l with
  | false =>
    rw [hli] at HLI
    clear hE hli
    go_enter Try.func4, Try.ntmps4
    go_wp2_with (go_at_call 10; (with_reducible refine HLI.out.mono ?_); rintro e w1 ⟨rfl, hb⟩; have HB1 := Lib.hid hb; clear hb)
    go_ret
    exact ⟨rfl, HB1.out⟩
  | true =>
    rw [hli] at HLI
    obtain ⟨hl60, hnum, hnumi⟩ := litN hli
    have HE := Lib.hid hE
    have HNI := Lib.hid hnumi
    have HNU := Lib.hid hnum
    have HL60 := Lib.hid hl60
    have HWF := Lib.hid hm.2
    by_cases hbl : bs.length ≤ 2000
    · have HBL := Lib.hid hbl
      have hb1 : (bs.length : Int) ≤ 2000 := by omega
      have HC2 := Lib.hid (unpS_code bs)
      have HAG := Lib.hid (fun l2 (h : unpS bs = (l2, 0)) => unpS_again bs l2 h)
      have HBK := Lib.hid (fun l2 (h : unpS bs = (l2, 0)) => unpS_back bs l2 h)
      have hcode : (∃ l2, unpS bs = (l2, 0)) ∨ (unpS bs = ([], 5) ∨ unpS bs = ([], 9)) := by
        rcases HC2.out with h | h | h
        · exact .inl h
        · exact .inr (.inl h)
        · exact .inr (.inr h.1)
      clear HC2
      rcases packE_two hl60 with hpe | hpe
      · have HPY := Lib.hid (fun (u : Value) (W : World) (hac : ActsAt W.heap.size W u l) => pack_yes hac (by omega) hpe)
        have HUY := Lib.hid (fun (u : Value) (W : World) (hu : BytesAt W.heap.size W u (packS l)) => unpack_yes hu (by have := (packS_len hpe hl60).2; omega) (unpS_pack l hpe hm.2))
        clear hE hli hnum hnumi hl60 hm hpe hbl
        obtain ⟨p, hp⟩ : ∃ p, packS l = p := ⟨_, rfl⟩
        rw [hp] at HPY HUY
        clear hp
        obtain ⟨L, hL⟩ : ∃ L, p.length = L := ⟨_, rfl⟩
        rw [hL] at HPY
        clear hL
        rcases hcode with ⟨l2, h2⟩ | h2 | h2
        · have HU2 := Lib.hid (fun (W : World) (hu : BytesAt W.heap.size W (.slice ab bs.length cb) bs) => unpack_yes hu (by have := HBL.out; omega) h2)
          have HP2 := Lib.hid (fun (u : Value) (W : World) (hac : ActsAt W.heap.size W u l2) => by
            have := pack_yes hac (by have := (HBK.out l2 h2).2.1; omega) (HAG.out l2 h2).1
            rw [(HAG.out l2 h2).2] at this
            exact this)
          clear h2 HAG HBK
          obtain ⟨n2, hn2⟩ : ∃ n, l2.length = n := ⟨_, rfl⟩
          rw [hn2] at HU2
          clear hn2
          go_enter Try.func4, Try.ntmps4
          go_wp2_with (first
            | (go_at_call 10; (with_reducible refine HLI.out.mono ?_); rintro e w1 ⟨rfl, hb⟩; have HB1 := Lib.hid hb; have HOF := Lib.hid (of_any _ l w1 (HE.out.next HB1.out) (by have := HL60.out; omega) HNI.out); clear hb)
            | (go_at_call 12; (with_reducible refine HOF.out.mono ?_); rintro e w2 ⟨a2, c2, rfl, hac, hb⟩; have HB2 := Lib.hid (HB1.out.trans (hb.mono HB1.out.size)); have HPK := Lib.hid (HPY.out _ w2 hac); clear hb hac)
            | (go_at_call 11; (first
                | ((with_reducible refine HPQ.out.mono ?_); rintro e w7 ⟨a7, c7, rfl, hu, hb⟩; have HB7 := Lib.hid (HB6.out.trans (hb.mono HB6.out.size)); have cv1 := conv_str hu; have cv2 := conv_str ((HV.out.below HB7.out).mono HB7.out.size); have hss := str_self (strB bs); clear hb hu)
                | ((with_reducible refine HPK.out.mono ?_); rintro e w3 ⟨a3, c3, rfl, hu, hb⟩; have HB3 := Lib.hid (HB2.out.trans (hb.mono HB2.out.size)); have HUK := Lib.hid (HUY.out _ w3 hu); clear hb hu)))
            | (go_at_call 6; first
                | ((with_reducible refine HUQ.out.mono ?_); rintro e w6 ⟨a6, c6, rfl, hac, hb⟩; have HB6 := Lib.hid (HBT.out.trans (hb.mono HBT.out.size)); have HPQ := Lib.hid (HP2.out _ w6 hac); clear hb hac)
                | ((with_reducible refine HUK.out.mono ?_); rintro e w4 ⟨a4, c4, rfl, hac, hb⟩; have HB4 := Lib.hid (HB3.out.trans (hb.mono HB3.out.size)); have HTO := Lib.hid (told_yes _ _ l w4 hac ((HE.out.below HB4.out).mono HB4.out.size) (by have := HL60.out; omega) (fun x hx => by have := HNU.out x hx; omega)); clear hb hac))
            | (go_at_call 8; (with_reducible refine HTO.out.mono ?_); rintro e w5 ⟨rfl, hb⟩; have HBT := Lib.hid (HB4.out.trans (hb.mono HB4.out.size)); have HUQ := Lib.hid (HU2.out w5 ((HV.out.below HBT.out).mono HBT.out.size)); clear hb)
            | (go_at_call 9; (with_reducible refine (HAW.out _).mono ?_); rintro e w8 ⟨rfl, hb⟩; have HB8 := Lib.hid (HB7.out.trans (hb.mono HB7.out.size)); clear hb))
          go_ret
          exact ⟨rfl, HB8.out⟩
        · have HU2 := Lib.hid (fun (W : World) (hu : BytesAt W.heap.size W (.slice ab bs.length cb) bs) => unpack_code hu (by have := HBL.out; omega) h2)
          have HP2 := Lib.hid (fun (u : Value) (W : World) (hac : ActsAt W.heap.size W u []) => pack_yes (l := []) hac (by simp) (by decide))
          clear h2 HAG HBK
          go_enter Try.func4, Try.ntmps4
          go_wp2_with (first
            | (go_at_call 10; (with_reducible refine HLI.out.mono ?_); rintro e w1 ⟨rfl, hb⟩; have HB1 := Lib.hid hb; have HOF := Lib.hid (of_any _ l w1 (HE.out.next HB1.out) (by have := HL60.out; omega) HNI.out); clear hb)
            | (go_at_call 12; (with_reducible refine HOF.out.mono ?_); rintro e w2 ⟨a2, c2, rfl, hac, hb⟩; have HB2 := Lib.hid (HB1.out.trans (hb.mono HB1.out.size)); have HPK := Lib.hid (HPY.out _ w2 hac); clear hb hac)
            | (go_at_call 11; (first
                | ((with_reducible refine HPQ.out.mono ?_); rintro e w7 ⟨a7, c7, rfl, hu, hb⟩; have HB7 := Lib.hid (HB6.out.trans (hb.mono HB6.out.size)); clear hb hu)
                | ((with_reducible refine HPK.out.mono ?_); rintro e w3 ⟨a3, c3, rfl, hu, hb⟩; have HB3 := Lib.hid (HB2.out.trans (hb.mono HB2.out.size)); have HUK := Lib.hid (HUY.out _ w3 hu); clear hb hu)))
            | (go_at_call 6; first
                | ((with_reducible refine HUQ.out.mono ?_); rintro e w6 ⟨a6, c6, rfl, hac, hb⟩; have HB6 := Lib.hid (HBT.out.trans (hb.mono HBT.out.size)); have HPQ := Lib.hid (HP2.out _ w6 hac); clear hb hac)
                | ((with_reducible refine HUK.out.mono ?_); rintro e w4 ⟨a4, c4, rfl, hac, hb⟩; have HB4 := Lib.hid (HB3.out.trans (hb.mono HB3.out.size)); have HTO := Lib.hid (told_yes _ _ l w4 hac ((HE.out.below HB4.out).mono HB4.out.size) (by have := HL60.out; omega) (fun x hx => by have := HNU.out x hx; omega)); clear hb hac))
            | (go_at_call 8; (with_reducible refine HTO.out.mono ?_); rintro e w5 ⟨rfl, hb⟩; have HBT := Lib.hid (HB4.out.trans (hb.mono HB4.out.size)); have HUQ := Lib.hid (HU2.out w5 ((HV.out.below HBT.out).mono HBT.out.size)); clear hb)
            | (go_at_call 9; (with_reducible refine (HAW.out _).mono ?_); rintro e w8 ⟨rfl, hb⟩; have HB8 := Lib.hid (HB7.out.trans (hb.mono HB7.out.size)); clear hb))
          go_ret
          exact ⟨rfl, HB8.out⟩
        · have HU2 := Lib.hid (fun (W : World) (hu : BytesAt W.heap.size W (.slice ab bs.length cb) bs) => unpack_code hu (by have := HBL.out; omega) h2)
          have HP2 := Lib.hid (fun (u : Value) (W : World) (hac : ActsAt W.heap.size W u []) => pack_yes (l := []) hac (by simp) (by decide))
          clear h2 HAG HBK
          go_enter Try.func4, Try.ntmps4
          go_wp2_with (first
            | (go_at_call 10; (with_reducible refine HLI.out.mono ?_); rintro e w1 ⟨rfl, hb⟩; have HB1 := Lib.hid hb; have HOF := Lib.hid (of_any _ l w1 (HE.out.next HB1.out) (by have := HL60.out; omega) HNI.out); clear hb)
            | (go_at_call 12; (with_reducible refine HOF.out.mono ?_); rintro e w2 ⟨a2, c2, rfl, hac, hb⟩; have HB2 := Lib.hid (HB1.out.trans (hb.mono HB1.out.size)); have HPK := Lib.hid (HPY.out _ w2 hac); clear hb hac)
            | (go_at_call 11; (first
                | ((with_reducible refine HPQ.out.mono ?_); rintro e w7 ⟨a7, c7, rfl, hu, hb⟩; have HB7 := Lib.hid (HB6.out.trans (hb.mono HB6.out.size)); clear hb hu)
                | ((with_reducible refine HPK.out.mono ?_); rintro e w3 ⟨a3, c3, rfl, hu, hb⟩; have HB3 := Lib.hid (HB2.out.trans (hb.mono HB2.out.size)); have HUK := Lib.hid (HUY.out _ w3 hu); clear hb hu)))
            | (go_at_call 6; first
                | ((with_reducible refine HUQ.out.mono ?_); rintro e w6 ⟨a6, c6, rfl, hac, hb⟩; have HB6 := Lib.hid (HBT.out.trans (hb.mono HBT.out.size)); have HPQ := Lib.hid (HP2.out _ w6 hac); clear hb hac)
                | ((with_reducible refine HUK.out.mono ?_); rintro e w4 ⟨a4, c4, rfl, hac, hb⟩; have HB4 := Lib.hid (HB3.out.trans (hb.mono HB3.out.size)); have HTO := Lib.hid (told_yes _ _ l w4 hac ((HE.out.below HB4.out).mono HB4.out.size) (by have := HL60.out; omega) (fun x hx => by have := HNU.out x hx; omega)); clear hb hac))
            | (go_at_call 8; (with_reducible refine HTO.out.mono ?_); rintro e w5 ⟨rfl, hb⟩; have HBT := Lib.hid (HB4.out.trans (hb.mono HB4.out.size)); have HUQ := Lib.hid (HU2.out w5 ((HV.out.below HBT.out).mono HBT.out.size)); clear hb)
            | (go_at_call 9; (with_reducible refine (HAW.out _).mono ?_); rintro e w8 ⟨rfl, hb⟩; have HB8 := Lib.hid (HB7.out.trans (hb.mono HB7.out.size)); clear hb))
          go_ret
          exact ⟨rfl, HB8.out⟩
      · have HPY := Lib.hid (fun (u : Value) (W : World) (hac : ActsAt W.heap.size W u l) => pack_no hac (by omega) hpe)
        have HUY := Lib.hid (fun (u : Value) (W : World) (hu : BytesAt W.heap.size W u []) => unpack_code (k := 5) hu (by simp) unpS_nil)
        clear hE hli hnum hnumi hl60 hm hpe hbl
        rcases hcode with ⟨l2, h2⟩ | h2 | h2
        · have HU2 := Lib.hid (fun (W : World) (hu : BytesAt W.heap.size W (.slice ab bs.length cb) bs) => unpack_yes hu (by have := HBL.out; omega) h2)
          have HP2 := Lib.hid (fun (u : Value) (W : World) (hac : ActsAt W.heap.size W u l2) => by
            have := pack_yes hac (by have := (HBK.out l2 h2).2.1; omega) (HAG.out l2 h2).1
            rw [(HAG.out l2 h2).2] at this
            exact this)
          clear h2 HAG HBK
          obtain ⟨n2, hn2⟩ : ∃ n, l2.length = n := ⟨_, rfl⟩
          rw [hn2] at HU2
          clear hn2
          go_enter Try.func4, Try.ntmps4
          go_wp2_with (first
            | (go_at_call 10; (with_reducible refine HLI.out.mono ?_); rintro e w1 ⟨rfl, hb⟩; have HB1 := Lib.hid hb; have HOF := Lib.hid (of_any _ l w1 (HE.out.next HB1.out) (by have := HL60.out; omega) HNI.out); clear hb)
            | (go_at_call 12; (with_reducible refine HOF.out.mono ?_); rintro e w2 ⟨a2, c2, rfl, hac, hb⟩; have HB2 := Lib.hid (HB1.out.trans (hb.mono HB1.out.size)); have HPK := Lib.hid (HPY.out _ w2 hac); clear hb hac)
            | (go_at_call 11; (first
                | ((with_reducible refine HPQ.out.mono ?_); rintro e w7 ⟨a7, c7, rfl, hu, hb⟩; have HB7 := Lib.hid (HB6.out.trans (hb.mono HB6.out.size)); have cv1 := conv_str hu; have cv2 := conv_str ((HV.out.below HB7.out).mono HB7.out.size); have hss := str_self (strB bs); clear hb hu)
                | ((with_reducible refine HPK.out.mono ?_); rintro e w3 ⟨a3, c3, rfl, hu, hb⟩; have HB3 := Lib.hid (HB2.out.trans (hb.mono HB2.out.size)); have HUK := Lib.hid (HUY.out _ w3 hu); clear hb hu)))
            | (go_at_call 6; first
                | ((with_reducible refine HUQ.out.mono ?_); rintro e w6 ⟨a6, c6, rfl, hac, hb⟩; have HB6 := Lib.hid (HBT.out.trans (hb.mono HBT.out.size)); have HPQ := Lib.hid (HP2.out _ w6 hac); clear hb hac)
                | ((with_reducible refine HUK.out.mono ?_); rintro e w4 ⟨a4, c4, rfl, hac, hb⟩; have HB4 := Lib.hid (HB3.out.trans (hb.mono HB3.out.size)); have HBT := HB4; have HUQ := Lib.hid (HU2.out w4 ((HV.out.below HBT.out).mono HBT.out.size)); clear hb hac))
            | (go_at_call 8; (with_reducible refine HTO.out.mono ?_); rintro e w5 ⟨rfl, hb⟩; have HBT := Lib.hid (HB4.out.trans (hb.mono HB4.out.size)); have HUQ := Lib.hid (HU2.out w5 ((HV.out.below HBT.out).mono HBT.out.size)); clear hb)
            | (go_at_call 9; (with_reducible refine (HAW.out _).mono ?_); rintro e w8 ⟨rfl, hb⟩; have HB8 := Lib.hid (HB7.out.trans (hb.mono HB7.out.size)); clear hb))
          go_ret
          exact ⟨rfl, HB8.out⟩
        · have HU2 := Lib.hid (fun (W : World) (hu : BytesAt W.heap.size W (.slice ab bs.length cb) bs) => unpack_code hu (by have := HBL.out; omega) h2)
          have HP2 := Lib.hid (fun (u : Value) (W : World) (hac : ActsAt W.heap.size W u []) => pack_yes (l := []) hac (by simp) (by decide))
          clear h2 HAG HBK
          go_enter Try.func4, Try.ntmps4
          go_wp2_with (first
            | (go_at_call 10; (with_reducible refine HLI.out.mono ?_); rintro e w1 ⟨rfl, hb⟩; have HB1 := Lib.hid hb; have HOF := Lib.hid (of_any _ l w1 (HE.out.next HB1.out) (by have := HL60.out; omega) HNI.out); clear hb)
            | (go_at_call 12; (with_reducible refine HOF.out.mono ?_); rintro e w2 ⟨a2, c2, rfl, hac, hb⟩; have HB2 := Lib.hid (HB1.out.trans (hb.mono HB1.out.size)); have HPK := Lib.hid (HPY.out _ w2 hac); clear hb hac)
            | (go_at_call 11; (first
                | ((with_reducible refine HPQ.out.mono ?_); rintro e w7 ⟨a7, c7, rfl, hu, hb⟩; have HB7 := Lib.hid (HB6.out.trans (hb.mono HB6.out.size)); clear hb hu)
                | ((with_reducible refine HPK.out.mono ?_); rintro e w3 ⟨a3, c3, rfl, hu, hb⟩; have HB3 := Lib.hid (HB2.out.trans (hb.mono HB2.out.size)); have HUK := Lib.hid (HUY.out _ w3 hu); clear hb hu)))
            | (go_at_call 6; first
                | ((with_reducible refine HUQ.out.mono ?_); rintro e w6 ⟨a6, c6, rfl, hac, hb⟩; have HB6 := Lib.hid (HBT.out.trans (hb.mono HBT.out.size)); have HPQ := Lib.hid (HP2.out _ w6 hac); clear hb hac)
                | ((with_reducible refine HUK.out.mono ?_); rintro e w4 ⟨a4, c4, rfl, hac, hb⟩; have HB4 := Lib.hid (HB3.out.trans (hb.mono HB3.out.size)); have HBT := HB4; have HUQ := Lib.hid (HU2.out w4 ((HV.out.below HBT.out).mono HBT.out.size)); clear hb hac))
            | (go_at_call 8; (with_reducible refine HTO.out.mono ?_); rintro e w5 ⟨rfl, hb⟩; have HBT := Lib.hid (HB4.out.trans (hb.mono HB4.out.size)); have HUQ := Lib.hid (HU2.out w5 ((HV.out.below HBT.out).mono HBT.out.size)); clear hb)
            | (go_at_call 9; (with_reducible refine (HAW.out _).mono ?_); rintro e w8 ⟨rfl, hb⟩; have HB8 := Lib.hid (HB7.out.trans (hb.mono HB7.out.size)); clear hb))
          go_ret
          exact ⟨rfl, HB8.out⟩
        · have HU2 := Lib.hid (fun (W : World) (hu : BytesAt W.heap.size W (.slice ab bs.length cb) bs) => unpack_code hu (by have := HBL.out; omega) h2)
          have HP2 := Lib.hid (fun (u : Value) (W : World) (hac : ActsAt W.heap.size W u []) => pack_yes (l := []) hac (by simp) (by decide))
          clear h2 HAG HBK
          go_enter Try.func4, Try.ntmps4
          go_wp2_with (first
            | (go_at_call 10; (with_reducible refine HLI.out.mono ?_); rintro e w1 ⟨rfl, hb⟩; have HB1 := Lib.hid hb; have HOF := Lib.hid (of_any _ l w1 (HE.out.next HB1.out) (by have := HL60.out; omega) HNI.out); clear hb)
            | (go_at_call 12; (with_reducible refine HOF.out.mono ?_); rintro e w2 ⟨a2, c2, rfl, hac, hb⟩; have HB2 := Lib.hid (HB1.out.trans (hb.mono HB1.out.size)); have HPK := Lib.hid (HPY.out _ w2 hac); clear hb hac)
            | (go_at_call 11; (first
                | ((with_reducible refine HPQ.out.mono ?_); rintro e w7 ⟨a7, c7, rfl, hu, hb⟩; have HB7 := Lib.hid (HB6.out.trans (hb.mono HB6.out.size)); clear hb hu)
                | ((with_reducible refine HPK.out.mono ?_); rintro e w3 ⟨a3, c3, rfl, hu, hb⟩; have HB3 := Lib.hid (HB2.out.trans (hb.mono HB2.out.size)); have HUK := Lib.hid (HUY.out _ w3 hu); clear hb hu)))
            | (go_at_call 6; first
                | ((with_reducible refine HUQ.out.mono ?_); rintro e w6 ⟨a6, c6, rfl, hac, hb⟩; have HB6 := Lib.hid (HBT.out.trans (hb.mono HBT.out.size)); have HPQ := Lib.hid (HP2.out _ w6 hac); clear hb hac)
                | ((with_reducible refine HUK.out.mono ?_); rintro e w4 ⟨a4, c4, rfl, hac, hb⟩; have HB4 := Lib.hid (HB3.out.trans (hb.mono HB3.out.size)); have HBT := HB4; have HUQ := Lib.hid (HU2.out w4 ((HV.out.below HBT.out).mono HBT.out.size)); clear hb hac))
            | (go_at_call 8; (with_reducible refine HTO.out.mono ?_); rintro e w5 ⟨rfl, hb⟩; have HBT := Lib.hid (HB4.out.trans (hb.mono HB4.out.size)); have HUQ := Lib.hid (HU2.out w5 ((HV.out.below HBT.out).mono HBT.out.size)); clear hb)
            | (go_at_call 9; (with_reducible refine (HAW.out _).mono ?_); rintro e w8 ⟨rfl, hb⟩; have HB8 := Lib.hid (HB7.out.trans (hb.mono HB7.out.size)); clear hb))
          go_ret
          exact ⟨rfl, HB8.out⟩
    · have hb1 : 2000 < (bs.length : Int) := by omega
      clear hE hli hnum hnumi hl60 hm hbl
      go_enter Try.func4, Try.ntmps4
      go_wp2_with (go_at_call 10; (with_reducible refine HLI.out.mono ?_); rintro e w1 ⟨rfl, hb⟩; have HB1 := Lib.hid hb; clear hb)
      go_ret
      exact ⟨rfl, HB1.out⟩
set_option maxRecDepth 100000 in
theorem scriptBack_lifted (os : Os) (started : os.Started) (H : Type) (enc : TypeId × Value → H) :
    ReturnsInHanded {} Try.checked os 4 .any (Rows.scriptBackSpec.pre6 enc Try.prog Try.f4 Rows.scriptBackRow.domain false) (Rows.scriptBackSpec.post enc Try.prog Try.f4 false true false false) :=
  law_lifted 4 Try.f4 Rows.scriptBackSpec Try.func4 (by kernel_rfl) rfl rfl
    (fun ds h => by match ds, h with | [_, _], _ => rfl) (by kernel_rfl) os started
    (ChangeSpec.witness6 (enc := enc) (C := Try.checked) false ⟨#[], #[.slice none 0 0, .slice none 0 0], []⟩ 8 (by kernel_rfl) (by kernel_rfl) (by kernel_rfl) (by kernel_rfl))
    fun W args ds ps hval hA => by
      rw [Try.params4] at hA hval
      obtain ⟨v0, vs0, d0, ds0, p0, q0, hargs, rfl, rfl, h0, r0⟩ := trodAll_cons hA
      obtain ⟨v1, vs1, d1, ds1, p1, q1, rfl, rfl, rfl, h1, r1⟩ := trodAll_cons r0
      obtain ⟨rfl, rfl, rfl⟩ := trodAll_nil r1
      obtain rfl : args = #[v0, v1] := by cases args; simp_all
      obtain ⟨b0, o0⟩ := hval 0 _ v0 rfl rfl
      obtain ⟨b1, o1⟩ := hval 1 _ v1 rfl rfl
      obtain ⟨l0, hb0, hm0⟩ := open_docs o0 h0
      obtain ⟨bs1, hb1, hm1⟩ := open_bytes o1 h1
      exact scriptBack_walk l0 v0 v1 bs1 W hb0 hm0 hb1

/-- The statement. -/
theorem scriptBack_holds : Rows.ScriptBackSaid :=
  OpenClaim.holds_of_wide 4 Try.f4 rfl rfl rfl rfl rfl rfl rfl ⟨rfl, rfl, rfl, rfl, rfl⟩ rfl rfl rfl rfl rfl (by kernel_rfl) Try.func4 (by kernel_rfl)
    (of_decide_eq_true (by kernel_rfl)) (by unfold Func.isWrapper; first | (rw [if_pos (by decide +kernel)]; kernel_rfl) | (rw [if_neg (by decide +kernel)]; exact ⟨rfl, rfl⟩))
    (fun os started H enc _ => scriptBack_lifted os started H enc)
#print axioms scriptBack_holds

end Go.Proofs.Ytgaabclgoolalaa

/-
  Proved: a tally, whatever is counted, has the counts of the document. Whatever number of kinds, things and earlier counts come in, the law TallyCounts answers true and the arguments read as they did.
  Conditions: none.
-/
import Derived.Test.YtjcpiljgbomceaaTalRef
import Derived.Test.YtjcpiljgbomceaaPairs
import Derived.Test.YtjcpiljgbomceaaQuietB
import Derived.Deep.RegionHeld3
namespace Go.Proofs.Ytjcpiljgbomceaa
open Go.ChangeShapes Go.WideShapes Go.ChangeAt Go.RowKit

theorem new_at (n : Nat) (h1 : 1 ≤ n) (h2 : n ≤ 64) (w : World) {m : Int} (hm : m = n) :
    Calls Try.prog 7 #[.int .i64 m] w fun e w' => e = .returned (.pointer (some ⟨w.heap.size + 1, 0, none⟩)) ∧ TalAt w' (w.heap.size + 1) w.heap.size (List.replicate n 0) ∧ Below w.heap.size w w' := hm ▸ new_any n h1 h2 w
/-- What holds at a round's head: the tally, and the reference's row beside it. -/
def BothAt (w W : World) (n : Nat) (v : Value) : Prop := ∃ cs, TalAt W (w.heap.size + 1) w.heap.size cs ∧ cs.length = n ∧ IntsAt W.heap.size W v cs ∧ (∀ b, v.ownBlock = some b → b ≠ w.heap.size) ∧ Below w.heap.size w W
theorem IntsAt.moved {n : Nat} {S : Nat → Prop} {w w' : World} {v : Value} {l : List Int} (h : IntsAt n w v l) (hm : Moves S w w') (hn : n ≤ w.heap.size) (hv : ∀ b, v.ownBlock = some b → ¬ S b) : IntsAt n w' v l :=
  h.keep (Nat.le_refl _) fun p e hp => hm.cell (by omega) (hv _ e)
theorem get_no {w : World} {p : Value} {l : List Int} (h : TalIs w p l) {i : Int} (hi : i < 0 ∨ (l.length : Int) ≤ i) :
    Calls Try.prog 12 #[p, .int .i64 i] w fun e w' => e = .returned (.int .i64 0) ∧ Below w.heap.size w w' := by
  have := get_any h i
  unfold getK at this
  rw [hasK_no hi] at this
  simpa using this
theorem get_yes {w : World} {p : Value} {l : List Int} (h : TalIs w p l) {i : Nat} (hi : i < l.length) :
    Calls Try.prog 12 #[p, .int .i64 i] w fun e w' => e = .returned (.int .i64 (l[i]?.getD 0)) ∧ Below w.heap.size w w' := by
  have := get_any h i
  unfold getK at this
  rw [hasK_yes hi] at this
  simpa using this
theorem made_at (W : World) (k : Nat) : IntsAt (W.alloc (.cells (ints (List.replicate k 0)).toArray 3)).heap.size (W.alloc (.cells (ints (List.replicate k 0)).toArray 3)) (.slice (some ⟨W.heap.size, 0, none⟩) k k) (List.replicate k 0) := by
  have := IntsAt.of_blk (heap_alloc_new W (.cells (ints (List.replicate k 0)).toArray 3))
  rwa [List.length_replicate] at this
theorem same_any2 {w9 : World} {u : Value} {l : List Int} (hi : IntsAt w9.heap.size w9 u l) (W : World) (v : Value) (hb : Below w9.heap.size w9 W) (hv : IntsAt W.heap.size W v l) (hl : l.length ≤ 1024) :
    Calls Try.prog 13 #[u, v] W fun e w' => e = .returned (.bool true) ∧ Below W.heap.size W w' := same_yes (hi.next hb) hv hl
set_option maxRecDepth 100000 in
set_option maxHeartbeats 8000000 in
theorem tallyCounts_walk (kinds : Int) (l : List (Int × Int)) (v : Value) (was : List Int) (u : Value) (w : World) (hv : PairsAt w.heap.size w v l) (hm : l.length ≤ maxLen ∧ ∀ i, i < l.length → (Lit.int .i64 (l[i]?.getD default).1).wf = true ∧ (Lit.int .i64 (l[i]?.getD default).2).wf = true)
    (hu : IntsAt w.heap.size w u was) (hwf : was.length ≤ maxLen ∧ ∀ x ∈ was, (Lit.int .i64 x).wf = true) : Calls Try.prog 3 #[.int .i64 kinds, v, u] w (Good w) := by
  obtain ⟨hm, hlw⟩ := hm
  obtain ⟨hm2, hwf⟩ := hwf
  unfold maxLen at hm hm2
  obtain ⟨a, cap, rfl⟩ : ∃ a cap, v = .slice a l.length cap := by obtain ⟨a, cap, e, _⟩ := hv; exact ⟨a, cap, e⟩
  obtain ⟨b, cap2, rfl⟩ := hu.slice
  by_cases hbig : 100 < l.length
  · have b1 : (100 : Int) < l.length := by omega
    clear hwf hv hu hlw
    go_enter Try.func3, Try.ntmps3
    go_wp2
    go_ret
    exact ⟨rfl, Below.refl _ _⟩
  by_cases hbig2 : 100 < was.length
  · have b0 : (l.length : Int) ≤ 100 := by omega
    have b1 : (100 : Int) < was.length := by omega
    clear hwf hv hu hlw hbig
    go_enter Try.func3, Try.ntmps3
    go_wp2
    go_ret
    exact ⟨rfl, Below.refl _ _⟩
  have b1 : (l.length : Int) ≤ 100 := by omega
  have b2 : (was.length : Int) ≤ 100 := by omega
  by_cases hk : kinds < 1 ∨ 64 < kinds
  · have HN := Lib.hid (new_not kinds hk w)
    clear hv hu hwf hlw hbig hbig2
    rcases hk with hk | hk
    · go_enter Try.func3, Try.ntmps3
      go_wp2_with (first
        | (go_at_call 7; (with_reducible refine HN.out.mono ?_); rintro e w' ⟨rfl, rfl⟩)
        | (go_at_call 8; (with_reducible refine (all_nil _).mono ?_); rintro e w2 ⟨v, rfl, hi, hf, hb2⟩; obtain ⟨a2, c2, rfl⟩ := hi.slice; have HB2 := Lib.hid hb2; clear hi hf hb2)
        | (go_at_call 9; (with_reducible refine (awake16 _).mono ?_); rintro e w4 ⟨rfl, hb4⟩; have HB4 := Lib.hid hb4; clear hb4))
      go_ret
      exact ⟨rfl, HB2.out.trans (HB4.out.mono HB2.out.size)⟩
    · have hk1 : 1 ≤ kinds := by omega
      go_enter Try.func3, Try.ntmps3
      go_wp2_with (first
        | (go_at_call 7; (with_reducible refine HN.out.mono ?_); rintro e w' ⟨rfl, rfl⟩)
        | (go_at_call 8; (with_reducible refine (all_nil _).mono ?_); rintro e w2 ⟨v, rfl, hi, hf, hb2⟩; obtain ⟨a2, c2, rfl⟩ := hi.slice; have HB2 := Lib.hid hb2; clear hi hf hb2)
        | (go_at_call 9; (with_reducible refine (awake16 _).mono ?_); rintro e w4 ⟨rfl, hb4⟩; have HB4 := Lib.hid hb4; clear hb4))
      go_ret
      exact ⟨rfl, HB2.out.trans (HB4.out.mono HB2.out.size)⟩
  obtain ⟨n, rfl⟩ := Int.eq_ofNat_of_zero_le (a := kinds) (by omega)
  have k1 : (1 : Int) ≤ n := by omega
  have k2 : (n : Int) ≤ 64 := by omega
  have HV := Lib.hid hv
  have HU := Lib.hid hu
  have HWF := Lib.hid hwf
  have HLW := Lib.hid hlw
  have HNEW := Lib.hid (new_any n (by omega) (by omega) w)
  have hmk := makeInts n (by omega)
  clear hv hu hwf hlw hbig hbig2 hk
  go_enter Try.func3, Try.ntmps3
  go_upto_region 7 with (go_at_call 7; (with_reducible refine HNEW.out.mono ?_); rintro e w1 ⟨rfl, h1, hb1⟩)
  have HS1 : Hid (BothAt w (w1.alloc (.cells (ints (List.replicate n 0)).toArray 3)) n (.slice (some ⟨w1.heap.size, 0, none⟩) n n)) := by
    have hbe := (Below.refl w1.heap.size w1).alloc (Nat.le_refl _) (.cells (ints (List.replicate n 0)).toArray 3)
    have hi := IntsAt.of_blk (l := List.replicate n 0) (heap_alloc_new w1 (.cells (ints (List.replicate n 0)).toArray 3))
    rw [List.length_replicate] at hi
    exact ⟨_, h1.same hbe, by simp, hi, fun b e => by
      have e' : w1.heap.size = b := by simpa [Value.ownBlock] using e
      have := blk_lt h1.row
      omega, hb1.trans (hbe.mono hb1.size)⟩
  clear h1 hb1 HNEW
  generalize w1.alloc (.cells (ints (List.replicate n 0)).toArray 3) = wa at *
  generalize Value.slice (some ⟨w1.heap.size, 0, none⟩) n n = ra at *
  go_wp2
  go_loopw [9, 8] (fun iv rv wr => ∃ k : Nat, k ≤ l.length ∧ iv = .int .i64 k ∧ BothAt w wr n rv) (fun iv _ _ => l.length - (intOf iv).toNat)
  case atStart => exact ⟨0, by omega, rfl, HS1.out⟩
  case round =>
    obtain ⟨k, hk, rfl, cs, hT, hcl, hI, hne, hB⟩ := hrel
    obtain ⟨rA, rC, rfl⟩ := hI.slice
    by_cases hlt : k < l.length
    · have i1 : (k : Int) < l.length := by omega
      obtain ⟨g, off, rfl, hg, c0, c1⟩ := (HV.out.below hB).get hlt
      obtain ⟨hw1, hw2⟩ := HLW.out k hlt
      have hn2 := (wf_i64 hw2).2
      clear hw1 hw2
      generalize (l[k]?.getD default).1 = i at *
      generalize (l[k]?.getD default).2 = m at *
      have HCC := Lib.hid (fun W (h : Below w.heap.size w W) => (show W.cell? ⟨g, off + k * 2, none⟩ = some (.int .i64 i) ∧ W.cell? ⟨g, off + k * 2 + 1, none⟩ = some (.int .i64 m) from
        ⟨(h.cell (p := ⟨g, _, none⟩) hg).trans ((hB.cell (p := ⟨g, _, none⟩) hg).symm.trans c0), (h.cell (p := ⟨g, _, none⟩) hg).trans ((hB.cell (p := ⟨g, _, none⟩) hg).symm.trans c1)⟩))
      have HB := Lib.hid hB
      have HT := Lib.hid hT
      have HNE := Lib.hid hne
      have HI := Lib.hid hI
      have HCL := Lib.hid hcl
      have HLT := Lib.hid hlt
      have hcl64 := hT.ok.1
      by_cases hok : hasK cs i = true ∧ 0 ≤ m
      · obtain ⟨hk1, hm0⟩ := hok
        obtain ⟨q, rfl, hq⟩ := hasK_nat hk1
        have HREF := Lib.hid (refAdd_any (w := wr.drew) hI hT.ok hq m hm0 hn2)
        have HQ := Lib.hid hq
        have HM0 := Lib.hid hm0
        clear hT hI hne hB hcl hk1 hq hlt hcl64
        go_upto_region 10 with fail
        rename_i K1 hK1
        have HK1 := Lib.hid hK1
        clear hK1
        go_region_held3 (fun W => W.cell? ⟨g, off + k * 2, none⟩ = some (.int .i64 q) ∧ W.cell? ⟨g, off + k * 2 + 1, none⟩ = some (.int .i64 m)) (first | exact ⟨c0, c1⟩ | exact HCC.out _ hB2)
          (first | (go_at_call 10; (with_reducible refine HREF.out.mono ?_); rintro e w2 ⟨v2, rfl, hi2, hf2, hb2⟩; obtain ⟨a2, c2, rfl⟩ := hi2.slice; have hb2' : Below wr.heap.size wr w2 := ⟨hb2.os, hb2.tape, hb2.output, hb2.size, hb2.block⟩; have hB2 := HB.out.trans (hb2'.mono HB.out.size)))
        refine HK1.out _ _ ?_
        clear HK1
        go_upto_region 11 with fail
        have hT2 := HT.out.same hb2'
        obtain ⟨d0, d1⟩ := HCC.out w2.drew hB2.drew
        have HADD := Lib.hid (add_any (w := w2.drew) (hT2.drewN 1) HQ.out m HM0.out hn2)
        have HI2 := Lib.hid hi2
        have HF2 : Hid (∀ b, (Value.slice a2 (addL cs q m).length c2).ownBlock = some b → b ≠ w.heap.size) := fun b e h => by
          have h1 := hf2 b e
          have h2 := blk_lt HT.out.row
          have h3 : wr.heap.size ≤ b := h1
          omega
        have HB2 := Lib.hid hB2
        clear hb2 hb2' hB2 hT2 hi2 hf2 HREF c0 c1 hm0
        go_still_tail 11, (by kernel_rfl)
        change wpList _ _ _ _ _ w2.drew
        go_wp2_with (go_at_call 11; (with_reducible refine HADD.out.mono ?_); rintro e w3 ⟨rfl, h3, m3⟩; have H3 := Lib.hid h3; have M3 := Lib.hid m3; clear h3 m3)
        go_roundw
        case rel =>
          have hmv : Moves (fun b => b = w.heap.size) w2 w3 := ⟨M3.out.os, M3.out.tape, M3.out.output, M3.out.size, M3.out.block⟩
          exact ⟨k + 1, by have := HLT.out; omega, by go_num, addL cs q m, H3.out, by rw [addL_len]; exact HCL.out, (HI2.out.moved hmv (Nat.le_refl _) HF2.out).mono hmv.size, HF2.out, HB2.out.trans (hmv.below (fun b h => by omega) HB2.out.size)⟩
        case measure => have := HLT.out; simp [intOf]; omega
      · have hno : hasK cs i = false ∨ m < 0 := by
          by_cases h : hasK cs i = true
          · exact .inr (by
              by_cases h2 : 0 ≤ m
              · exact absurd ⟨h, h2⟩ hok
              · omega)
          · exact .inl (by simpa using h)
        have HREF := Lib.hid (refAdd_not (w := wr.drew) hI hcl64 i m hno)
        have HADD := Lib.hid (add_not (w := wr.drew.drew) (.inr ⟨_, _, rfl, (hT.drewN 1).drewN 1⟩) i m hno)
        clear hT hI hne hB hcl hok hno hlt hcl64
        go_upto_region 10 with fail
        rename_i K1 hK1
        have HK1 := Lib.hid hK1
        clear hK1
        have hB2 := HB.out.drew
        go_region_held3 (fun W => W.cell? ⟨g, off + k * 2, none⟩ = some (.int .i64 i) ∧ W.cell? ⟨g, off + k * 2 + 1, none⟩ = some (.int .i64 m)) (exact ⟨c0, c1⟩)
          (first | (go_at_call 10; (with_reducible refine HREF.out.mono ?_); rintro e w2 ⟨rfl, rfl⟩))
        refine HK1.out _ _ ?_
        clear HK1
        go_upto_region 11 with fail
        have d0 : wr.drew.cell? ⟨g, off + k * 2, none⟩ = some (.int .i64 i) := c0
        have d1 : wr.drew.cell? ⟨g, off + k * 2 + 1, none⟩ = some (.int .i64 m) := c1
        have HT3 : Hid (TalAt wr.drew (w.heap.size + 1) w.heap.size cs) := HT.out.drewN 1
        have HI3 : Hid (IntsAt wr.drew.heap.size wr.drew (.slice rA cs.length rC) cs) := HI.out
        have HB3 := Lib.hid (HB.out.drew)
        clear c0 c1 HREF HCC hB2 HT HI HB
        obtain ⟨W2, hW2⟩ : ∃ W2, wr.drew = W2 := ⟨_, rfl⟩
        rw [hW2] at d0 d1 HT3 HI3 HB3 HADD ⊢
        clear hW2
        go_still_tail 11, (by kernel_rfl)
        change wpList _ _ _ _ _ W2.drew
        go_wp2_with (go_at_call 11; (with_reducible refine HADD.out.mono ?_); rintro e w3 ⟨rfl, rfl⟩)
        go_roundw
        case rel => exact ⟨k + 1, by have := HLT.out; omega, by go_num, cs, HT3.out.drewN 1, HCL.out, HI3.out, HNE.out, HB3.out.drew⟩
        case measure => have := HLT.out; simp [intOf]; omega
    · obtain rfl : k = l.length := by omega
      have HB := Lib.hid hB
      have HT := Lib.hid hT
      have HI := Lib.hid hI
      have HCL := Lib.hid hcl
      have HUU := Lib.hid (HU.out.below hB)
      clear hT hI hne hB hcl hlt hk HS1 HV HLW
      generalize wr = wz at *
      clear wr
      go_wp2
      go_loopw [13] (fun iv W => ∃ k : Nat, k ≤ n ∧ iv = .int .i64 k ∧ Below wz.heap.size wz W) (fun iv _ => n - (intOf iv).toNat)
      case atStart => exact ⟨0, by omega, rfl, Below.refl _ _⟩
      case round =>
        obtain ⟨k, hk, rfl, hZ⟩ := hrel
        by_cases hlt : k < n
        · have i1 : (k : Int) < n := by omega
          have hlc : k < cs.length := by rw [HCL.out]; exact hlt
          have i2 : (k : Int) < cs.length := by omega
          obtain ⟨g2, o2, rfl, hg2, q0⟩ := (HI.out.below hZ).get hlc
          have HG := Lib.hid (fun p : After wr => get_yes (w := p.v) (.inr ⟨_, _, rfl, HT.out.same (hZ.trans (p.h.mono hZ.size))⟩) hlc)
          generalize (cs[k]?.getD 0) = x at *
          have qq := after_cell q0
          have HZ := Lib.hid hZ
          clear hZ q0
          go_upto_region 18 with fail
          refine wp_region_after (by kernel_rfl) (by kernel_rfl) ?_
          repeat (go_big_quiet_step ((go_at_call 12; with_reducible exact after_call (HG.out _))))
          refine wpQuiet_nil ?_
          rintro W9 ⟨⟨_, hW9⟩, rfl⟩
          have HW9 := Lib.hid (HZ.out.trans (hW9.mono HZ.out.size))
          clear hW9 qq HG
          go_wp2
          go_roundw
          case rel => exact ⟨k + 1, by omega, by go_num, HW9.out⟩
          case measure => simp [intOf]; omega
        · obtain rfl : k = n := by omega
          have HTI := Lib.hid (fun W (h : Below wz.heap.size wz W) => (HT.out.same h))
          have HTJ : Hid (∀ W, Below wz.heap.size wz W → TalIs W (.pointer (some ⟨w.heap.size + 1, 0, none⟩)) cs) := fun W h => .inr ⟨_, _, rfl, HT.out.same h⟩
          have HM1 : Hid ((-1 : Int) < 0 ∨ (cs.length : Int) ≤ -1) := .inl (by decide)
          have HM2 : Hid (((k : Nat) : Int) < 0 ∨ (cs.length : Int) ≤ (k : Nat)) := .inr (by have := HCL.out; omega)
          have HRI := Lib.hid (fun W (h : Below wz.heap.size wz W) => HI.out.next h)
          have HUI := Lib.hid (fun W (h : Below wz.heap.size wz W) => (HUU.out.below (h.mono HB.out.size)).mono (Nat.le_trans HB.out.size h.size))
          have HLN : Hid ((cs.length : Int) ≤ (k : Nat)) := by unfold Hid; have := HCL.out; omega
          have hc64 := HT.out.ok.1
          have HC64 : Hid (cs.length ≤ 1024) := by unfold Hid; omega
          have hcp : 0 < cs.length := by have := HCL.out; omega
          have HOK := Lib.hid HT.out.ok
          have HWK := Lib.hid (wasK_ok HWF.out)
          have H0 := Lib.hid hZ
          have hwl : was.length ≤ 1073741824 := by omega
          have HSL := Lib.hid (show (sinceL cs was).length ≤ 1024 by simp [sinceL, doneI]; omega)
          clear hZ hlt hk
          go_upto_region 23 with (first
            | (go_at_call 12; (with_reducible refine (get_no (HTJ.out _ H0.out) HM1.out).mono ?_); rintro e w1 ⟨rfl, hb⟩; have H1 := Lib.hid (H0.out.trans (hb.mono H0.out.size)); clear H0 hb)
            | (go_at_call 12; (with_reducible refine (get_no (HTJ.out _ H1.out) HM2.out).mono ?_); rintro e w2 ⟨rfl, hb⟩; have H2 := Lib.hid (H1.out.trans (hb.mono H1.out.size)); clear H1 hb)
            | (go_at_call 8; (with_reducible refine (All_any (HTJ.out _ H2.out)).mono ?_); rintro e w3 ⟨v3, rfl, hi, hf, hb⟩; have H3 := Lib.hid (H2.out.trans (hb.mono H2.out.size)); have HI3 := Lib.hid hi; obtain ⟨a3, c3, rfl⟩ := hi.slice; clear H2 hb hf hi)
            | (go_at_call 13; (with_reducible refine (same_yes HI3.out (HRI.out _ H3.out) HC64.out).mono ?_); rintro e w4 ⟨rfl, hb⟩; have H4 := Lib.hid (H3.out.trans (hb.mono H3.out.size)); clear H3 HI3 hb)
            | (go_at_call 14; (with_reducible refine (Since_any (HTJ.out _ H4.out) (HUI.out _ H4.out) hwl HWK.out).mono ?_); rintro e w5 ⟨v5, rfl, hi, hf, hb⟩; have H5 := Lib.hid (H4.out.trans (hb.mono H4.out.size)); have HI5 := Lib.hid hi; obtain ⟨a5, c5, rfl⟩ := hi.slice; clear H4 hb hf hi)
            | (go_at_call 15; (with_reducible refine (refSince_any (HRI.out _ H5.out) (HUI.out _ H5.out) HOK.out hcp hwl).mono ?_); rintro e w6 ⟨v6, rfl, hi, hf, hb⟩; have H6 := Lib.hid (H5.out.trans (hb.mono H5.out.size)); have HI6 := Lib.hid hi; have HI7 := Lib.hid (HI5.out.next hb); obtain ⟨a6, c6, rfl⟩ := hi.slice; clear H5 HI5 hb hf hi)
            | (go_at_call 13; (with_reducible refine (same_yes HI7.out HI6.out HSL.out).mono ?_); rintro e w7 ⟨rfl, hb⟩; have H7 := Lib.hid (H6.out.trans (hb.mono H6.out.size)); clear H6 HI6 HI7 hb)
            | (go_at_call 16; (with_reducible refine (reset_any (HTI.out _ H7.out) hcp).mono ?_); rintro e w8 ⟨rfl, h8, m8⟩; have HT8 := Lib.hid h8; have HB8 := Lib.hid ((HB.out.trans (H7.out.mono HB.out.size)).trans (m8.below (fun b h => by omega) (HB.out.trans (H7.out.mono HB.out.size)).size)); clear H7 h8 m8))
          rw [HCL.out] at HT8
          clear HTI HTJ HM1 HM2 HRI HUI HLN HOK HWK HSL HT HI HUU HB HCL hcp hc64
          have HAL : Hid (∀ W, Below w8.heap.size w8 W → Calls Try.prog 8 #[.pointer (some ⟨w.heap.size + 1, 0, none⟩)] W (RowDid (List.replicate k 0) W)) := fun W h => All_any (.inr ⟨_, _, rfl, HT8.out.same h⟩)
          have HZ1 : Hid ((List.replicate k (0 : Int)).length = k) := List.length_replicate
          have HZ2 : Hid ((List.replicate k (0 : Int)).length ≤ 1024) := by unfold Hid; rw [HZ1.out]; omega
          rename_i K1 hK1
          have HK1 := Lib.hid hK1
          clear hK1 HT8
          go_region_with (first
            | (go_at_call 8; (with_reducible refine (HAL.out (w8.drew) ((Below.refl _ w8).drew)).mono ?_); rintro e w9 ⟨v9, rfl, hi, hf, hb⟩; obtain ⟨a9, c9, hv9⟩ := hi.slice; rw [HZ1.out] at hv9; subst hv9; have HS9 := Lib.hid (same_any2 hi (w9.alloc (.cells (ints (List.replicate k 0)).toArray 3)) (.slice (some ⟨w9.heap.size, 0, none⟩) k k) ((Below.refl _ w9).alloc (Nat.le_refl _) _) (made_at w9 k) HZ2.out); have HB9 := Lib.hid (HB8.out.trans (((Below.refl _ w8).drew : Below w8.heap.size w8 (w8.drew)).trans (hb.mono ((Below.refl _ w8).drew : Below w8.heap.size w8 (w8.drew)).size) |>.mono HB8.out.size)); clear HAL hi hf hb)
            | (go_at_call 8; (with_reducible refine (HAL.out ((w8.alloc (.cells (ints (List.replicate k 0)).toArray 3)).drew) (((Below.refl _ w8).alloc (Nat.le_refl _) _).drew)).mono ?_); rintro e w9 ⟨v9, rfl, hi, hf, hb⟩; obtain ⟨a9, c9, hv9⟩ := hi.slice; rw [HZ1.out] at hv9; subst hv9; have HS9 := Lib.hid (same_any2 hi w9 (.slice (some ⟨w8.heap.size, 0, none⟩) k k) (Below.refl _ w9) ((made_at w8 k : IntsAt (w8.alloc (.cells (ints (List.replicate k 0)).toArray 3)).heap.size (w8.alloc (.cells (ints (List.replicate k 0)).toArray 3)) _ _).next ⟨hb.os, hb.tape, hb.output, hb.size, hb.block⟩) HZ2.out); have HB9 := Lib.hid (HB8.out.trans ((((Below.refl _ w8).alloc (Nat.le_refl _) _).drew : Below w8.heap.size w8 ((w8.alloc (.cells (ints (List.replicate k 0)).toArray 3)).drew)).trans (hb.mono (((Below.refl _ w8).alloc (Nat.le_refl _) _).drew : Below w8.heap.size w8 ((w8.alloc (.cells (ints (List.replicate k 0)).toArray 3)).drew)).size) |>.mono HB8.out.size)); clear HAL hi hf hb)
            | (go_at_call 8; (with_reducible refine (HAL.out (w8.drew.alloc (.cells (ints (List.replicate k 0)).toArray 3)) (((Below.refl _ w8).drew).alloc (Nat.le_refl _) _)).mono ?_); rintro e w9 ⟨v9, rfl, hi, hf, hb⟩; obtain ⟨a9, c9, hv9⟩ := hi.slice; rw [HZ1.out] at hv9; subst hv9; have HS9 := Lib.hid (same_any2 hi w9 (.slice (some ⟨w8.heap.size, 0, none⟩) k k) (Below.refl _ w9) ((made_at w8 k : IntsAt (w8.alloc (.cells (ints (List.replicate k 0)).toArray 3)).heap.size (w8.alloc (.cells (ints (List.replicate k 0)).toArray 3)) _ _).next ⟨hb.os, hb.tape, hb.output, hb.size, hb.block⟩) HZ2.out); have HB9 := Lib.hid (HB8.out.trans ((((Below.refl _ w8).drew).alloc (Nat.le_refl _) _ : Below w8.heap.size w8 (w8.drew.alloc (.cells (ints (List.replicate k 0)).toArray 3))).trans (hb.mono (((Below.refl _ w8).drew).alloc (Nat.le_refl _) _ : Below w8.heap.size w8 (w8.drew.alloc (.cells (ints (List.replicate k 0)).toArray 3))).size) |>.mono HB8.out.size)); clear HAL hi hf hb)
            | (go_at_call 13; (with_reducible refine HS9.out.mono ?_); rintro e w10 ⟨rfl, hb⟩; have HB10 := Lib.hid (by first | exact HB9.out.trans (hb.mono HB9.out.size) | exact (HB9.out.alloc HB9.out.size _).trans (hb.mono (HB9.out.alloc HB9.out.size _).size)); clear HS9 hb)
            | (go_at_call 9; (with_reducible refine (awake16 _).mono ?_); rintro e w11 ⟨rfl, hb⟩; have HB11 := Lib.hid (HB10.out.trans (hb.mono HB10.out.size)); clear hb))
          all_goals
            refine HK1.out _ _ ?_
            go_wp2
            go_ret
            exact ⟨rfl, HB11.out⟩

set_option maxRecDepth 100000 in
theorem tallyCounts_lifted (os : Os) (started : os.Started) (H : Type) (enc : TypeId × Value → H) :
    ReturnsInHanded {} Try.checked os 3 .any (Rows.tallyCountsSpec.pre6 enc Try.prog Try.f3 Rows.tallyCountsRow.domain false) (Rows.tallyCountsSpec.post enc Try.prog Try.f3 false true false false) :=
  law_lifted 3 Try.f3 Rows.tallyCountsSpec Try.func3 (by kernel_rfl) rfl rfl
    (fun ds h => by match ds, h with | [_, _, _], _ => rfl) (by kernel_rfl) os started
    (ChangeSpec.witness6 (enc := enc) (C := Try.checked) false ⟨#[], #[.int .i64 0, .slice none 0 0, .slice none 0 0], []⟩ 8 (by kernel_rfl) (by kernel_rfl) (by kernel_rfl) (by kernel_rfl))
    fun W args ds ps hval hA => by
      rw [Try.params3] at hA hval
      obtain ⟨v0, vs0, d0, ds0, p0, q0, hargs, rfl, rfl, h0, r0⟩ := trodAll_cons hA
      obtain ⟨v1, vs1, d1, ds1, p1, q1, rfl, rfl, rfl, h1, r1⟩ := trodAll_cons r0
      obtain ⟨v2, vs2, d2, ds2, p2, q2, rfl, rfl, rfl, h2, r2⟩ := trodAll_cons r1
      obtain ⟨rfl, rfl, rfl⟩ := trodAll_nil r2
      obtain rfl : args = #[v0, v1, v2] := by cases args; simp_all
      obtain ⟨b0, o0⟩ := hval 0 _ v0 rfl rfl
      obtain ⟨b1, o1⟩ := hval 1 _ v1 rfl rfl
      obtain ⟨b2, o2⟩ := hval 2 _ v2 rfl rfl
      obtain ⟨a0, rfl, rfl, rfl, w0⟩ := open_int Try.underlying3 o0 h0
      obtain ⟨l1, hb1, hm1⟩ := open_pairs o1 h1
      obtain ⟨l2, hb2, hm2⟩ := open_ints1 o2 h2
      exact tallyCounts_walk a0 l1 _ l2 _ W hb1 hm1 hb2 hm2

/-- The statement. -/
theorem tallyCounts_holds : Rows.TallyCountsSaid :=
  OpenClaim.holds_of_wide 3 Try.f3 rfl rfl rfl rfl rfl rfl rfl ⟨rfl, rfl, rfl, rfl, rfl⟩ rfl rfl rfl rfl rfl (by kernel_rfl) Try.func3 (by kernel_rfl)
    (of_decide_eq_true (by kernel_rfl)) (by unfold Func.isWrapper; first | (rw [if_pos (by decide +kernel)]; kernel_rfl) | (rw [if_neg (by decide +kernel)]; exact ⟨rfl, rfl⟩))
    (fun os started H enc _ => tallyCounts_lifted os started H enc)
#print axioms tallyCounts_holds

end Go.Proofs.Ytjcpiljgbomceaa

/-
  ScriptPacks: a script of any acts as bytes, what is none.
  Conditions: none.
-/
import Derived.Test.YtkpaienlfieglaaScr8
import Derived.Test.YtkpaienlfieglaaScr11
import Derived.Test.YtkpaienlfieglaaScr13
import Derived.Test.YtkpaienlfieglaaScr14
import Derived.Test.YtkpaienlfieglaaScr15
import Derived.Test.YtkpaienlfieglaaLaw
namespace Go.Proofs.Ytkpaienlfieglaa
open Go.ChangeShapes Go.WideShapes Go.ChangeAt Go.RowKit
attribute [local go_sem] Oper.semAt_some

/-- What each operation yields where the two words on one act are compared. -/
def PkR (g off j c : Nat) (x : SAct) (sl : Value) (i : Nat) (v : Value) (W : World) : Prop :=
  match i with
  | 0 | 9 => v = sl
  | 1 | 2 | 10 => v = .int .i64 j
  | 3 => v = .int .i64 ((j : Int) + 1)
  | 4 => v = .slice (some ⟨g, off + j * 5, none⟩) 1 (c - j)
  | 5 => ∃ g1 o1 c1, v = .slice (some ⟨g1, o1, none⟩) 1 c1 ∧ g1 < W.heap.size ∧ ActAt W.heap.size W g1 o1 x
  | 6 => ∃ g1 o1, v = .pointer (some ⟨g1, o1, none⟩) ∧ g1 < W.heap.size ∧ ActAt W.heap.size W g1 o1 x
  | 7 => ∃ a1 c1 a2 c2 a3 c3, v = .agg #[.int .i64 x.kind, .slice a1 x.key.length c1, .slice a2 x.val.length c2, .int .i64 x.num, .slice a3 x.nums.length c3]
  | 8 | 13 => v = .bool (rightA x)
  | 11 => v = .pointer (some ⟨g, off + j * 5, none⟩)
  | 12 => ∃ a3 c3, v = .agg #[.int .i64 x.kind, .string (strB x.key), .string (strB x.val), .int .i64 x.num, .slice a3 x.nums.length c3]
  | 14 => v = .bool false
  | _ => True
theorem ActAt.next {W W' : World} {g o : Nat} {x : SAct} (h : ActAt W.heap.size W g o x) (hg : g < W.heap.size) (hb : Below W.heap.size W W') : ActAt W'.heap.size W' g o x := (h.below hg hb).mono hb.size
set_option maxRecDepth 100000 in
set_option maxHeartbeats 16000000 in
theorem scriptPacks_walk (l : List SAct) (v : Value) (w : World) (hE : DocsAt w.heap.size w v l) (_hm : l.length ≤ maxLen ∧ ∀ x ∈ l, x.wf) : Calls Try.prog 3 #[v] w (Good w) := by
  obtain ⟨a, c, rfl, hc⟩ := hE.slice
  have HLI := Lib.hid (light_any _ l w hE)
  cases hli : lightL l with
  | false =>
    rw [hli] at HLI
    clear hE hli
    go_enter Try.func3, Try.ntmps3
    go_wp2_with (go_at_call 8; (with_reducible refine HLI.out.mono ?_); rintro e w1 ⟨rfl, hb⟩; have HB1 := Lib.hid hb; clear hb)
    go_ret
    exact ⟨rfl, HB1.out⟩
  | true =>
    rw [hli] at HLI
    unfold lightL at hli
    rw [Bool.and_eq_true, decide_eq_true_eq, List.all_eq_true] at hli
    obtain ⟨hl60, hlit⟩ := hli
    have hnum : ∀ x ∈ l, x.nums.length ≤ 120 := fun x hx => by
      have := hlit x hx
      unfold litA at this
      simp only [Bool.and_eq_true, decide_eq_true_eq] at this
      exact this.2.2
    have hnumi : ∀ i, i < l.length → (l[i]?.getD default).nums.length ≤ 1000000 := fun i hi => by
      rw [List.getElem?_eq_getElem hi]
      have := hnum _ (List.getElem_mem hi)
      show (l[i]).nums.length ≤ _
      omega
    have l60 : (l.length : Int) ≤ 60 := by omega
    have HE := Lib.hid hE
    have HNI := Lib.hid hnumi
    have HL60 := Lib.hid hl60
    clear hE hlit hnum hnumi hl60
    go_enter Try.func3, Try.ntmps3
    go_wp2_with (first
      | (go_at_call 8; (with_reducible refine HLI.out.mono ?_); rintro e w1 ⟨rfl, hb⟩; have HB1 := Lib.hid hb; have HOF := Lib.hid (of_any _ l w1 (HE.out.next HB1.out) (by have := HL60.out; omega) HNI.out); clear hb)
      | (go_at_call 10; (with_reducible refine HOF.out.mono ?_); rintro e w2 ⟨a2, c2, rfl, hac, hb⟩; have HB2 := Lib.hid (HB1.out.trans (hb.mono HB1.out.size)); have HPK := Lib.hid (pack_any _ l w2 hac (by have := HL60.out; omega)); clear hb hac)
      | (go_at_call 9; (with_reducible refine HPK.out.mono ?_); rintro e w3 ⟨u3, rfl, hu, hb⟩; have HU3 := Lib.hid hu; have HB3 := Lib.hid (HB2.out.trans (hb.mono HB2.out.size)); have HRP := Lib.hid (refPack_any _ l w3 (HE.out.next HB3.out) (by have := HL60.out; omega)); clear hb hu)
      | (go_at_call 11; (with_reducible refine HRP.out.mono ?_); rintro e w4 ⟨u4, rfl, hu, hb⟩; have HU4 := Lib.hid hu; have HU3b := Lib.hid ((HU3.out.below hb).mono hb.size); have HB4 := Lib.hid (HB3.out.trans (hb.mono HB3.out.size)); clear hb hu))
    go_loopw [7] (fun i wr => ∃ j : Nat, j ≤ l.length ∧ i = .int .i64 j ∧ Below w4.heap.size w4 wr) (fun i _ => l.length - (intOf i).toNat)
    case atStart => exact ⟨0, Nat.zero_le _, rfl, Below.refl _ _⟩
    case round =>
      obtain ⟨j, hj, rfl, hB⟩ := hrel
      by_cases hlt : j < l.length
      · have hBw := HB4.out.trans (hB.mono HB4.out.size)
        obtain ⟨g, off, rfl, hg, he⟩ := (HE.out.below hBw).get hlt
        have j1 : (j : Int) < l.length := by omega
        have HLT := Lib.hid hlt
        have HCC : Hid (l.length ≤ c) := hc
        obtain ⟨x, hx⟩ : ∃ x, (l[j]?.getD default) = x := ⟨_, rfl⟩
        have hnx := HNI.out j hlt
        rw [hx] at he hnx
        have HG : Hid (g < wr.heap.size) := Nat.lt_of_lt_of_le hg hBw.size
        have HX := Lib.hid (he.mono hBw.size)
        have HNX := Lib.hid hnx
        have HBR := Lib.hid hB
        have jc1 : (j : Int) + 1 ≤ c := by omega
        have jc2 : (j : Int) ≤ c := by omega
        have jw : IntKind.i64.wrap ((j : Int) + 1) = (j : Int) + 1 := by simp [IntKind.wrap, IntKind.bits, IntKind.signed]; omega
        have cj : ¬ c = j := by omega
        clear hx hlt hg he hnx hBw hB hj hc
        go_upto_region 8 with (fail)
        refine wp_region_any (by kernel_rfl) ?_
        change wpAny _ _ _ _ _ _ _ wr.drew
        refine wpAny_bel 56 (PkR g off j c x (.slice (some ⟨g, off, none⟩) l.length c)) wr (by kernel_rfl) rfl (Below.refl _ _).drew ?_ ?_ ?_
        · intro i v W W' hr hb
          match i, hr with
          | 0, h => exact h
          | 1, h => exact h
          | 2, h => exact h
          | 3, h => exact h
          | 4, h => exact h
          | 5, ⟨g1, o1, c1, h1, h2, h3⟩ => exact ⟨g1, o1, c1, h1, Nat.lt_of_lt_of_le h2 hb.size, h3.next h2 hb⟩
          | 6, ⟨g1, o1, h1, h2, h3⟩ => exact ⟨g1, o1, h1, Nat.lt_of_lt_of_le h2 hb.size, h3.next h2 hb⟩
          | 7, h => exact h
          | 8, h => exact h
          | 9, h => exact h
          | 10, h => exact h
          | 11, h => exact h
          | 12, h => exact h
          | 13, h => exact h
          | 14, h => exact h
          | i + 15, _ => trivial
        · intro i o ho listed a W h hnl hdeps
          have hi : i < 15 := by have := (Array.getElem?_eq_some_iff.1 ho).1; simpa using this
          have e0 : a.tmps.getD 0 undef = .slice (some ⟨g, off, none⟩) l.length c := h.free 0 (by kernel_rfl)
          have e7 : a.tmps.getD 7 undef = .int .i64 j := h.free 7 (by kernel_rfl)
          have f0 := (Array.getD_eq_getD_getElem? (xs := a.tmps) (i := 0) (d := undef)).symm.trans e0
          have f7 := (Array.getD_eq_getD_getElem? (xs := a.tmps) (i := 7) (d := undef)).symm.trans e7
          have hBW := h.base
          have h9 : i = 0 ∨ i = 1 ∨ i = 2 ∨ i = 3 ∨ i = 4 ∨ i = 5 ∨ i = 6 ∨ i = 7 ∨ i = 8 ∨ i = 9 ∨ i = 10 ∨ i = 11 ∨ i = 12 ∨ i = 13 ∨ i = 14 := by omega
          rcases h9 with rfl | rfl | rfl | rfl | rfl | rfl | rfl | rfl | rfl | rfl | rfl | rfl | rfl | rfl | rfl
          · cases ho
            go_simp
            exact ⟨_, rfl, rfl, Below.refl _ _⟩
          · cases ho
            go_simp
            exact ⟨_, rfl, rfl, Below.refl _ _⟩
          · cases ho
            go_simp
            exact ⟨_, rfl, rfl, Below.refl _ _⟩
          · cases ho
            have e30 : a.tmps.getD 30 undef = .int .i64 j := h.got 2 _ 30 rfl (hdeps ⟨2, .data⟩ (by simp) rfl) (.inr rfl) rfl
            have f30 := (Array.getD_eq_getD_getElem? (xs := a.tmps) (i := 30) (d := undef)).symm.trans e30
            go_simp
            exact ⟨_, rfl, (by first | rfl | (show Value.int .i64 (IntKind.i64.wrap _) = _; rw [jw])), Below.refl _ _⟩
          · cases ho
            have e28 : a.tmps.getD 28 undef = .slice (some ⟨g, off, none⟩) l.length c := h.got 0 _ 28 rfl (hdeps ⟨0, .data⟩ (by simp) rfl) (.inr rfl) rfl
            have f28 := (Array.getD_eq_getD_getElem? (xs := a.tmps) (i := 28) (d := undef)).symm.trans e28
            have e29 : a.tmps.getD 29 undef = .int .i64 j := h.got 1 _ 29 rfl (hdeps ⟨1, .data⟩ (by simp) rfl) (.inr rfl) rfl
            have f29 := (Array.getD_eq_getD_getElem? (xs := a.tmps) (i := 29) (d := undef)).symm.trans e29
            have e31 : a.tmps.getD 31 undef = .int .i64 ((j : Int) + 1) := h.got 3 _ 31 rfl (hdeps ⟨3, .data⟩ (by simp) rfl) (.inr rfl) rfl
            have f31 := (Array.getD_eq_getD_getElem? (xs := a.tmps) (i := 31) (d := undef)).symm.trans e31
            go_simp
            exact ⟨_, rfl, rfl, Below.refl _ _⟩
          · cases ho
            have e32 : a.tmps.getD 32 undef = .slice (some ⟨g, off + j * 5, none⟩) 1 (c - j) := h.got 4 _ 32 rfl (hdeps ⟨4, .data⟩ (by simp) rfl) (.inr rfl) rfl
            have f32 := (Array.getD_eq_getD_getElem? (xs := a.tmps) (i := 32) (d := undef)).symm.trans e32
            have hd : DocsAt W.heap.size W (.slice (some ⟨g, off + j * 5, none⟩) 1 (c - j)) [x] := by
              refine ⟨_, _, rfl, by have := HLT.out; have := HCC.out; show 1 ≤ _; omega, .inr ⟨g, off + j * 5, rfl, Nat.lt_of_lt_of_le HG.out hBW.size, fun i hi => ?_⟩⟩
              have h0 : i = 0 := by simp at hi; exact hi
              subst h0
              have := ((HX.out.below HG.out hBW).mono hBW.size)
              simpa using this
            go_simp
            refine (of_any _ [x] W hd (by simp) (fun i hi => ?_)).mono ?_
            · have h0 : i = 0 := by simp at hi; exact hi
              subst h0
              exact HNX.out
            · rintro e W' ⟨a1, c1, rfl, hA, hb⟩
              obtain ⟨g1, o1, rfl, hg1, ha1⟩ := hA.get (i := 0) (by simp)
              exact ⟨_, rfl, ⟨g1, o1, c1, rfl, hg1, by simpa using ha1⟩, hb⟩
          · cases ho
            obtain ⟨g1, o1, c1, e33, hg1, ha1⟩ := h.got 5 _ 33 rfl (hdeps ⟨5, .data⟩ (by simp) rfl) (.inr rfl) rfl
            have f33 := (Array.getD_eq_getD_getElem? (xs := a.tmps) (i := 33) (d := undef)).symm.trans e33
            go_simp
            exact ⟨_, rfl, ⟨g1, o1, rfl, hg1, ha1⟩, Below.refl _ _⟩
          · cases ho
            obtain ⟨g1, o1, e34, hg1, ha1⟩ := h.got 6 _ 34 rfl (hdeps ⟨6, .data⟩ (by simp) rfl) (.inr rfl) rfl
            have f34 := (Array.getD_eq_getD_getElem? (xs := a.tmps) (i := 34) (d := undef)).symm.trans e34
            obtain ⟨b1, d1, b2, d2, b3, d3, ⟨y0, y1, y2, y3, y4⟩, _, _, _⟩ := ha1
            go_simp
            exact ⟨_, rfl, ⟨b1, d1, b2, d2, b3, d3, rfl⟩, Below.refl _ _⟩
          · cases ho
            obtain ⟨b1, d1, b2, d2, b3, d3, e35⟩ := h.got 7 _ 35 rfl (hdeps ⟨7, .data⟩ (by simp) rfl) (.inr rfl) rfl
            have f35 := (Array.getD_eq_getD_getElem? (xs := a.tmps) (i := 35) (d := undef)).symm.trans e35
            go_simp
            exact (Right_any x b1 b2 b3 d1 d2 d3 W).mono fun _ _ ⟨he, hb⟩ => by subst he; exact ⟨_, rfl, rfl, hb⟩
          · cases ho
            go_simp
            exact ⟨_, rfl, rfl, Below.refl _ _⟩
          · cases ho
            go_simp
            exact ⟨_, rfl, rfl, Below.refl _ _⟩
          · cases ho
            have e37 : a.tmps.getD 37 undef = .slice (some ⟨g, off, none⟩) l.length c := h.got 9 _ 37 rfl (hdeps ⟨9, .data⟩ (by simp) rfl) (.inr rfl) rfl
            have f37 := (Array.getD_eq_getD_getElem? (xs := a.tmps) (i := 37) (d := undef)).symm.trans e37
            have e38 : a.tmps.getD 38 undef = .int .i64 j := h.got 10 _ 38 rfl (hdeps ⟨10, .data⟩ (by simp) rfl) (.inr rfl) rfl
            have f38 := (Array.getD_eq_getD_getElem? (xs := a.tmps) (i := 38) (d := undef)).symm.trans e38
            go_simp
            exact ⟨_, rfl, rfl, Below.refl _ _⟩
          · cases ho
            have e39 : a.tmps.getD 39 undef = .pointer (some ⟨g, off + j * 5, none⟩) := h.got 11 _ 39 rfl (hdeps ⟨11, .data⟩ (by simp) rfl) (.inr rfl) rfl
            have f39 := (Array.getD_eq_getD_getElem? (xs := a.tmps) (i := 39) (d := undef)).symm.trans e39
            obtain ⟨b3, d3, ⟨y0, y1, y2, y3, y4⟩, _⟩ := HX.out.below HG.out hBW
            go_simp
            exact ⟨_, rfl, ⟨b3, d3, rfl⟩, Below.refl _ _⟩
          · cases ho
            obtain ⟨b3, d3, e40⟩ := h.got 12 _ 40 rfl (hdeps ⟨12, .data⟩ (by simp) rfl) (.inr rfl) rfl
            have f40 := (Array.getD_eq_getD_getElem? (xs := a.tmps) (i := 40) (d := undef)).symm.trans e40
            go_simp
            exact (refRight20_any x b3 d3 W).mono fun _ _ ⟨he, hb⟩ => by subst he; exact ⟨_, rfl, rfl, hb⟩
          · cases ho
            have e36 : a.tmps.getD 36 undef = .bool (rightA x) := h.got 8 _ 36 rfl (hdeps ⟨8, .data⟩ (by simp) rfl) (.inr rfl) rfl
            have f36 := (Array.getD_eq_getD_getElem? (xs := a.tmps) (i := 36) (d := undef)).symm.trans e36
            have e41 : a.tmps.getD 41 undef = .bool (rightA x) := h.got 13 _ 41 rfl (hdeps ⟨13, .data⟩ (by simp) rfl) (.inr rfl) rfl
            have f41 := (Array.getD_eq_getD_getElem? (xs := a.tmps) (i := 41) (d := undef)).symm.trans e41
            generalize rightA x = r at e36 f36 e41 f41
            go_simp
            exact ⟨_, rfl, by cases r <;> rfl, Below.refl _ _⟩
        · intro a W h
          have f0 : a.tmps.getD 0 undef = .slice (some ⟨g, off, none⟩) l.length c := h.free 0 (by kernel_rfl)
          have f1 : a.tmps.getD 1 undef = undef := h.free 1 (by kernel_rfl)
          have f3 : a.tmps.getD 3 undef = u3 := h.free 3 (by kernel_rfl)
          have f4 : a.tmps.getD 4 undef = .int .i64 (packE l) := h.free 4 (by kernel_rfl)
          have f5 : a.tmps.getD 5 undef = u4 := h.free 5 (by kernel_rfl)
          have f6 : a.tmps.getD 6 undef = .int .i64 (packE l) := h.free 6 (by kernel_rfl)
          have f7 : a.tmps.getD 7 undef = .int .i64 j := h.free 7 (by kernel_rfl)
          have f8 : a.tmps.getD 8 undef = .slice (some ⟨g, off, none⟩) l.length c := h.free 8 (by kernel_rfl)
          have f9 : a.tmps.getD 9 undef = .bool true := h.free 9 (by kernel_rfl)
          have f10 : a.tmps.getD 10 undef = .bool false := h.free 10 (by kernel_rfl)
          have f11 : a.tmps.getD 11 undef = .tuple #[u3, .int .i64 (packE l)] := h.free 11 (by kernel_rfl)
          have f12 : a.tmps.getD 12 undef = .slice (some ⟨g, off, none⟩) l.length c := h.free 12 (by kernel_rfl)
          have f13 : a.tmps.getD 13 undef = .slice a2 l.length c2 := h.free 13 (by kernel_rfl)
          have f14 : a.tmps.getD 14 undef = .tuple #[u3, .int .i64 (packE l)] := h.free 14 (by kernel_rfl)
          have f15 : a.tmps.getD 15 undef = u3 := h.free 15 (by kernel_rfl)
          have f16 : a.tmps.getD 16 undef = .int .i64 (packE l) := h.free 16 (by kernel_rfl)
          have f17 : a.tmps.getD 17 undef = .tuple #[u4, .int .i64 (packE l)] := h.free 17 (by kernel_rfl)
          have f18 : a.tmps.getD 18 undef = .slice (some ⟨g, off, none⟩) l.length c := h.free 18 (by kernel_rfl)
          have f19 : a.tmps.getD 19 undef = .tuple #[u4, .int .i64 (packE l)] := h.free 19 (by kernel_rfl)
          have f20 : a.tmps.getD 20 undef = u4 := h.free 20 (by kernel_rfl)
          have f21 : a.tmps.getD 21 undef = .int .i64 (packE l) := h.free 21 (by kernel_rfl)
          have f43 : a.tmps.getD 43 undef = undef := h.free 43 (by kernel_rfl)
          have f44 : a.tmps.getD 44 undef = undef := h.free 44 (by kernel_rfl)
          have f45 : a.tmps.getD 45 undef = undef := h.free 45 (by kernel_rfl)
          have f46 : a.tmps.getD 46 undef = undef := h.free 46 (by kernel_rfl)
          have f47 : a.tmps.getD 47 undef = undef := h.free 47 (by kernel_rfl)
          have f48 : a.tmps.getD 48 undef = undef := h.free 48 (by kernel_rfl)
          have f49 : a.tmps.getD 49 undef = undef := h.free 49 (by kernel_rfl)
          have f50 : a.tmps.getD 50 undef = undef := h.free 50 (by kernel_rfl)
          have f51 : a.tmps.getD 51 undef = undef := h.free 51 (by kernel_rfl)
          have f52 : a.tmps.getD 52 undef = undef := h.free 52 (by kernel_rfl)
          have f53 : a.tmps.getD 53 undef = undef := h.free 53 (by kernel_rfl)
          have f54 : a.tmps.getD 54 undef = undef := h.free 54 (by kernel_rfl)
          have f55 : a.tmps.getD 55 undef = undef := h.free 55 (by kernel_rfl)
          have f42 : a.tmps.getD 42 undef = .bool false := h.got 14 _ 42 rfl (by simp) (.inr rfl) rfl
          have ea := arr_eq a.tmps 56 h.size
          have ed := h.defers
          have HBE := Lib.hid h.base
          clear h
          obtain ⟨t, ds⟩ := a
          replace ed : ds = [] := ed
          subst ed
          replace f0 : t.getD 0 undef = .slice (some ⟨g, off, none⟩) l.length c := f0
          replace f1 : t.getD 1 undef = undef := f1
          replace f3 : t.getD 3 undef = u3 := f3
          replace f4 : t.getD 4 undef = .int .i64 (packE l) := f4
          replace f5 : t.getD 5 undef = u4 := f5
          replace f6 : t.getD 6 undef = .int .i64 (packE l) := f6
          replace f7 : t.getD 7 undef = .int .i64 j := f7
          replace f8 : t.getD 8 undef = .slice (some ⟨g, off, none⟩) l.length c := f8
          replace f9 : t.getD 9 undef = .bool true := f9
          replace f10 : t.getD 10 undef = .bool false := f10
          replace f11 : t.getD 11 undef = .tuple #[u3, .int .i64 (packE l)] := f11
          replace f12 : t.getD 12 undef = .slice (some ⟨g, off, none⟩) l.length c := f12
          replace f13 : t.getD 13 undef = .slice a2 l.length c2 := f13
          replace f14 : t.getD 14 undef = .tuple #[u3, .int .i64 (packE l)] := f14
          replace f15 : t.getD 15 undef = u3 := f15
          replace f16 : t.getD 16 undef = .int .i64 (packE l) := f16
          replace f17 : t.getD 17 undef = .tuple #[u4, .int .i64 (packE l)] := f17
          replace f18 : t.getD 18 undef = .slice (some ⟨g, off, none⟩) l.length c := f18
          replace f19 : t.getD 19 undef = .tuple #[u4, .int .i64 (packE l)] := f19
          replace f20 : t.getD 20 undef = u4 := f20
          replace f21 : t.getD 21 undef = .int .i64 (packE l) := f21
          replace f43 : t.getD 43 undef = undef := f43
          replace f44 : t.getD 44 undef = undef := f44
          replace f45 : t.getD 45 undef = undef := f45
          replace f46 : t.getD 46 undef = undef := f46
          replace f47 : t.getD 47 undef = undef := f47
          replace f48 : t.getD 48 undef = undef := f48
          replace f49 : t.getD 49 undef = undef := f49
          replace f50 : t.getD 50 undef = undef := f50
          replace f51 : t.getD 51 undef = undef := f51
          replace f52 : t.getD 52 undef = undef := f52
          replace f53 : t.getD 53 undef = undef := f53
          replace f54 : t.getD 54 undef = undef := f54
          replace f55 : t.getD 55 undef = undef := f55
          replace f42 : t.getD 42 undef = .bool false := f42
          replace ea : t = #[t.getD 0 undef, t.getD 1 undef, t.getD 2 undef, t.getD 3 undef, t.getD 4 undef, t.getD 5 undef, t.getD 6 undef, t.getD 7 undef, t.getD 8 undef, t.getD 9 undef, t.getD 10 undef, t.getD 11 undef, t.getD 12 undef, t.getD 13 undef, t.getD 14 undef, t.getD 15 undef, t.getD 16 undef, t.getD 17 undef, t.getD 18 undef, t.getD 19 undef, t.getD 20 undef, t.getD 21 undef, t.getD 22 undef, t.getD 23 undef, t.getD 24 undef, t.getD 25 undef, t.getD 26 undef, t.getD 27 undef, t.getD 28 undef, t.getD 29 undef, t.getD 30 undef, t.getD 31 undef, t.getD 32 undef, t.getD 33 undef, t.getD 34 undef, t.getD 35 undef, t.getD 36 undef, t.getD 37 undef, t.getD 38 undef, t.getD 39 undef, t.getD 40 undef, t.getD 41 undef, t.getD 42 undef, t.getD 43 undef, t.getD 44 undef, t.getD 45 undef, t.getD 46 undef, t.getD 47 undef, t.getD 48 undef, t.getD 49 undef, t.getD 50 undef, t.getD 51 undef, t.getD 52 undef, t.getD 53 undef, t.getD 54 undef, t.getD 55 undef] := ea
          rw [f0, f1, f3, f4, f5, f6, f7, f8, f9, f10, f11, f12, f13, f14, f15, f16, f17, f18, f19, f20, f21, f43, f44, f45, f46, f47, f48, f49, f50, f51, f52, f53, f54, f55, f42] at ea
          generalize t.getD 2 undef = v2 at ea
          generalize t.getD 22 undef = v22 at ea
          generalize t.getD 23 undef = v23 at ea
          generalize t.getD 24 undef = v24 at ea
          generalize t.getD 25 undef = v25 at ea
          generalize t.getD 26 undef = v26 at ea
          generalize t.getD 27 undef = v27 at ea
          generalize t.getD 28 undef = v28 at ea
          generalize t.getD 29 undef = v29 at ea
          generalize t.getD 30 undef = v30 at ea
          generalize t.getD 31 undef = v31 at ea
          generalize t.getD 32 undef = v32 at ea
          generalize t.getD 33 undef = v33 at ea
          generalize t.getD 34 undef = v34 at ea
          generalize t.getD 35 undef = v35 at ea
          generalize t.getD 36 undef = v36 at ea
          generalize t.getD 37 undef = v37 at ea
          generalize t.getD 38 undef = v38 at ea
          generalize t.getD 39 undef = v39 at ea
          generalize t.getD 40 undef = v40 at ea
          generalize t.getD 41 undef = v41 at ea
          subst ea
          clear f0 f1 f3 f4 f5 f6 f7 f8 f9 f10 f11 f12 f13 f14 f15 f16 f17 f18 f19 f20 f21 f43 f44 f45 f46 f47 f48 f49 f50 f51 f52 f53 f54 f55 f42
          go_wp2
          go_roundw
          case rel => exact ⟨j + 1, HLT.out, by go_num, HBR.out.trans (HBE.out.mono HBR.out.size)⟩
          case measure => have := HLT.out; simp [intOf]; omega
      · obtain rfl : j = l.length := by omega
        have hcv3 : ∀ W, Below wr.heap.size wr W → (convert 24 9 u3).run Try.prog W = .ok (.string (strB (packS l))) W := fun W h => conv_str ((HU3b.out.below hB).below (h.mono hB.size))
        have hcv4 : ∀ W, Below wr.heap.size wr W → (convert 24 9 u4).run Try.prog W = .ok (.string (strB (packS l))) W := fun W h => conv_str ((HU4.out.below hB).below (h.mono hB.size))
        have hcv3 := hcv3 wr (Below.refl _ _)
        have hcv4 := hcv4 wr (Below.refl _ _)
        have HAW := Lib.hid (awake20 wr)
        have HBR := Lib.hid (HB4.out.trans (hB.mono HB4.out.size))
        generalize packE l = pe
        generalize strB (packS l) = S at hcv3 hcv4
        clear hB hlt hj hc
        go_wp2_with (go_at_call 14; (with_reducible refine HAW.out.mono ?_); rintro e w8 ⟨rfl, hb⟩; have HB8 := Lib.hid (HBR.out.trans (hb.mono HBR.out.size)); clear hb)
        go_ret
        exact ⟨rfl, HB8.out⟩
set_option maxRecDepth 100000 in
theorem scriptPacks_lifted (os : Os) (started : os.Started) (H : Type) (enc : TypeId × Value → H) :
    ReturnsInHanded {} Try.checked os 3 .any (Rows.scriptPacksSpec.pre6 enc Try.prog Try.f3 Rows.scriptPacksRow.domain false) (Rows.scriptPacksSpec.post enc Try.prog Try.f3 false true false false) :=
  law_lifted 3 Try.f3 Rows.scriptPacksSpec Try.func3 (by kernel_rfl) rfl rfl
    (fun ds h => by match ds, h with | [_], _ => rfl) (by kernel_rfl) os started
    (ChangeSpec.witness6 (enc := enc) (C := Try.checked) false ⟨#[], #[.slice none 0 0], []⟩ 8 (by kernel_rfl) (by kernel_rfl) (by kernel_rfl) (by kernel_rfl))
    fun W args ds ps hval hA => by
      rw [Try.params3] at hA hval
      obtain ⟨v0, vs0, d0, ds0, p0, q0, hargs, rfl, rfl, h0, r0⟩ := trodAll_cons hA
      obtain ⟨rfl, rfl, rfl⟩ := trodAll_nil r0
      obtain rfl : args = #[v0] := by cases args; simp_all
      obtain ⟨b0, o0⟩ := hval 0 _ v0 rfl rfl
      obtain ⟨l0, hb0, hm0⟩ := open_docs o0 h0
      exact scriptPacks_walk l0 _ W hb0 hm0

/-- The statement. -/
theorem scriptPacks_holds : Rows.ScriptPacksSaid :=
  OpenClaim.holds_of_wide 3 Try.f3 rfl rfl rfl rfl rfl rfl rfl ⟨rfl, rfl, rfl, rfl, rfl⟩ rfl rfl rfl rfl rfl (by kernel_rfl) Try.func3 (by kernel_rfl)
    (of_decide_eq_true (by kernel_rfl)) (by unfold Func.isWrapper; first | (rw [if_pos (by decide +kernel)]; kernel_rfl) | (rw [if_neg (by decide +kernel)]; exact ⟨rfl, rfl⟩))
    (fun os started H enc _ => scriptPacks_lifted os started H enc)
#print axioms scriptPacks_holds
end Go.Proofs.Ytkpaienlfieglaa

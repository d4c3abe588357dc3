/-
  script's write: the bytes of an act.
  Conditions: none.
-/
import Derived.Test.YtgaabclgoolalaaScr5
namespace Go.Proofs.Ytgaabclgoolalaa
open Go.RowKit
attribute [local go_sem] Oper.semAt_some

theorem WM.numI {n₀ B : Nat} {row : List (BitVec 8)} {W : World} (h : WM n₀ B row W) (i k : Int) (hk : mayB k = true) (hl : row.length ≤ 549755813888) :
    Calls Try.prog 26 #[.pointer (some ⟨B, 0, none⟩), .int .u64 (U (BitVec.ofInt 64 i)), .int .i64 k] W (WmRet n₀ B (row ++ leI k i) W) := by
  have hk0 : 0 ≤ k := by
    have : k = 1 ∨ k = 2 ∨ k = 4 ∨ k = 8 := by simpa [mayB] using hk
    omega
  obtain ⟨n, rfl⟩ := Int.eq_ofNat_of_zero_le hk0
  exact h.num (BitVec.ofInt 64 i) n hk hl
theorem WM.numL {n₀ B : Nat} {row : List (BitVec 8)} {W : World} (h : WM n₀ B row W) (i : Nat) (k : Int) (hi : i ≤ 9000000000) (hk : mayB k = true) (hl : row.length ≤ 549755813888) :
    Calls Try.prog 26 #[.pointer (some ⟨B, 0, none⟩), .int .u64 (i : Int), .int .i64 k] W (WmRet n₀ B (row ++ leI k i) W) := by
  have h1 := h.numI i k hk hl
  have e : U (BitVec.ofInt 64 (i : Int)) = i := by
    rw [← wrapU64_any]
    simp [IntKind.wrap, IntKind.bits, IntKind.signed]
    omega
  rw [e] at h1
  exact h1
/-- The bytes of an act. -/
def actB (k v u c : Bool) (x : SAct) : List (BitVec 8) := leI 1 x.kind ++ (if k then txt x.key else []) ++ (if v then txt x.val else []) ++ (if u then leI 8 x.num else []) ++ (if c then leI 1 x.nums.length else []) ++ x.nums.flatMap (leI 8)
theorem flat_len (l : List Int) : (l.flatMap (leI 8)).length = 8 * l.length := by
  induction l with
  | nil => rfl
  | cons x l ih => rw [List.flatMap_cons, List.length_append, ih, leI_len, List.length_cons]; simp; omega
theorem flat_take (l : List Int) (k : Nat) (hk : k < l.length) : (l.take (k + 1)).flatMap (leI 8) = (l.take k).flatMap (leI 8) ++ leI 8 (l[k]?.getD 0) := by
  rw [List.take_add_one, List.flatMap_append, List.getElem?_eq_getElem hk]
  simp
/-- What must be of an act that is written. -/
structure Wok (n₀ : Nat) (w : World) (x : SAct) (a1 a2 a3 : Option Addr) (c1 c2 c3 : Nat) : Prop where
  key : BytesAt n₀ w (.slice a1 x.key.length c1) x.key
  val : BytesAt n₀ w (.slice a2 x.val.length c2) x.val
  nums : IntsAt n₀ w (.slice a3 x.nums.length c3) x.nums
  l1 : x.key.length ≤ 65535
  l2 : x.val.length ≤ 65535
  l3 : x.nums.length ≤ 100
theorem Wok.on {n₀ : Nat} {w W : World} {x : SAct} {a1 a2 a3 : Option Addr} {c1 c2 c3 : Nat} (h : Wok n₀ w x a1 a2 a3 c1 c2 c3) (hb : Below n₀ w W) : Wok n₀ W x a1 a2 a3 c1 c2 c3 :=
  ⟨h.key.below hb, h.val.below hb, h.nums.below hb, h.l1, h.l2, h.l3⟩
set_option maxRecDepth 100000 in
set_option maxHeartbeats 4000000 in
theorem write_key (s : ByteArray) (l m : Int) (hlm : decide (l < m) = false) {n₀ B : Nat} {row : List (BitVec 8)} {w : World} (hW : WM n₀ B row w) (hrow : row.length ≤ 540000000000) (x : SAct) (a1 a2 a3 : Option Addr) (c1 c2 c3 : Nat) (hx : Wok n₀ w x a1 a2 a3 c1 c2 c3) :
    Calls Try.prog 28 #[.agg #[.string s, .bool true, .bool false, .bool false, .int .i64 l, .int .i64 m], .pointer (some ⟨B, 0, none⟩), .agg #[.int .i64 x.kind, .slice a1 x.key.length c1, .slice a2 x.val.length c2, .int .i64 x.num, .slice a3 x.nums.length c3]] w (WmRet n₀ B (row ++ actB true false false false x) w) := by
  obtain ⟨w1, hw1⟩ : ∃ w1, (w.alloc (.cells #[.string s, .bool true, .bool false, .bool false, .int .i64 l, .int .i64 m] 70)).alloc (.cells #[.int .i64 x.kind, .slice a1 x.key.length c1, .slice a2 x.val.length c2, .int .i64 x.num, .slice a3 x.nums.length c3] 49) = w1 := ⟨_, rfl⟩
  have hb1 : Below w.heap.size w w1 := by rw [← hw1]; exact ((Below.refl _ w).alloc (Nat.le_refl _) _).alloc (by simp) _
  have hk0 : w1.heap[w.heap.size]? = some (.cells #[.string s, .bool true, .bool false, .bool false, .int .i64 l, .int .i64 m] 70 (0, 0)) := by rw [← hw1]; exact blk_alloc (heap_alloc_new _ _) _
  have hk1 : w1.heap[w.heap.size + 1]? = some (.cells #[.int .i64 x.kind, .slice a1 x.key.length c1, .slice a2 x.val.length c2, .int .i64 x.num, .slice a3 x.nums.length c3] 49 (0, 0)) := by
    rw [← hw1]
    have := heap_alloc_new (w.alloc (.cells #[.string s, .bool true, .bool false, .bool false, .int .i64 l, .int .i64 m] 70)) (.cells #[.int .i64 x.kind, .slice a1 x.key.length c1, .slice a2 x.val.length c2, .int .i64 x.num, .slice a3 x.nums.length c3] 49)
    rw [World.size_alloc] at this
    exact this
  have hBlt : B < w.heap.size := by obtain ⟨v, h, _⟩ := hW; exact blk_lt h.blk
  have hn0 := hW.size
  have hW1 := hW.on hb1
  have hx1 := hx.on (hb1.mono hn0)
  have HC : Hid (∀ W, WStay B w1 W → (W.cell? ⟨w.heap.size, 0, none⟩ = some (.string s) ∧ W.cell? ⟨w.heap.size, 1, none⟩ = some (.bool true) ∧ W.cell? ⟨w.heap.size, 2, none⟩ = some (.bool false) ∧ W.cell? ⟨w.heap.size, 3, none⟩ = some (.bool false) ∧ W.cell? ⟨w.heap.size, 4, none⟩ = some (.int .i64 l) ∧ W.cell? ⟨w.heap.size, 5, none⟩ = some (.int .i64 m)) ∧
      (W.cell? ⟨w.heap.size + 1, 0, none⟩ = some (.int .i64 x.kind) ∧ W.cell? ⟨w.heap.size + 1, 1, none⟩ = some (.slice a1 x.key.length c1) ∧ W.cell? ⟨w.heap.size + 1, 2, none⟩ = some (.slice a2 x.val.length c2) ∧ W.cell? ⟨w.heap.size + 1, 3, none⟩ = some (.int .i64 x.num) ∧ W.cell? ⟨w.heap.size + 1, 4, none⟩ = some (.slice a3 x.nums.length c3))) := fun W h => by
    have h0 := h.blk hk0 (by omega) (by decide)
    have h1 := h.blk hk1 (by omega) (by decide)
    exact ⟨⟨blk_cell h0 0, blk_cell h0 1, blk_cell h0 2, blk_cell h0 3, blk_cell h0 4, blk_cell h0 5⟩, ⟨blk_cell h1 0, blk_cell h1 1, blk_cell h1 2, blk_cell h1 3, blk_cell h1 4⟩⟩
  obtain ⟨⟨y0, y1, y2, y3, y4, y5⟩, ⟨z0, z1, z2, z3, z4⟩⟩ := HC.out w1 (WStay.refl _ _)
  have HW1 := Lib.hid hw1
  have HB1 := Lib.hid hb1
  have HN0 := Lib.hid hn0
  have HX1 := Lib.hid hx1
  have HM0 := Lib.hid hW1
  have HS0 : Hid (WStay B w1 w1) := WStay.refl _ _
  have HD0 : Hid (Below n₀ w1 w1) := Below.refl _ _
  have HLR := Lib.hid hrow
  have uk : IntKind.u64.wrap x.kind = U (BitVec.ofInt 64 x.kind) := wrapU64_any _
  have un : IntKind.u64.wrap x.num = U (BitVec.ofInt 64 x.num) := wrapU64_any _
  have HCT := Lib.hid (fun W => counted_any s true false false l m W)
  rw [hlm] at HCT
  have h3 : (x.nums.length : Int) ≤ 100 := by have := hx.l3; omega
  clear hlm hW hrow hx hw1 hb1 hk0 hk1 hBlt hn0 hW1 hx1
  go_enter Try.func28, Try.ntmps28
  go_upto_region 1 with (fail)
  rw [HW1.out]
  clear HW1
  go_wp2_with (first
    | (go_at_call 40; (with_reducible refine (HCT.out _).mono ?_); rintro e wc ⟨rfl, hc⟩; have HM2c := Lib.hid (HM2.out.on hc); have HS2c := Lib.hid (HS2.out.trans (WStay.of_below hc)); have HD2c := Lib.hid (HD2.out.trans (hc.mono HM2.out.size)); clear hc; clear y0 y1 y2 y3 y4 y5 z0 z1 z2 z3 z4; obtain ⟨⟨y0, y1, y2, y3, y4, y5⟩, ⟨z0, z1, z2, z3, z4⟩⟩ := HC.out _ HS2c.out)
    | (go_at_call 39; (with_reducible refine (HM1.out.text _ x.key (HX1.out.key.below HD1.out) HX1.out.l1 (by have := HLR.out; have := HX1.out.l1; have := HX1.out.l2; have := HX1.out.l3; first | omega | (simp only [List.length_append, leI_len]; omega) | (simp only [List.length_append, leI_len, txt_len]; omega))).mono ?_); rintro e wq2 ⟨rfl, hm, hs, hd⟩; have HM2 := Lib.hid hm; have HS2 := Lib.hid (HS1.out.trans hs); have HD2 := Lib.hid (HD1.out.trans hd); clear hm hs hd; clear y0 y1 y2 y3 y4 y5 z0 z1 z2 z3 z4; obtain ⟨⟨y0, y1, y2, y3, y4, y5⟩, ⟨z0, z1, z2, z3, z4⟩⟩ := HC.out _ HS2.out)
    | (go_at_call 26; (with_reducible refine (HM0.out.numI (x.kind) 1 rfl (by have := HLR.out; have := HX1.out.l1; have := HX1.out.l2; have := HX1.out.l3; first | omega | (simp only [List.length_append, leI_len]; omega) | (simp only [List.length_append, leI_len, txt_len]; omega))).mono ?_); rintro e wq1 ⟨rfl, hm, hs, hd⟩; have HM1 := Lib.hid hm; have HS1 := Lib.hid (HS0.out.trans hs); have HD1 := Lib.hid (HD0.out.trans hd); clear hm hs hd; clear y0 y1 y2 y3 y4 y5 z0 z1 z2 z3 z4; obtain ⟨⟨y0, y1, y2, y3, y4, y5⟩, ⟨z0, z1, z2, z3, z4⟩⟩ := HC.out _ HS1.out))
  clear y0 y1 y2 y3 y4 y5 z0 z1 z2 z3 z4
  go_loopw [43] (fun i wr => ∃ j : Nat, j ≤ x.nums.length ∧ i = .int .i64 j ∧ WM n₀ B (((row ++ leI 1 x.kind) ++ txt x.key) ++ (x.nums.take j).flatMap (leI 8)) wr ∧ WStay B w1 wr ∧ Below n₀ w1 wr) (fun i _ => x.nums.length - (intOf i).toNat)
  case atStart => exact ⟨0, Nat.zero_le _, rfl, by simpa using HM2c.out, HS2c.out, HD2c.out⟩
  case round =>
    obtain ⟨j, hj, rfl, hM, hS, hD⟩ := hrel
    by_cases hlt : j < x.nums.length
    · obtain ⟨g, off, rfl, hg, he⟩ := (HX1.out.nums.below hD).get hlt
      have j1 : (j : Int) < x.nums.length := by omega
      have HFT := Lib.hid (flat_take x.nums j hlt)
      generalize x.nums[j]?.getD 0 = y at he HFT
      have uy : IntKind.u64.wrap y = U (BitVec.ofInt 64 y) := wrapU64_any _
      have HMJ := Lib.hid hM
      have HSJ := Lib.hid hS
      have HDJ := Lib.hid hD
      have HLT := Lib.hid hlt
      clear hM hS hD hlt hg hj
      go_wp2_with (go_at_call 26; (with_reducible refine (HMJ.out.numI y 8 rfl (by have := HLR.out; have := HX1.out.l1; have := HX1.out.l2; have := HX1.out.l3; have := HLT.out; first | (simp only [List.length_append, leI_len, flat_len, List.length_take]; omega) | (simp only [List.length_append, leI_len, txt_len, flat_len, List.length_take]; omega))).mono ?_); rintro e w9 ⟨rfl, hm, hs, hd⟩; have HM9 := Lib.hid hm; have HS9 := Lib.hid (HSJ.out.trans hs); have HD9 := Lib.hid (HDJ.out.trans hd); clear hm hs hd)
      go_roundw
      case rel => exact ⟨j + 1, HLT.out, by go_num, by rw [HFT.out, ← List.append_assoc]; exact HM9.out, HS9.out, HD9.out⟩
      case measure => have := HLT.out; simp [intOf]; omega
    · obtain rfl : j = x.nums.length := by omega
      have HMJ := Lib.hid hM
      have HSJ := Lib.hid hS
      have HDJ := Lib.hid hD
      clear hM hS hD
      go_wp2
      go_end0
      refine ⟨rfl, ?_, (WStay.of_below HB1.out).trans HSJ.out, (HB1.out.mono HN0.out).trans HDJ.out⟩
      have := HMJ.out
      rw [List.take_length] at this
      simpa [actB, List.append_assoc] using this
set_option maxRecDepth 100000 in
set_option maxHeartbeats 4000000 in
theorem write_set (s : ByteArray) (l m : Int) (hlm : decide (l < m) = false) {n₀ B : Nat} {row : List (BitVec 8)} {w : World} (hW : WM n₀ B row w) (hrow : row.length ≤ 540000000000) (x : SAct) (a1 a2 a3 : Option Addr) (c1 c2 c3 : Nat) (hx : Wok n₀ w x a1 a2 a3 c1 c2 c3) :
    Calls Try.prog 28 #[.agg #[.string s, .bool true, .bool true, .bool true, .int .i64 l, .int .i64 m], .pointer (some ⟨B, 0, none⟩), .agg #[.int .i64 x.kind, .slice a1 x.key.length c1, .slice a2 x.val.length c2, .int .i64 x.num, .slice a3 x.nums.length c3]] w (WmRet n₀ B (row ++ actB true true true false x) w) := by
  obtain ⟨w1, hw1⟩ : ∃ w1, (w.alloc (.cells #[.string s, .bool true, .bool true, .bool true, .int .i64 l, .int .i64 m] 70)).alloc (.cells #[.int .i64 x.kind, .slice a1 x.key.length c1, .slice a2 x.val.length c2, .int .i64 x.num, .slice a3 x.nums.length c3] 49) = w1 := ⟨_, rfl⟩
  have hb1 : Below w.heap.size w w1 := by rw [← hw1]; exact ((Below.refl _ w).alloc (Nat.le_refl _) _).alloc (by simp) _
  have hk0 : w1.heap[w.heap.size]? = some (.cells #[.string s, .bool true, .bool true, .bool true, .int .i64 l, .int .i64 m] 70 (0, 0)) := by rw [← hw1]; exact blk_alloc (heap_alloc_new _ _) _
  have hk1 : w1.heap[w.heap.size + 1]? = some (.cells #[.int .i64 x.kind, .slice a1 x.key.length c1, .slice a2 x.val.length c2, .int .i64 x.num, .slice a3 x.nums.length c3] 49 (0, 0)) := by
    rw [← hw1]
    have := heap_alloc_new (w.alloc (.cells #[.string s, .bool true, .bool true, .bool true, .int .i64 l, .int .i64 m] 70)) (.cells #[.int .i64 x.kind, .slice a1 x.key.length c1, .slice a2 x.val.length c2, .int .i64 x.num, .slice a3 x.nums.length c3] 49)
    rw [World.size_alloc] at this
    exact this
  have hBlt : B < w.heap.size := by obtain ⟨v, h, _⟩ := hW; exact blk_lt h.blk
  have hn0 := hW.size
  have hW1 := hW.on hb1
  have hx1 := hx.on (hb1.mono hn0)
  have HC : Hid (∀ W, WStay B w1 W → (W.cell? ⟨w.heap.size, 0, none⟩ = some (.string s) ∧ W.cell? ⟨w.heap.size, 1, none⟩ = some (.bool true) ∧ W.cell? ⟨w.heap.size, 2, none⟩ = some (.bool true) ∧ W.cell? ⟨w.heap.size, 3, none⟩ = some (.bool true) ∧ W.cell? ⟨w.heap.size, 4, none⟩ = some (.int .i64 l) ∧ W.cell? ⟨w.heap.size, 5, none⟩ = some (.int .i64 m)) ∧
      (W.cell? ⟨w.heap.size + 1, 0, none⟩ = some (.int .i64 x.kind) ∧ W.cell? ⟨w.heap.size + 1, 1, none⟩ = some (.slice a1 x.key.length c1) ∧ W.cell? ⟨w.heap.size + 1, 2, none⟩ = some (.slice a2 x.val.length c2) ∧ W.cell? ⟨w.heap.size + 1, 3, none⟩ = some (.int .i64 x.num) ∧ W.cell? ⟨w.heap.size + 1, 4, none⟩ = some (.slice a3 x.nums.length c3))) := fun W h => by
    have h0 := h.blk hk0 (by omega) (by decide)
    have h1 := h.blk hk1 (by omega) (by decide)
    exact ⟨⟨blk_cell h0 0, blk_cell h0 1, blk_cell h0 2, blk_cell h0 3, blk_cell h0 4, blk_cell h0 5⟩, ⟨blk_cell h1 0, blk_cell h1 1, blk_cell h1 2, blk_cell h1 3, blk_cell h1 4⟩⟩
  obtain ⟨⟨y0, y1, y2, y3, y4, y5⟩, ⟨z0, z1, z2, z3, z4⟩⟩ := HC.out w1 (WStay.refl _ _)
  have HW1 := Lib.hid hw1
  have HB1 := Lib.hid hb1
  have HN0 := Lib.hid hn0
  have HX1 := Lib.hid hx1
  have HM0 := Lib.hid hW1
  have HS0 : Hid (WStay B w1 w1) := WStay.refl _ _
  have HD0 : Hid (Below n₀ w1 w1) := Below.refl _ _
  have HLR := Lib.hid hrow
  have uk : IntKind.u64.wrap x.kind = U (BitVec.ofInt 64 x.kind) := wrapU64_any _
  have un : IntKind.u64.wrap x.num = U (BitVec.ofInt 64 x.num) := wrapU64_any _
  have HCT := Lib.hid (fun W => counted_any s true true true l m W)
  rw [hlm] at HCT
  have h3 : (x.nums.length : Int) ≤ 100 := by have := hx.l3; omega
  clear hlm hW hrow hx hw1 hb1 hk0 hk1 hBlt hn0 hW1 hx1
  go_enter Try.func28, Try.ntmps28
  go_upto_region 1 with (fail)
  rw [HW1.out]
  clear HW1
  go_wp2_with (first
    | (go_at_call 40; (with_reducible refine (HCT.out _).mono ?_); rintro e wc ⟨rfl, hc⟩; have HM4c := Lib.hid (HM4.out.on hc); have HS4c := Lib.hid (HS4.out.trans (WStay.of_below hc)); have HD4c := Lib.hid (HD4.out.trans (hc.mono HM4.out.size)); clear hc; clear y0 y1 y2 y3 y4 y5 z0 z1 z2 z3 z4; obtain ⟨⟨y0, y1, y2, y3, y4, y5⟩, ⟨z0, z1, z2, z3, z4⟩⟩ := HC.out _ HS4c.out)
    | (go_at_call 26; (with_reducible refine (HM3.out.numI (x.num) 8 rfl (by have := HLR.out; have := HX1.out.l1; have := HX1.out.l2; have := HX1.out.l3; first | omega | (simp only [List.length_append, leI_len]; omega) | (simp only [List.length_append, leI_len, txt_len]; omega))).mono ?_); rintro e wq4 ⟨rfl, hm, hs, hd⟩; have HM4 := Lib.hid hm; have HS4 := Lib.hid (HS3.out.trans hs); have HD4 := Lib.hid (HD3.out.trans hd); clear hm hs hd; clear y0 y1 y2 y3 y4 y5 z0 z1 z2 z3 z4; obtain ⟨⟨y0, y1, y2, y3, y4, y5⟩, ⟨z0, z1, z2, z3, z4⟩⟩ := HC.out _ HS4.out)
    | (go_at_call 39; (with_reducible refine (HM2.out.text _ x.val (HX1.out.val.below HD2.out) HX1.out.l2 (by have := HLR.out; have := HX1.out.l1; have := HX1.out.l2; have := HX1.out.l3; first | omega | (simp only [List.length_append, leI_len]; omega) | (simp only [List.length_append, leI_len, txt_len]; omega))).mono ?_); rintro e wq3 ⟨rfl, hm, hs, hd⟩; have HM3 := Lib.hid hm; have HS3 := Lib.hid (HS2.out.trans hs); have HD3 := Lib.hid (HD2.out.trans hd); clear hm hs hd; clear y0 y1 y2 y3 y4 y5 z0 z1 z2 z3 z4; obtain ⟨⟨y0, y1, y2, y3, y4, y5⟩, ⟨z0, z1, z2, z3, z4⟩⟩ := HC.out _ HS3.out)
    | (go_at_call 39; (with_reducible refine (HM1.out.text _ x.key (HX1.out.key.below HD1.out) HX1.out.l1 (by have := HLR.out; have := HX1.out.l1; have := HX1.out.l2; have := HX1.out.l3; first | omega | (simp only [List.length_append, leI_len]; omega) | (simp only [List.length_append, leI_len, txt_len]; omega))).mono ?_); rintro e wq2 ⟨rfl, hm, hs, hd⟩; have HM2 := Lib.hid hm; have HS2 := Lib.hid (HS1.out.trans hs); have HD2 := Lib.hid (HD1.out.trans hd); clear hm hs hd; clear y0 y1 y2 y3 y4 y5 z0 z1 z2 z3 z4; obtain ⟨⟨y0, y1, y2, y3, y4, y5⟩, ⟨z0, z1, z2, z3, z4⟩⟩ := HC.out _ HS2.out)
    | (go_at_call 26; (with_reducible refine (HM0.out.numI (x.kind) 1 rfl (by have := HLR.out; have := HX1.out.l1; have := HX1.out.l2; have := HX1.out.l3; first | omega | (simp only [List.length_append, leI_len]; omega) | (simp only [List.length_append, leI_len, txt_len]; omega))).mono ?_); rintro e wq1 ⟨rfl, hm, hs, hd⟩; have HM1 := Lib.hid hm; have HS1 := Lib.hid (HS0.out.trans hs); have HD1 := Lib.hid (HD0.out.trans hd); clear hm hs hd; clear y0 y1 y2 y3 y4 y5 z0 z1 z2 z3 z4; obtain ⟨⟨y0, y1, y2, y3, y4, y5⟩, ⟨z0, z1, z2, z3, z4⟩⟩ := HC.out _ HS1.out))
  clear y0 y1 y2 y3 y4 y5 z0 z1 z2 z3 z4
  go_loopw [43] (fun i wr => ∃ j : Nat, j ≤ x.nums.length ∧ i = .int .i64 j ∧ WM n₀ B (((((row ++ leI 1 x.kind) ++ txt x.key) ++ txt x.val) ++ leI 8 x.num) ++ (x.nums.take j).flatMap (leI 8)) wr ∧ WStay B w1 wr ∧ Below n₀ w1 wr) (fun i _ => x.nums.length - (intOf i).toNat)
  case atStart => exact ⟨0, Nat.zero_le _, rfl, by simpa using HM4c.out, HS4c.out, HD4c.out⟩
  case round =>
    obtain ⟨j, hj, rfl, hM, hS, hD⟩ := hrel
    by_cases hlt : j < x.nums.length
    · obtain ⟨g, off, rfl, hg, he⟩ := (HX1.out.nums.below hD).get hlt
      have j1 : (j : Int) < x.nums.length := by omega
      have HFT := Lib.hid (flat_take x.nums j hlt)
      generalize x.nums[j]?.getD 0 = y at he HFT
      have uy : IntKind.u64.wrap y = U (BitVec.ofInt 64 y) := wrapU64_any _
      have HMJ := Lib.hid hM
      have HSJ := Lib.hid hS
      have HDJ := Lib.hid hD
      have HLT := Lib.hid hlt
      clear hM hS hD hlt hg hj
      go_wp2_with (go_at_call 26; (with_reducible refine (HMJ.out.numI y 8 rfl (by have := HLR.out; have := HX1.out.l1; have := HX1.out.l2; have := HX1.out.l3; have := HLT.out; first | (simp only [List.length_append, leI_len, flat_len, List.length_take]; omega) | (simp only [List.length_append, leI_len, txt_len, flat_len, List.length_take]; omega))).mono ?_); rintro e w9 ⟨rfl, hm, hs, hd⟩; have HM9 := Lib.hid hm; have HS9 := Lib.hid (HSJ.out.trans hs); have HD9 := Lib.hid (HDJ.out.trans hd); clear hm hs hd)
      go_roundw
      case rel => exact ⟨j + 1, HLT.out, by go_num, by rw [HFT.out, ← List.append_assoc]; exact HM9.out, HS9.out, HD9.out⟩
      case measure => have := HLT.out; simp [intOf]; omega
    · obtain rfl : j = x.nums.length := by omega
      have HMJ := Lib.hid hM
      have HSJ := Lib.hid hS
      have HDJ := Lib.hid hD
      clear hM hS hD
      go_wp2
      go_end0
      refine ⟨rfl, ?_, (WStay.of_below HB1.out).trans HSJ.out, (HB1.out.mono HN0.out).trans HDJ.out⟩
      have := HMJ.out
      rw [List.take_length] at this
      simpa [actB, List.append_assoc] using this
set_option maxRecDepth 100000 in
set_option maxHeartbeats 4000000 in
theorem write_none (s : ByteArray) (l m : Int) (hlm : decide (l < m) = false) {n₀ B : Nat} {row : List (BitVec 8)} {w : World} (hW : WM n₀ B row w) (hrow : row.length ≤ 540000000000) (x : SAct) (a1 a2 a3 : Option Addr) (c1 c2 c3 : Nat) (hx : Wok n₀ w x a1 a2 a3 c1 c2 c3) :
    Calls Try.prog 28 #[.agg #[.string s, .bool false, .bool false, .bool false, .int .i64 l, .int .i64 m], .pointer (some ⟨B, 0, none⟩), .agg #[.int .i64 x.kind, .slice a1 x.key.length c1, .slice a2 x.val.length c2, .int .i64 x.num, .slice a3 x.nums.length c3]] w (WmRet n₀ B (row ++ actB false false false false x) w) := by
  obtain ⟨w1, hw1⟩ : ∃ w1, (w.alloc (.cells #[.string s, .bool false, .bool false, .bool false, .int .i64 l, .int .i64 m] 70)).alloc (.cells #[.int .i64 x.kind, .slice a1 x.key.length c1, .slice a2 x.val.length c2, .int .i64 x.num, .slice a3 x.nums.length c3] 49) = w1 := ⟨_, rfl⟩
  have hb1 : Below w.heap.size w w1 := by rw [← hw1]; exact ((Below.refl _ w).alloc (Nat.le_refl _) _).alloc (by simp) _
  have hk0 : w1.heap[w.heap.size]? = some (.cells #[.string s, .bool false, .bool false, .bool false, .int .i64 l, .int .i64 m] 70 (0, 0)) := by rw [← hw1]; exact blk_alloc (heap_alloc_new _ _) _
  have hk1 : w1.heap[w.heap.size + 1]? = some (.cells #[.int .i64 x.kind, .slice a1 x.key.length c1, .slice a2 x.val.length c2, .int .i64 x.num, .slice a3 x.nums.length c3] 49 (0, 0)) := by
    rw [← hw1]
    have := heap_alloc_new (w.alloc (.cells #[.string s, .bool false, .bool false, .bool false, .int .i64 l, .int .i64 m] 70)) (.cells #[.int .i64 x.kind, .slice a1 x.key.length c1, .slice a2 x.val.length c2, .int .i64 x.num, .slice a3 x.nums.length c3] 49)
    rw [World.size_alloc] at this
    exact this
  have hBlt : B < w.heap.size := by obtain ⟨v, h, _⟩ := hW; exact blk_lt h.blk
  have hn0 := hW.size
  have hW1 := hW.on hb1
  have hx1 := hx.on (hb1.mono hn0)
  have HC : Hid (∀ W, WStay B w1 W → (W.cell? ⟨w.heap.size, 0, none⟩ = some (.string s) ∧ W.cell? ⟨w.heap.size, 1, none⟩ = some (.bool false) ∧ W.cell? ⟨w.heap.size, 2, none⟩ = some (.bool false) ∧ W.cell? ⟨w.heap.size, 3, none⟩ = some (.bool false) ∧ W.cell? ⟨w.heap.size, 4, none⟩ = some (.int .i64 l) ∧ W.cell? ⟨w.heap.size, 5, none⟩ = some (.int .i64 m)) ∧
      (W.cell? ⟨w.heap.size + 1, 0, none⟩ = some (.int .i64 x.kind) ∧ W.cell? ⟨w.heap.size + 1, 1, none⟩ = some (.slice a1 x.key.length c1) ∧ W.cell? ⟨w.heap.size + 1, 2, none⟩ = some (.slice a2 x.val.length c2) ∧ W.cell? ⟨w.heap.size + 1, 3, none⟩ = some (.int .i64 x.num) ∧ W.cell? ⟨w.heap.size + 1, 4, none⟩ = some (.slice a3 x.nums.length c3))) := fun W h => by
    have h0 := h.blk hk0 (by omega) (by decide)
    have h1 := h.blk hk1 (by omega) (by decide)
    exact ⟨⟨blk_cell h0 0, blk_cell h0 1, blk_cell h0 2, blk_cell h0 3, blk_cell h0 4, blk_cell h0 5⟩, ⟨blk_cell h1 0, blk_cell h1 1, blk_cell h1 2, blk_cell h1 3, blk_cell h1 4⟩⟩
  obtain ⟨⟨y0, y1, y2, y3, y4, y5⟩, ⟨z0, z1, z2, z3, z4⟩⟩ := HC.out w1 (WStay.refl _ _)
  have HW1 := Lib.hid hw1
  have HB1 := Lib.hid hb1
  have HN0 := Lib.hid hn0
  have HX1 := Lib.hid hx1
  have HM0 := Lib.hid hW1
  have HS0 : Hid (WStay B w1 w1) := WStay.refl _ _
  have HD0 : Hid (Below n₀ w1 w1) := Below.refl _ _
  have HLR := Lib.hid hrow
  have uk : IntKind.u64.wrap x.kind = U (BitVec.ofInt 64 x.kind) := wrapU64_any _
  have un : IntKind.u64.wrap x.num = U (BitVec.ofInt 64 x.num) := wrapU64_any _
  have HCT := Lib.hid (fun W => counted_any s false false false l m W)
  rw [hlm] at HCT
  have h3 : (x.nums.length : Int) ≤ 100 := by have := hx.l3; omega
  clear hlm hW hrow hx hw1 hb1 hk0 hk1 hBlt hn0 hW1 hx1
  go_enter Try.func28, Try.ntmps28
  go_upto_region 1 with (fail)
  rw [HW1.out]
  clear HW1
  go_wp2_with (first
    | (go_at_call 40; (with_reducible refine (HCT.out _).mono ?_); rintro e wc ⟨rfl, hc⟩; have HM1c := Lib.hid (HM1.out.on hc); have HS1c := Lib.hid (HS1.out.trans (WStay.of_below hc)); have HD1c := Lib.hid (HD1.out.trans (hc.mono HM1.out.size)); clear hc; clear y0 y1 y2 y3 y4 y5 z0 z1 z2 z3 z4; obtain ⟨⟨y0, y1, y2, y3, y4, y5⟩, ⟨z0, z1, z2, z3, z4⟩⟩ := HC.out _ HS1c.out)
    | (go_at_call 26; (with_reducible refine (HM0.out.numI (x.kind) 1 rfl (by have := HLR.out; have := HX1.out.l1; have := HX1.out.l2; have := HX1.out.l3; first | omega | (simp only [List.length_append, leI_len]; omega) | (simp only [List.length_append, leI_len, txt_len]; omega))).mono ?_); rintro e wq1 ⟨rfl, hm, hs, hd⟩; have HM1 := Lib.hid hm; have HS1 := Lib.hid (HS0.out.trans hs); have HD1 := Lib.hid (HD0.out.trans hd); clear hm hs hd; clear y0 y1 y2 y3 y4 y5 z0 z1 z2 z3 z4; obtain ⟨⟨y0, y1, y2, y3, y4, y5⟩, ⟨z0, z1, z2, z3, z4⟩⟩ := HC.out _ HS1.out))
  clear y0 y1 y2 y3 y4 y5 z0 z1 z2 z3 z4
  go_loopw [43] (fun i wr => ∃ j : Nat, j ≤ x.nums.length ∧ i = .int .i64 j ∧ WM n₀ B ((row ++ leI 1 x.kind) ++ (x.nums.take j).flatMap (leI 8)) wr ∧ WStay B w1 wr ∧ Below n₀ w1 wr) (fun i _ => x.nums.length - (intOf i).toNat)
  case atStart => exact ⟨0, Nat.zero_le _, rfl, by simpa using HM1c.out, HS1c.out, HD1c.out⟩
  case round =>
    obtain ⟨j, hj, rfl, hM, hS, hD⟩ := hrel
    by_cases hlt : j < x.nums.length
    · obtain ⟨g, off, rfl, hg, he⟩ := (HX1.out.nums.below hD).get hlt
      have j1 : (j : Int) < x.nums.length := by omega
      have HFT := Lib.hid (flat_take x.nums j hlt)
      generalize x.nums[j]?.getD 0 = y at he HFT
      have uy : IntKind.u64.wrap y = U (BitVec.ofInt 64 y) := wrapU64_any _
      have HMJ := Lib.hid hM
      have HSJ := Lib.hid hS
      have HDJ := Lib.hid hD
      have HLT := Lib.hid hlt
      clear hM hS hD hlt hg hj
      go_wp2_with (go_at_call 26; (with_reducible refine (HMJ.out.numI y 8 rfl (by have := HLR.out; have := HX1.out.l1; have := HX1.out.l2; have := HX1.out.l3; have := HLT.out; first | (simp only [List.length_append, leI_len, flat_len, List.length_take]; omega) | (simp only [List.length_append, leI_len, txt_len, flat_len, List.length_take]; omega))).mono ?_); rintro e w9 ⟨rfl, hm, hs, hd⟩; have HM9 := Lib.hid hm; have HS9 := Lib.hid (HSJ.out.trans hs); have HD9 := Lib.hid (HDJ.out.trans hd); clear hm hs hd)
      go_roundw
      case rel => exact ⟨j + 1, HLT.out, by go_num, by rw [HFT.out, ← List.append_assoc]; exact HM9.out, HS9.out, HD9.out⟩
      case measure => have := HLT.out; simp [intOf]; omega
    · obtain rfl : j = x.nums.length := by omega
      have HMJ := Lib.hid hM
      have HSJ := Lib.hid hS
      have HDJ := Lib.hid hD
      clear hM hS hD
      go_wp2
      go_end0
      refine ⟨rfl, ?_, (WStay.of_below HB1.out).trans HSJ.out, (HB1.out.mono HN0.out).trans HDJ.out⟩
      have := HMJ.out
      rw [List.take_length] at this
      simpa [actB, List.append_assoc] using this
set_option maxRecDepth 100000 in
set_option maxHeartbeats 4000000 in
theorem write_num (s : ByteArray) (l m : Int) (hlm : decide (l < m) = false) {n₀ B : Nat} {row : List (BitVec 8)} {w : World} (hW : WM n₀ B row w) (hrow : row.length ≤ 540000000000) (x : SAct) (a1 a2 a3 : Option Addr) (c1 c2 c3 : Nat) (hx : Wok n₀ w x a1 a2 a3 c1 c2 c3) :
    Calls Try.prog 28 #[.agg #[.string s, .bool false, .bool false, .bool true, .int .i64 l, .int .i64 m], .pointer (some ⟨B, 0, none⟩), .agg #[.int .i64 x.kind, .slice a1 x.key.length c1, .slice a2 x.val.length c2, .int .i64 x.num, .slice a3 x.nums.length c3]] w (WmRet n₀ B (row ++ actB false false true false x) w) := by
  obtain ⟨w1, hw1⟩ : ∃ w1, (w.alloc (.cells #[.string s, .bool false, .bool false, .bool true, .int .i64 l, .int .i64 m] 70)).alloc (.cells #[.int .i64 x.kind, .slice a1 x.key.length c1, .slice a2 x.val.length c2, .int .i64 x.num, .slice a3 x.nums.length c3] 49) = w1 := ⟨_, rfl⟩
  have hb1 : Below w.heap.size w w1 := by rw [← hw1]; exact ((Below.refl _ w).alloc (Nat.le_refl _) _).alloc (by simp) _
  have hk0 : w1.heap[w.heap.size]? = some (.cells #[.string s, .bool false, .bool false, .bool true, .int .i64 l, .int .i64 m] 70 (0, 0)) := by rw [← hw1]; exact blk_alloc (heap_alloc_new _ _) _
  have hk1 : w1.heap[w.heap.size + 1]? = some (.cells #[.int .i64 x.kind, .slice a1 x.key.length c1, .slice a2 x.val.length c2, .int .i64 x.num, .slice a3 x.nums.length c3] 49 (0, 0)) := by
    rw [← hw1]
    have := heap_alloc_new (w.alloc (.cells #[.string s, .bool false, .bool false, .bool true, .int .i64 l, .int .i64 m] 70)) (.cells #[.int .i64 x.kind, .slice a1 x.key.length c1, .slice a2 x.val.length c2, .int .i64 x.num, .slice a3 x.nums.length c3] 49)
    rw [World.size_alloc] at this
    exact this
  have hBlt : B < w.heap.size := by obtain ⟨v, h, _⟩ := hW; exact blk_lt h.blk
  have hn0 := hW.size
  have hW1 := hW.on hb1
  have hx1 := hx.on (hb1.mono hn0)
  have HC : Hid (∀ W, WStay B w1 W → (W.cell? ⟨w.heap.size, 0, none⟩ = some (.string s) ∧ W.cell? ⟨w.heap.size, 1, none⟩ = some (.bool false) ∧ W.cell? ⟨w.heap.size, 2, none⟩ = some (.bool false) ∧ W.cell? ⟨w.heap.size, 3, none⟩ = some (.bool true) ∧ W.cell? ⟨w.heap.size, 4, none⟩ = some (.int .i64 l) ∧ W.cell? ⟨w.heap.size, 5, none⟩ = some (.int .i64 m)) ∧
      (W.cell? ⟨w.heap.size + 1, 0, none⟩ = some (.int .i64 x.kind) ∧ W.cell? ⟨w.heap.size + 1, 1, none⟩ = some (.slice a1 x.key.length c1) ∧ W.cell? ⟨w.heap.size + 1, 2, none⟩ = some (.slice a2 x.val.length c2) ∧ W.cell? ⟨w.heap.size + 1, 3, none⟩ = some (.int .i64 x.num) ∧ W.cell? ⟨w.heap.size + 1, 4, none⟩ = some (.slice a3 x.nums.length c3))) := fun W h => by
    have h0 := h.blk hk0 (by omega) (by decide)
    have h1 := h.blk hk1 (by omega) (by decide)
    exact ⟨⟨blk_cell h0 0, blk_cell h0 1, blk_cell h0 2, blk_cell h0 3, blk_cell h0 4, blk_cell h0 5⟩, ⟨blk_cell h1 0, blk_cell h1 1, blk_cell h1 2, blk_cell h1 3, blk_cell h1 4⟩⟩
  obtain ⟨⟨y0, y1, y2, y3, y4, y5⟩, ⟨z0, z1, z2, z3, z4⟩⟩ := HC.out w1 (WStay.refl _ _)
  have HW1 := Lib.hid hw1
  have HB1 := Lib.hid hb1
  have HN0 := Lib.hid hn0
  have HX1 := Lib.hid hx1
  have HM0 := Lib.hid hW1
  have HS0 : Hid (WStay B w1 w1) := WStay.refl _ _
  have HD0 : Hid (Below n₀ w1 w1) := Below.refl _ _
  have HLR := Lib.hid hrow
  have uk : IntKind.u64.wrap x.kind = U (BitVec.ofInt 64 x.kind) := wrapU64_any _
  have un : IntKind.u64.wrap x.num = U (BitVec.ofInt 64 x.num) := wrapU64_any _
  have HCT := Lib.hid (fun W => counted_any s false false true l m W)
  rw [hlm] at HCT
  have h3 : (x.nums.length : Int) ≤ 100 := by have := hx.l3; omega
  clear hlm hW hrow hx hw1 hb1 hk0 hk1 hBlt hn0 hW1 hx1
  go_enter Try.func28, Try.ntmps28
  go_upto_region 1 with (fail)
  rw [HW1.out]
  clear HW1
  go_wp2_with (first
    | (go_at_call 40; (with_reducible refine (HCT.out _).mono ?_); rintro e wc ⟨rfl, hc⟩; have HM2c := Lib.hid (HM2.out.on hc); have HS2c := Lib.hid (HS2.out.trans (WStay.of_below hc)); have HD2c := Lib.hid (HD2.out.trans (hc.mono HM2.out.size)); clear hc; clear y0 y1 y2 y3 y4 y5 z0 z1 z2 z3 z4; obtain ⟨⟨y0, y1, y2, y3, y4, y5⟩, ⟨z0, z1, z2, z3, z4⟩⟩ := HC.out _ HS2c.out)
    | (go_at_call 26; (with_reducible refine (HM1.out.numI (x.num) 8 rfl (by have := HLR.out; have := HX1.out.l1; have := HX1.out.l2; have := HX1.out.l3; first | omega | (simp only [List.length_append, leI_len]; omega) | (simp only [List.length_append, leI_len, txt_len]; omega))).mono ?_); rintro e wq2 ⟨rfl, hm, hs, hd⟩; have HM2 := Lib.hid hm; have HS2 := Lib.hid (HS1.out.trans hs); have HD2 := Lib.hid (HD1.out.trans hd); clear hm hs hd; clear y0 y1 y2 y3 y4 y5 z0 z1 z2 z3 z4; obtain ⟨⟨y0, y1, y2, y3, y4, y5⟩, ⟨z0, z1, z2, z3, z4⟩⟩ := HC.out _ HS2.out)
    | (go_at_call 26; (with_reducible refine (HM0.out.numI (x.kind) 1 rfl (by have := HLR.out; have := HX1.out.l1; have := HX1.out.l2; have := HX1.out.l3; first | omega | (simp only [List.length_append, leI_len]; omega) | (simp only [List.length_append, leI_len, txt_len]; omega))).mono ?_); rintro e wq1 ⟨rfl, hm, hs, hd⟩; have HM1 := Lib.hid hm; have HS1 := Lib.hid (HS0.out.trans hs); have HD1 := Lib.hid (HD0.out.trans hd); clear hm hs hd; clear y0 y1 y2 y3 y4 y5 z0 z1 z2 z3 z4; obtain ⟨⟨y0, y1, y2, y3, y4, y5⟩, ⟨z0, z1, z2, z3, z4⟩⟩ := HC.out _ HS1.out))
  clear y0 y1 y2 y3 y4 y5 z0 z1 z2 z3 z4
  go_loopw [43] (fun i wr => ∃ j : Nat, j ≤ x.nums.length ∧ i = .int .i64 j ∧ WM n₀ B (((row ++ leI 1 x.kind) ++ leI 8 x.num) ++ (x.nums.take j).flatMap (leI 8)) wr ∧ WStay B w1 wr ∧ Below n₀ w1 wr) (fun i _ => x.nums.length - (intOf i).toNat)
  case atStart => exact ⟨0, Nat.zero_le _, rfl, by simpa using HM2c.out, HS2c.out, HD2c.out⟩
  case round =>
    obtain ⟨j, hj, rfl, hM, hS, hD⟩ := hrel
    by_cases hlt : j < x.nums.length
    · obtain ⟨g, off, rfl, hg, he⟩ := (HX1.out.nums.below hD).get hlt
      have j1 : (j : Int) < x.nums.length := by omega
      have HFT := Lib.hid (flat_take x.nums j hlt)
      generalize x.nums[j]?.getD 0 = y at he HFT
      have uy : IntKind.u64.wrap y = U (BitVec.ofInt 64 y) := wrapU64_any _
      have HMJ := Lib.hid hM
      have HSJ := Lib.hid hS
      have HDJ := Lib.hid hD
      have HLT := Lib.hid hlt
      clear hM hS hD hlt hg hj
      go_wp2_with (go_at_call 26; (with_reducible refine (HMJ.out.numI y 8 rfl (by have := HLR.out; have := HX1.out.l1; have := HX1.out.l2; have := HX1.out.l3; have := HLT.out; first | (simp only [List.length_append, leI_len, flat_len, List.length_take]; omega) | (simp only [List.length_append, leI_len, txt_len, flat_len, List.length_take]; omega))).mono ?_); rintro e w9 ⟨rfl, hm, hs, hd⟩; have HM9 := Lib.hid hm; have HS9 := Lib.hid (HSJ.out.trans hs); have HD9 := Lib.hid (HDJ.out.trans hd); clear hm hs hd)
      go_roundw
      case rel => exact ⟨j + 1, HLT.out, by go_num, by rw [HFT.out, ← List.append_assoc]; exact HM9.out, HS9.out, HD9.out⟩
      case measure => have := HLT.out; simp [intOf]; omega
    · obtain rfl : j = x.nums.length := by omega
      have HMJ := Lib.hid hM
      have HSJ := Lib.hid hS
      have HDJ := Lib.hid hD
      clear hM hS hD
      go_wp2
      go_end0
      refine ⟨rfl, ?_, (WStay.of_below HB1.out).trans HSJ.out, (HB1.out.mono HN0.out).trans HDJ.out⟩
      have := HMJ.out
      rw [List.take_length] at this
      simpa [actB, List.append_assoc] using this
set_option maxRecDepth 100000 in
set_option maxHeartbeats 4000000 in
theorem write_many (s : ByteArray) (l m : Int) (hlm : decide (l < m) = true) {n₀ B : Nat} {row : List (BitVec 8)} {w : World} (hW : WM n₀ B row w) (hrow : row.length ≤ 540000000000) (x : SAct) (a1 a2 a3 : Option Addr) (c1 c2 c3 : Nat) (hx : Wok n₀ w x a1 a2 a3 c1 c2 c3) :
    Calls Try.prog 28 #[.agg #[.string s, .bool false, .bool false, .bool false, .int .i64 l, .int .i64 m], .pointer (some ⟨B, 0, none⟩), .agg #[.int .i64 x.kind, .slice a1 x.key.length c1, .slice a2 x.val.length c2, .int .i64 x.num, .slice a3 x.nums.length c3]] w (WmRet n₀ B (row ++ actB false false false true x) w) := by
  obtain ⟨w1, hw1⟩ : ∃ w1, (w.alloc (.cells #[.string s, .bool false, .bool false, .bool false, .int .i64 l, .int .i64 m] 70)).alloc (.cells #[.int .i64 x.kind, .slice a1 x.key.length c1, .slice a2 x.val.length c2, .int .i64 x.num, .slice a3 x.nums.length c3] 49) = w1 := ⟨_, rfl⟩
  have hb1 : Below w.heap.size w w1 := by rw [← hw1]; exact ((Below.refl _ w).alloc (Nat.le_refl _) _).alloc (by simp) _
  have hk0 : w1.heap[w.heap.size]? = some (.cells #[.string s, .bool false, .bool false, .bool false, .int .i64 l, .int .i64 m] 70 (0, 0)) := by rw [← hw1]; exact blk_alloc (heap_alloc_new _ _) _
  have hk1 : w1.heap[w.heap.size + 1]? = some (.cells #[.int .i64 x.kind, .slice a1 x.key.length c1, .slice a2 x.val.length c2, .int .i64 x.num, .slice a3 x.nums.length c3] 49 (0, 0)) := by
    rw [← hw1]
    have := heap_alloc_new (w.alloc (.cells #[.string s, .bool false, .bool false, .bool false, .int .i64 l, .int .i64 m] 70)) (.cells #[.int .i64 x.kind, .slice a1 x.key.length c1, .slice a2 x.val.length c2, .int .i64 x.num, .slice a3 x.nums.length c3] 49)
    rw [World.size_alloc] at this
    exact this
  have hBlt : B < w.heap.size := by obtain ⟨v, h, _⟩ := hW; exact blk_lt h.blk
  have hn0 := hW.size
  have hW1 := hW.on hb1
  have hx1 := hx.on (hb1.mono hn0)
  have HC : Hid (∀ W, WStay B w1 W → (W.cell? ⟨w.heap.size, 0, none⟩ = some (.string s) ∧ W.cell? ⟨w.heap.size, 1, none⟩ = some (.bool false) ∧ W.cell? ⟨w.heap.size, 2, none⟩ = some (.bool false) ∧ W.cell? ⟨w.heap.size, 3, none⟩ = some (.bool false) ∧ W.cell? ⟨w.heap.size, 4, none⟩ = some (.int .i64 l) ∧ W.cell? ⟨w.heap.size, 5, none⟩ = some (.int .i64 m)) ∧
      (W.cell? ⟨w.heap.size + 1, 0, none⟩ = some (.int .i64 x.kind) ∧ W.cell? ⟨w.heap.size + 1, 1, none⟩ = some (.slice a1 x.key.length c1) ∧ W.cell? ⟨w.heap.size + 1, 2, none⟩ = some (.slice a2 x.val.length c2) ∧ W.cell? ⟨w.heap.size + 1, 3, none⟩ = some (.int .i64 x.num) ∧ W.cell? ⟨w.heap.size + 1, 4, none⟩ = some (.slice a3 x.nums.length c3))) := fun W h => by
    have h0 := h.blk hk0 (by omega) (by decide)
    have h1 := h.blk hk1 (by omega) (by decide)
    exact ⟨⟨blk_cell h0 0, blk_cell h0 1, blk_cell h0 2, blk_cell h0 3, blk_cell h0 4, blk_cell h0 5⟩, ⟨blk_cell h1 0, blk_cell h1 1, blk_cell h1 2, blk_cell h1 3, blk_cell h1 4⟩⟩
  obtain ⟨⟨y0, y1, y2, y3, y4, y5⟩, ⟨z0, z1, z2, z3, z4⟩⟩ := HC.out w1 (WStay.refl _ _)
  have HW1 := Lib.hid hw1
  have HB1 := Lib.hid hb1
  have HN0 := Lib.hid hn0
  have HX1 := Lib.hid hx1
  have HM0 := Lib.hid hW1
  have HS0 : Hid (WStay B w1 w1) := WStay.refl _ _
  have HD0 : Hid (Below n₀ w1 w1) := Below.refl _ _
  have HLR := Lib.hid hrow
  have uk : IntKind.u64.wrap x.kind = U (BitVec.ofInt 64 x.kind) := wrapU64_any _
  have un : IntKind.u64.wrap x.num = U (BitVec.ofInt 64 x.num) := wrapU64_any _
  have HCT := Lib.hid (fun W => counted_any s false false false l m W)
  rw [hlm] at HCT
  have h3 : (x.nums.length : Int) ≤ 100 := by have := hx.l3; omega
  clear hlm hW hrow hx hw1 hb1 hk0 hk1 hBlt hn0 hW1 hx1
  go_enter Try.func28, Try.ntmps28
  go_upto_region 1 with (fail)
  rw [HW1.out]
  clear HW1
  go_wp2_with (first
    | (go_at_call 26; (with_reducible refine (HM1c.out.numL x.nums.length 1 (by have := HX1.out.l3; omega) rfl (by have := HLR.out; have := HX1.out.l1; have := HX1.out.l2; have := HX1.out.l3; first | omega | (simp only [List.length_append, leI_len]; omega) | (simp only [List.length_append, leI_len, txt_len]; omega))).mono ?_); rintro e wq2 ⟨rfl, hm, hs, hd⟩; have HM2 := Lib.hid hm; have HS2 := Lib.hid (HS1c.out.trans hs); have HD2 := Lib.hid (HD1c.out.trans hd); clear hm hs hd; clear y0 y1 y2 y3 y4 y5 z0 z1 z2 z3 z4; obtain ⟨⟨y0, y1, y2, y3, y4, y5⟩, ⟨z0, z1, z2, z3, z4⟩⟩ := HC.out _ HS2.out)
    | (go_at_call 40; (with_reducible refine (HCT.out _).mono ?_); rintro e wc ⟨rfl, hc⟩; have HM1c := Lib.hid (HM1.out.on hc); have HS1c := Lib.hid (HS1.out.trans (WStay.of_below hc)); have HD1c := Lib.hid (HD1.out.trans (hc.mono HM1.out.size)); clear hc; clear y0 y1 y2 y3 y4 y5 z0 z1 z2 z3 z4; obtain ⟨⟨y0, y1, y2, y3, y4, y5⟩, ⟨z0, z1, z2, z3, z4⟩⟩ := HC.out _ HS1c.out)
    | (go_at_call 26; (with_reducible refine (HM0.out.numI (x.kind) 1 rfl (by have := HLR.out; have := HX1.out.l1; have := HX1.out.l2; have := HX1.out.l3; first | omega | (simp only [List.length_append, leI_len]; omega) | (simp only [List.length_append, leI_len, txt_len]; omega))).mono ?_); rintro e wq1 ⟨rfl, hm, hs, hd⟩; have HM1 := Lib.hid hm; have HS1 := Lib.hid (HS0.out.trans hs); have HD1 := Lib.hid (HD0.out.trans hd); clear hm hs hd; clear y0 y1 y2 y3 y4 y5 z0 z1 z2 z3 z4; obtain ⟨⟨y0, y1, y2, y3, y4, y5⟩, ⟨z0, z1, z2, z3, z4⟩⟩ := HC.out _ HS1.out))
  clear y0 y1 y2 y3 y4 y5 z0 z1 z2 z3 z4
  go_loopw [43] (fun i wr => ∃ j : Nat, j ≤ x.nums.length ∧ i = .int .i64 j ∧ WM n₀ B (((row ++ leI 1 x.kind) ++ leI 1 x.nums.length) ++ (x.nums.take j).flatMap (leI 8)) wr ∧ WStay B w1 wr ∧ Below n₀ w1 wr) (fun i _ => x.nums.length - (intOf i).toNat)
  case atStart => exact ⟨0, Nat.zero_le _, rfl, by simpa using HM2.out, HS2.out, HD2.out⟩
  case round =>
    obtain ⟨j, hj, rfl, hM, hS, hD⟩ := hrel
    by_cases hlt : j < x.nums.length
    · obtain ⟨g, off, rfl, hg, he⟩ := (HX1.out.nums.below hD).get hlt
      have j1 : (j : Int) < x.nums.length := by omega
      have HFT := Lib.hid (flat_take x.nums j hlt)
      generalize x.nums[j]?.getD 0 = y at he HFT
      have uy : IntKind.u64.wrap y = U (BitVec.ofInt 64 y) := wrapU64_any _
      have HMJ := Lib.hid hM
      have HSJ := Lib.hid hS
      have HDJ := Lib.hid hD
      have HLT := Lib.hid hlt
      clear hM hS hD hlt hg hj
      go_wp2_with (go_at_call 26; (with_reducible refine (HMJ.out.numI y 8 rfl (by have := HLR.out; have := HX1.out.l1; have := HX1.out.l2; have := HX1.out.l3; have := HLT.out; first | (simp only [List.length_append, leI_len, flat_len, List.length_take]; omega) | (simp only [List.length_append, leI_len, txt_len, flat_len, List.length_take]; omega))).mono ?_); rintro e w9 ⟨rfl, hm, hs, hd⟩; have HM9 := Lib.hid hm; have HS9 := Lib.hid (HSJ.out.trans hs); have HD9 := Lib.hid (HDJ.out.trans hd); clear hm hs hd)
      go_roundw
      case rel => exact ⟨j + 1, HLT.out, by go_num, by rw [HFT.out, ← List.append_assoc]; exact HM9.out, HS9.out, HD9.out⟩
      case measure => have := HLT.out; simp [intOf]; omega
    · obtain rfl : j = x.nums.length := by omega
      have HMJ := Lib.hid hM
      have HSJ := Lib.hid hS
      have HDJ := Lib.hid hD
      clear hM hS hD
      go_wp2
      go_end0
      refine ⟨rfl, ?_, (WStay.of_below HB1.out).trans HSJ.out, (HB1.out.mono HN0.out).trans HDJ.out⟩
      have := HMJ.out
      rw [List.take_length] at this
      simpa [actB, List.append_assoc] using this
end Go.Proofs.Ytgaabclgoolalaa

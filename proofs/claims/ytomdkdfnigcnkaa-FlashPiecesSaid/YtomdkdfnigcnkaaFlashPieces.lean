/-
  Proved: behind a crash a sector has the beginning of its loose write, and what was fast behind it. Whatever bytes and whatever fate come in, the law FlashPieces answers true and the arguments read as they did.
  Conditions: none.
-/
import Derived.Test.YtomdkdfnigcnkaaAwake04
import Derived.Test.YtomdkdfnigcnkaaOpenC
import Derived.Test.YtomdkdfnigcnkaaFlashApart
import Derived.Deep.RegionHeld3
import Derived.Deep.DeepCutAuto
import Derived.RegionTactic
import Derived.Outline
namespace Go.Proofs.Ytomdkdfnigcnkaa
open Go.ChangeShapes Go.WideShapes Go.ChangeAt Go.RowKit

/-- 'copy' of bytes to the head of a row. -/
theorem wpList_copy_bytes {w : World} {ops : Array Oper} {rest : List Oper} {o : Oper} {a : Act} {Q : Exit → Act → World → Prop} (hgd : o.guard = none) (d s : Operand) (ho : o.op = .call { callee := .builtin .copy, args := #[d, s], argTypes := #[42, 42] })
    {base g n cap : Nat} {xs bs : List (BitVec 8)} (hd : a.eval d = .slice (some ⟨g, 0, none⟩) n cap) (hown : w.ownsRow base 5 1 (.slice (some ⟨g, 0, none⟩) n cap) n (cellsOf xs)) {u : Value} (hs : a.eval s = u) {n₀ : Nat} (hu : BytesAt n₀ w u bs) (hl : bs.length ≤ n)
    (h : ∀ w', w'.ownsRow base 5 1 (.slice (some ⟨g, 0, none⟩) n cap) n (cellsOf (bs ++ xs.drop bs.length)) → Moves (fun k => k = g) w w' → wpList Try.prog ops Q rest (a.put o.dst (goInt bs.length)) w') : wpList Try.prog ops Q (o :: rest) a w := by
  have hu0 := hu
  obtain ⟨au, cu, rfl, _, _, hu⟩ := hu
  obtain ⟨cur, hg, hgb, hnc, hcs⟩ := own_block hown
  rcases hu with rfl | ⟨g', off', rfl, hg', hc⟩
  · refine wpList_copy_nothing hgd d s 42 42 ho 5 Try.underlying42 sizeU8 _ _ _ _ _ _ hd hs (by simp) ?_
    exact h w (by simpa using hown) (Moves.refl _ _)
  · have hcl : (cellsOf bs).length = bs.length := cellsOf_len bs
    have key := h (w.setRow g (cur.toList.take 0 ++ (cellsOf bs ++ cur.toList.drop (0 + (cellsOf bs).length))).toArray)
      (own_splice hown hg (by
        have := setRow_heap w g cur (cur.toList.take 0 ++ (cellsOf bs ++ cur.toList.drop (0 + (cellsOf bs).length))).toArray 5 _ hg
        exact this) hl)
      ⟨rfl, rfl, rfl, by simp [World.setRow], fun k _ hk => setRow_other w g k _ hk⟩
    rw [← hcl] at key
    exact wpList_copy_own hgd d s 42 42 ho 5 Try.underlying42 sizeU8 g 0 n cap ⟨g', off', none⟩ bs.length cu hd hs cur 5 hg (cellsOf bs) (by rw [hcl]; exact (Nat.min_eq_left hl).symm) hu0.news.2 (by rw [hcl]; omega) (cellsOf_one bs) key

theorem Same.trans {O : Foot} {a b c : World} (h : Same O a b) (k : Same O b c) : Same O a c := ⟨Nat.le_trans h.1 k.1, fun i hi => (k.2 i hi).trans (h.2 i hi)⟩
theorem same_alloc {w W : World} {Q : Foot} {D : Nat} {d : Dev} (h : DevApart w Q D d W) (o : Obj) : Same Q W (W.alloc o) := by
  obtain ⟨O, _, _, _, hi⟩ := h
  exact Same.of_below ((Below.refl _ _).alloc (Nat.le_refl _) _) hi
/-- Bytes filled up to 512. -/
def fill (bs : List (BitVec 8)) : List (BitVec 8) := bs ++ (zeros 512).drop bs.length
theorem fill_len (bs : List (BitVec 8)) (h : bs.length ≤ 512) : (fill bs).length = 512 := by
  unfold fill
  rw [List.length_append, List.length_drop, zeros_len]; omega

/-- The device behind all of it. -/
def pieceDev (X Y : List (BitVec 8)) (fate : Int) : Dev := (((((Dev.new 2 512).write 1 X).sync).write 1 Y).crash [fate])
theorem write_ok {d : Dev} {k : Nat} {bs : List (BitVec 8)} (h1 : d.down = false) (h2 : k < d.sectors) (h3 : bs.length = d.size) (h4 : d.armed = 0) : d.write k bs = (d.give k bs).act ∧ writeErr d k bs.length = 0 := by
  have ha : askErr d.sectors d.down k = 0 := by simp [askErr, h1]; omega
  refine ⟨by unfold Dev.write; rw [if_pos ⟨ha, h3⟩]; rfl, ?_⟩
  unfold writeErr
  rw [if_neg (by simpa using ha), if_neg (by simpa using h3), if_neg (by omega)]
theorem piece_err1 (X : List (BitVec 8)) (h : X.length = 512) : (Dev.new 2 512).write 1 X = ((Dev.new 2 512).give 1 X).act ∧ writeErr (Dev.new 2 512) 1 X.length = 0 := write_ok (d := Dev.new 2 512) (k := 1) rfl (by decide) h rfl
theorem piece_sync (X : List (BitVec 8)) (h : X.length = 512) : ((Dev.new 2 512).write 1 X).sync = (((((Dev.new 2 512).give 1 X).act).act).put 1 X).forget ∧ syncErr ((Dev.new 2 512).write 1 X) = 0 := by
  rw [(piece_err1 X h).1]
  exact ⟨rfl, rfl⟩
theorem piece_err2 (X Y : List (BitVec 8)) (h : X.length = 512) (hY : Y.length = 512) : (((Dev.new 2 512).write 1 X).sync).write 1 Y = ((((Dev.new 2 512).write 1 X).sync).give 1 Y).act ∧ writeErr (((Dev.new 2 512).write 1 X).sync) 1 Y.length = 0 := by
  rw [(piece_sync X h).1]
  exact write_ok (k := 1) rfl (show 1 < 2 by decide) hY rfl
theorem piece_end (X Y : List (BitVec 8)) (fate : Int) (h : X.length = 512) (hY : Y.length = 512) : (pieceDev X Y fate).cur 1 = Y.take (doneOf 512 fate) ++ X.drop (doneOf 512 fate) ∧ (pieceDev X Y fate).acts = 3 ∧ (pieceDev X Y fate).sectors = 2 ∧ (pieceDev X Y fate).size = 512 ∧ (pieceDev X Y fate).down = false := by
  unfold pieceDev
  rw [(piece_err2 X Y h hY).1, (piece_sync X h).1]
  exact ⟨rfl, rfl, rfl, rfl, rfl⟩
theorem strB_append (xs ys : List (BitVec 8)) : strB (xs ++ ys) = strB xs ++ strB ys := by
  apply ByteArray.ext
  simp [strB]

theorem two_rows (w : World) : let W := ((w.alloc (.cells (madeCells #[.int .u8 0] 512) 5)).alloc (.cells (madeCells #[.int .u8 0] 512) 5)).drew
    W.ownsRow w.heap.size 5 1 (.slice (some ⟨w.heap.size, 0, none⟩) 512 512) 512 (cellsOf (zeros 512)) ∧ W.ownsRow w.heap.size 5 1 (.slice (some ⟨w.heap.size + 1, 0, none⟩) 512 512) 512 (cellsOf (zeros 512)) ∧ Below w.heap.size w W := by
  intro W
  have h1 := own_zeros w w.heap.size 512 (Nat.le_refl _) (by decide)
  have h2 := own_zeros (w.alloc (.cells (madeCells #[.int .u8 0] 512) 5)) w.heap.size 512 (by simp) (by decide)
  have e : (w.alloc (.cells (madeCells #[.int .u8 0] 512) 5)).heap.size = w.heap.size + 1 := by simp
  rw [e] at h2
  exact ⟨(h1.alloc _).drew, h2.drew, (((Below.refl _ w).alloc (Nat.le_refl _) _).alloc (by simp) _).drew⟩

set_option maxRecDepth 100000 in
set_option maxHeartbeats 4000000 in
theorem flashPieces_walk (ws bs : List (BitVec 8)) (fate : Int) (v0 v1 : Value) (w : World) (hv0 : BytesAt w.heap.size w v0 ws) (hm0 : ws.length ≤ maxLen) (hv1 : BytesAt w.heap.size w v1 bs) (hm1 : bs.length ≤ maxLen) :
    Calls Try.prog 7 #[v0, v1, .int .i64 fate] w (Good w) := by
  unfold maxLen at hm0 hm1
  have HV0 := Lib.hid hv0
  have HV1 := Lib.hid hv1
  obtain ⟨a0, p0, rfl, _, _, _⟩ := hv0
  obtain ⟨a1, p1, rfl, _, _, _⟩ := hv1
  by_cases hbig : 512 < ws.length
  · have b1 : (512 : Int) < ws.length := by omega
    clear HV0 HV1
    go_enter Try.func7, Try.ntmps7
    go_wp2
    go_ret
    exact ⟨rfl, Below.refl _ _⟩
  by_cases hbig2 : 512 < bs.length
  · have b0 : (ws.length : Int) ≤ 512 := by omega
    have b1 : (512 : Int) < bs.length := by omega
    clear HV0 HV1
    go_enter Try.func7, Try.ntmps7
    go_wp2
    go_ret
    exact ⟨rfl, Below.refl _ _⟩
  have b0 : (ws.length : Int) ≤ 512 := by omega
  have b1 : (bs.length : Int) ≤ 512 := by omega
  have hXl := fill_len ws (by omega)
  have hYl := fill_len bs (by omega)
  have HNEW : Hid (Calls Try.prog 10 #[.int .i64 2, .int .i64 512] w fun e W' => ∃ D, e = .returned (.pointer (some ⟨D, 0, none⟩)) ∧ DevHere w D (Dev.new 2 512) W' ∧ Below w.heap.size w W') := here_new 2 512 (by decide) (Below.refl _ _)
  have hmk : ∀ W : World, (Instr.makeSlice 42 (.int .i64 512) (.int .i64 512)).run Try.prog W = .ok (.slice (some ⟨W.heap.size, 0, none⟩) 512 512) (W.alloc (.cells (madeCells #[.int .u8 0] 512) 5)) := makeBytes 512 (by decide)
  go_enter Try.func7, Try.ntmps7
  go_upto_region 4 with (go_at_call 10; (with_reducible refine HNEW.out.mono ?_); rintro e w1 ⟨D, rfl, hd1, hb1⟩; have HD := Lib.hid hd1; clear hd1 hb1)
  go_cut [8, 9] (fun s8 s9 wx => ∃ gx gy, s8 = .slice (some ⟨gx, 0, none⟩) 512 512 ∧ s9 = .slice (some ⟨gy, 0, none⟩) 512 512 ∧ gx ≠ gy ∧ wx.ownsRow w1.heap.size 5 1 (.slice (some ⟨gx, 0, none⟩) 512 512) 512 (cellsOf (zeros 512)) ∧ wx.ownsRow w1.heap.size 5 1 (.slice (some ⟨gy, 0, none⟩) 512 512) 512 (cellsOf (zeros 512)) ∧ Below w1.heap.size w1 wx)
  case first =>
    go_region
    all_goals (go_wp2_with fail)
    all_goals go_meet
    · exact ⟨_, _, rfl, rfl, by simp, (two_rows w1).1, (two_rows w1).2.1, (two_rows w1).2.2⟩
    · exact ⟨_, _, rfl, rfl, by simp, (two_rows w1).2.1, (two_rows w1).1, (two_rows w1).2.2⟩
  case rest =>
    obtain ⟨gx, gy, rfl, rfl, hne, hrx, hry, hbc⟩ := hcut
    have hu0 := HV0.out.below (HD.out.below.trans (hbc.mono HD.out.size))
    have HU1 := Lib.hid (HV1.out.below (HD.out.below.trans (hbc.mono HD.out.size)))
    have hgx : w1.heap.size ≤ gx := (hrx.lt gx rfl).1
    have hgy : w1.heap.size ≤ gy := (hry.lt gy rfl).1
    have hgxs : gx < wc.heap.size := (hrx.lt gx rfl).2
    have hgys : gy < wc.heap.size := (hry.lt gy rfl).2
    have HRX := Lib.hid hrx
    have HRY := Lib.hid hry
    have HBC := Lib.hid hbc
    have HU0 := Lib.hid hu0
    have l0 : ws.length ≤ 512 := by omega
    have l1 : bs.length ≤ 512 := by omega
    have hD1 := HD.out.size
    clear hrx hry hbc hu0 hmk
    go_upto_region 7 with (first
      | (refine wpList_copy_bytes (o := ⟨some 26, _, _, _, _, _⟩) rfl (.tmp 24) (.tmp 25) rfl rfl HRX.out rfl HU0.out l0 ?_; intro w3 hrx3 hm3; have HRX3 := Lib.hid hrx3; have HRY3 := Lib.hid (hm3.row HRY.out (fun k e hk => hne (by have e : gy = k := (by simpa [Value.ownBlock] using e); omega))); have HB3 := Lib.hid (HBC.out.trans ((hm3.below (B := w1.heap.size) (fun i e => by omega) HBC.out.size))); have HU1' := Lib.hid (HU1.out.below (hm3.below (B := w.heap.size) (fun i e => by omega) (Nat.le_trans hD1 HBC.out.size))); clear hrx3 hm3)
      | (refine wpList_copy_bytes (o := ⟨some 29, _, _, _, _, _⟩) rfl (.tmp 27) (.tmp 28) rfl rfl HRY3.out rfl HU1'.out l1 ?_; intro w4 hry4 hm4; have HRY4 := Lib.hid hry4; have HRX4 := Lib.hid (hm4.row HRX3.out (fun k e hk => hne (by have e : gx = k := (by simpa [Value.ownBlock] using e); omega))); have HB4 := Lib.hid (HB3.out.trans ((hm4.below (B := w1.heap.size) (fun i e => by omega) HB3.out.size))); clear hry4 hm4))
    obtain ⟨X, hX⟩ : ∃ X, fill ws = X := ⟨_, rfl⟩
    obtain ⟨Y, hY⟩ : ∃ Y, fill bs = Y := ⟨_, rfl⟩
    rw [hX] at hXl
    rw [hY] at hYl
    have HX4 : Hid (w4.ownsRow w1.heap.size 5 1 (.slice (some ⟨gx, 0, none⟩) 512 512) X.length (cellsOf X)) := by rw [hXl, ← hX]; exact HRX4.out
    have HY4 : Hid (w4.ownsRow w1.heap.size 5 1 (.slice (some ⟨gy, 0, none⟩) 512 512) Y.length (cellsOf Y)) := by rw [hYl, ← hY]; exact HRY4.out
    have HAP := Lib.hid (apart_of (Q := fun k => k = gx ∨ k = gy) HD.out HB4.out (fun k e => by omega) (fun k e => by have := HB4.out.size; have := (HX4.out.lt gx rfl).2; have := (HY4.out.lt gy rfl).2; omega))
    have HXW : Hid (∀ W, Same (fun k => k = gx ∨ k = gy) w4 W → BytesAt W.heap.size W (.slice (some ⟨gx, 0, none⟩) 512 512) X) := fun W h => BytesAt.of_owns (h.row HX4.out (fun k e => by have e : gx = k := (by simpa [Value.ownBlock] using e); exact .inl e.symm))
    have HYW : Hid (∀ W, Same (fun k => k = gx ∨ k = gy) w4 W → BytesAt W.heap.size W (.slice (some ⟨gy, 0, none⟩) 512 512) Y) := fun W h => BytesAt.of_owns (h.row HY4.out (fun k e => by have e : gy = k := (by simpa [Value.ownBlock] using e); exact .inr e.symm))
    have HXL := Lib.hid hXl
    have HYL := Lib.hid hYl
    obtain ⟨m, hm⟩ : ∃ m, doneOf 512 fate = m := ⟨_, rfl⟩
    have hm5 : m ≤ 512 := by rw [← hm]; exact doneOf_le 512 fate
    have HDM : Hid ((fate.tmod 513 + 513) % 513 = (m : Int)) := by
      have := done_math 512 fate
      rw [hm] at this
      exact this
    have HM := Lib.hid hm
    have ht1 := Int.lt_tmod_of_pos fate (show (0 : Int) < 513 by decide)
    have ht2 := Int.tmod_lt_of_pos fate (show (0 : Int) < 513 by decide)
    clear hX hY hXl hYl HRX4 HRY4 HX4 HY4 HRX3 HRY3 HRX HRY HB3 HU1 HU1' HU0 hm HV0 HV1
    have HW1 := Lib.hid (apart_write HAP.out 1 (HXW.out _ (Same.refl _ _)) (small_new 2 512) (by decide))
    rw [(piece_err1 X HXL.out).2] at HW1
    have HSY : Hid (∀ W, DevApart w (fun k => k = gx ∨ k = gy) D ((Dev.new 2 512).write 1 X) W → Calls Try.prog 16 #[.pointer (some ⟨D, 0, none⟩)] W (DidApart w (fun k => k = gx ∨ k = gy) D (((Dev.new 2 512).write 1 X).sync) (.int .i64 0) W)) := fun W h => by
      have := apart_sync h ((small_new 2 512).write _ _) (by decide)
      rwa [(piece_sync X HXL.out).2] at this
    have HW2 : Hid (∀ W, DevApart w (fun k => k = gx ∨ k = gy) D (((Dev.new 2 512).write 1 X).sync) W → BytesAt W.heap.size W (.slice (some ⟨gy, 0, none⟩) 512 512) Y → Calls Try.prog 26 #[.pointer (some ⟨D, 0, none⟩), .int .i64 1, .slice (some ⟨gy, 0, none⟩) 512 512] W (DidApart w (fun k => k = gx ∨ k = gy) D ((((Dev.new 2 512).write 1 X).sync).write 1 Y) (.int .i64 0) W)) := fun W h hb => by
      have := apart_write h 1 hb (((small_new 2 512).write _ _).sync) (by decide)
      rwa [(piece_err2 X Y HXL.out HYL.out).2] at this
    have HCR : Hid (∀ W, DevApart w (fun k => k = gx ∨ k = gy) D ((((Dev.new 2 512).write 1 X).sync).write 1 Y) W → Calls Try.prog 21 #[.pointer (some ⟨D, 0, none⟩), .slice (some ⟨W.heap.size, 0, none⟩) 1 1] (W.alloc (.cells #[.int .i64 fate] 3)) (DidApart w (fun k => k = gx ∨ k = gy) D (pieceDev X Y fate) (.tuple #[]) (W.alloc (.cells #[.int .i64 fate] 3)))) := fun W h =>
      apart_crash_new h [fate] ((Below.refl _ _).alloc (Nat.le_refl _) _) (heap_alloc_new _ _) ((((small_new 2 512).write _ _).sync).write _ _) (by decide) (by simp) rfl
    have hpe := piece_end X Y fate HXL.out HYL.out
    rw [HM.out] at hpe
    have HRD : Hid (∀ W, DevHere w D (pieceDev X Y fate) W → Calls Try.prog 18 #[.pointer (some ⟨D, 0, none⟩), .int .i64 1] W fun e W' => DevHere w D (pieceDev X Y fate) W' ∧ Below W.heap.size W W' ∧ ∃ v, e = .returned (.tuple #[v, .int .i64 0]) ∧ BytesAt W'.heap.size W' v (Y.take m ++ X.drop m)) := fun W h => by
      refine (here_read h 1).mono ?_
      rintro e W' ⟨h1, h2, v, he, hv⟩
      have ha : askErr (pieceDev X Y fate).sectors (pieceDev X Y fate).down 1 = 0 := by rw [hpe.2.2.1, hpe.2.2.2.2]; rfl
      rw [ha] at he hv
      rcases hv with hv | ⟨_, hv, hl⟩
      · exact absurd rfl hv.1
      · rw [show (1 : Int).toNat = 1 from rfl, hpe.1] at hv hl
        rw [← hl] at hv
        exact ⟨h1, h2, v, he, BytesAt.of_owns hv⟩
    have HAC : Hid (∀ W, DevHere w D (pieceDev X Y fate) W → Calls Try.prog 30 #[.pointer (some ⟨D, 0, none⟩)] W fun e W' => e = .returned (.int .i64 3) ∧ W = W') := fun W h => by
      have := here_acts h
      rwa [hpe.2.1] at this
    clear hpe
    generalize pieceDev X Y fate = d4 at HCR HRD HAC
    go_upto_region 11 with (first
      | (go_at_call 26; (with_reducible refine HW1.out.mono ?_); rintro e w5 ⟨rfl, hd5, hs5⟩; have HD5 := Lib.hid hd5; have HS5 := Lib.hid hs5; have HSYw := Lib.hid (HSY.out _ hd5); clear hd5 hs5)
      | (go_at_call 16; (with_reducible refine HSYw.out.mono ?_); rintro e w6 ⟨rfl, hd6, hs6⟩; have HS6 := Lib.hid (HS5.out.trans hs6); have HWw := Lib.hid (HW2.out _ hd6 (HYW.out _ HS6.out)); clear hd6 hs6)
      | (go_at_call 26; (with_reducible refine HWw.out.mono ?_); rintro e w7 ⟨rfl, hd7, hs7⟩; have HS7 := Lib.hid (HS6.out.trans hs7); have HCw := Lib.hid (HCR.out _ hd7); have HI7 := Lib.hid hd7; clear hd7 hs7)
      | (go_at_call 21; (with_reducible refine HCw.out.mono ?_); rintro e w8 ⟨rfl, hd8, hs8⟩; have HS8 := Lib.hid ((HS7.out.trans (same_alloc HI7.out _)).trans hs8); have HD8 := Lib.hid hd8; clear hd8 hs8))
    go_upto_if 52 with (fail)
    go_cut [10] (fun s10 wx => s10 = .int .i64 (m : Int) ∧ w8 = wx)
    case first =>
      by_cases hneg : fate.tmod 513 < 0
      · have e1 : fate.tmod 513 + 513 = (m : Int) := by have := HDM.out; omega
        have HE := Lib.hid e1
        clear e1
        go_wp2_with fail
        go_meet
        exact ⟨by rw [HE.out], rfl⟩
      · have e1 : fate.tmod 513 = (m : Int) := by have := HDM.out; omega
        have HE := Lib.hid e1
        have hpos : 0 ≤ fate.tmod 513 := by omega
        clear e1 hneg
        go_wp2_with fail
        go_meet
        exact ⟨by rw [HE.out], rfl⟩
    case rest =>
      obtain ⟨rfl, rfl⟩ := hcut
      have hrw := HRD.out _ HD8.out.here
      obtain ⟨Z, hZ⟩ : ∃ Z, Y.take m ++ X.drop m = Z := ⟨_, rfl⟩
      rw [hZ] at hrw
      have HZ := Lib.hid hZ
      have HRw := Lib.hid hrw
      clear hrw hZ
      clear ht1 ht2
      go_upto_region 14 with (go_at_call 18; (with_reducible refine HRw.out.mono ?_); rintro e w9 ⟨hd9, hb9, v9, rfl, hv9⟩; have HD9 := Lib.hid hd9; have HB9 := Lib.hid hb9; have HV9 := Lib.hid hv9; clear hd9 hb9 hv9)
      obtain ⟨a9, p9, rfl, _, _, _⟩ := id HV9.out
      have HX9 := Lib.hid ((HXW.out _ HS8.out).below HB9.out)
      have HY9 := Lib.hid ((HYW.out _ HS8.out).below HB9.out)
      obtain ⟨A, hA⟩ : ∃ A, strB (Y.take m) = A := ⟨_, rfl⟩
      obtain ⟨B, hB⟩ : ∃ B, strB (X.drop m) = B := ⟨_, rfl⟩
      have hzz : strB Z = A ++ B := by rw [← HZ.out, strB_append, hA, hB]
      have HCZ : Hid (∀ W, Below w9.heap.size w9 W → (convert 42 9 (.slice a9 Z.length p9)).run Try.prog W = .ok (.string (A ++ B)) W) := fun W hW => by
        rw [← hzz]; exact conv_str (HV9.out.below hW)
      have HCY : Hid (∀ W, Below w9.heap.size w9 W → (convert 42 9 (.slice (some ⟨gy, 0, none⟩) m 512)).run Try.prog W = .ok (.string A) W) := fun W hW => by
        rw [← hA]; exact conv_str ((HY9.out.pre m (by rw [HYL.out]; exact hm5)).below (hW.mono HB9.out.size))
      have m0 : (0 : Int) ≤ m := by omega
      have m5 : (m : Int) ≤ 512 := by omega
      have hBc := Lib.hid (Below.refl w9.heap.size w9).drew
      clear HXW HYW HSY HW2 HCR HRD HW1 HRw HBC
      by_cases hm6 : m < 512
      · have HCX : Hid (∀ W, Below w9.heap.size w9 W → (convert 42 9 (.slice (some ⟨gx, m, none⟩) (512 - m) (512 - m))).run Try.prog W = .ok (.string B) W) := fun W hW => by
          have h := (HX9.out.suf m (by rw [HXL.out]; exact hm5)).below (hW.mono HB9.out.size)
          rw [add_plain, Nat.zero_add] at h
          rw [← hB]; exact conv_str h
        have hm7 : (m : Int) < 512 := by omega
        have hm8 : ¬ 512 = m := by omega
        have hAB : ¬ (9223372036854775807 < A.size + B.size) := by
          have h8 := HYL.out
          have h9 := HXL.out
          rw [← hA, ← hB, strB_size, strB_size, List.length_take, List.length_drop]; omega
        clear hA hB hzz
        go_region_held3 (fun W => (convert 42 9 (.slice a9 Z.length p9)).run Try.prog W = .ok (.string (A ++ B)) W ∧ (convert 42 9 (.slice (some ⟨gy, 0, none⟩) m 512)).run Try.prog W = .ok (.string A) W ∧ (convert 42 9 (.slice (some ⟨gx, m, none⟩) (512 - m) (512 - m))).run Try.prog W = .ok (.string B) W)
          (exact ⟨HCZ.out _ hBc.out, HCY.out _ hBc.out, HCX.out _ hBc.out⟩)
          (first
            | (go_at_call 30; (with_reducible refine (HAC.out _ (HD9.out.on hBc.out)).mono ?_); rintro e w10 ⟨rfl, rfl⟩)
            | (go_at_call 14; (with_reducible refine (awake04 _).mono ?_); rintro e w11 ⟨rfl, hb11⟩; have hBn := hBc.out.trans (hb11.mono hBc.out.size); clear hBc hb11; have hBc := Lib.hid hBn; clear hBn))
        all_goals go_wp2
        all_goals go_ret
        all_goals exact ⟨rfl, HD9.out.below.trans (hBc.out.mono HD9.out.size)⟩
      · obtain rfl : m = 512 := by omega
        have HCX : Hid (∀ W, Below w9.heap.size w9 W → (convert 42 9 (.slice (some ⟨gx, 0, none⟩) 0 0)).run Try.prog W = .ok (.string B) W) := fun W hW => by
          have e : X.drop 512 = [] := List.drop_eq_nil_of_le (by rw [HXL.out]; exact Nat.le_refl _)
          rw [← hB, e]
          exact conv_str (n₀ := w9.heap.size) ⟨_, _, rfl, Nat.le_refl _, fun h => (by cases h), .inl rfl⟩
        have hAB : ¬ (9223372036854775807 < A.size + B.size) := by
          have h8 := HYL.out
          have h9 := HXL.out
          rw [← hA, ← hB, strB_size, strB_size, List.length_take, List.length_drop]; omega
        clear hA hB hzz hm6 m0 m5 hm5
        go_region_held3 (fun W => (convert 42 9 (.slice a9 Z.length p9)).run Try.prog W = .ok (.string (A ++ B)) W ∧ (convert 42 9 (.slice (some ⟨gy, 0, none⟩) 512 512)).run Try.prog W = .ok (.string A) W ∧ (convert 42 9 (.slice (some ⟨gx, 0, none⟩) 0 0)).run Try.prog W = .ok (.string B) W)
          (exact ⟨HCZ.out _ hBc.out, HCY.out _ hBc.out, HCX.out _ hBc.out⟩)
          (first
            | (go_at_call 30; (with_reducible refine (HAC.out _ (HD9.out.on hBc.out)).mono ?_); rintro e w10 ⟨rfl, rfl⟩)
            | (go_at_call 14; (with_reducible refine (awake04 _).mono ?_); rintro e w11 ⟨rfl, hb11⟩; have hBn := hBc.out.trans (hb11.mono hBc.out.size); clear hBc hb11; have hBc := Lib.hid hBn; clear hBn))
        all_goals go_wp2
        all_goals go_ret
        all_goals exact ⟨rfl, HD9.out.below.trans (hBc.out.mono HD9.out.size)⟩

set_option maxRecDepth 100000 in
theorem flashPieces_lifted (os : Os) (started : os.Started) (H : Type) (enc : TypeId × Value → H) :
    ReturnsInHanded {} Try.checked os 7 .any (Rows.flashPiecesSpec.pre6 enc Try.prog Try.f7 Rows.flashPiecesRow.domain false) (Rows.flashPiecesSpec.post enc Try.prog Try.f7 false true false false) :=
  law_lifted 7 Try.f7 Rows.flashPiecesSpec Try.func7 (by kernel_rfl) rfl rfl
    (fun ds h => by match ds, h with | [_, _, _], _ => rfl) (by kernel_rfl) os started
    (ChangeSpec.witness6 (enc := enc) (C := Try.checked) false ⟨#[], #[.slice none 0 0, .slice none 0 0, .int .i64 0], []⟩ 8 (by kernel_rfl) (by kernel_rfl) (by kernel_rfl) (by kernel_rfl))
    fun W args ds ps hval hA => by
      rw [Try.params7] at hA hval
      obtain ⟨v0, vs0, d0, ds0, p0, q0, hargs, rfl, rfl, h0, r0⟩ := trodAll_cons hA
      obtain ⟨v1, vs1, d1, ds1, p1, q1, rfl, rfl, rfl, h1, r1⟩ := trodAll_cons r0
      obtain ⟨v2, vs2, d2, ds2, p2, q2, rfl, rfl, rfl, h2, r2⟩ := trodAll_cons r1
      obtain ⟨rfl, rfl, rfl⟩ := trodAll_nil r2
      obtain rfl : args = #[v0, v1, v2] := by cases args; simp_all
      obtain ⟨b0, o0⟩ := hval 0 _ v0 rfl rfl
      obtain ⟨b1, o1⟩ := hval 1 _ v1 rfl rfl
      obtain ⟨b2, o2⟩ := hval 2 _ v2 rfl rfl
      obtain ⟨bs0, hb0, hm0⟩ := open_bytes o0 h0
      obtain ⟨bs1, hb1, hm1⟩ := open_bytes o1 h1
      obtain ⟨a2, rfl, rfl, rfl, w2⟩ := open_int Try.underlying3 o2 h2
      exact flashPieces_walk bs0 bs1 a2 v0 v1 W hb0 hm0 hb1 hm1

/-- The statement. -/
theorem flashPieces_holds : Rows.FlashPiecesSaid :=
  OpenClaim.holds_of_wide 7 Try.f7 rfl rfl rfl rfl rfl rfl rfl ⟨rfl, rfl, rfl, rfl, rfl⟩ rfl rfl rfl rfl rfl (by kernel_rfl) Try.func7 (by kernel_rfl)
    (of_decide_eq_true (by kernel_rfl)) (by unfold Func.isWrapper; first | (rw [if_pos (by decide +kernel)]; kernel_rfl) | (rw [if_neg (by decide +kernel)]; exact ⟨rfl, rfl⟩))
    (fun os started H enc _ => flashPieces_lifted os started H enc)
#print axioms flashPieces_holds

end Go.Proofs.Ytomdkdfnigcnkaa

/-
  Proved: the check is linear but for what noughts have. Whatever two texts come in, the law CrcOnes answers true and the arguments read as they did.
  Conditions: none.
-/
import Derived.Test.YtbhmieddjgklpaaCrcSplits
import Derived.Test.YtbhmieddjgklpaaCrcBursts
import Derived.Deep.OwnRows
import Derived.StillTailTactics
namespace Go.Proofs.Ytbhmieddjgklpaa
open Go.ChangeShapes Go.WideShapes Go.ChangeAt Go.RowKit Go.Deep

theorem crcAdd_ones (xs ys : List (BitVec 8)) (h : xs.length = ys.length) :
    crcAdd 0#32 xs ^^^ crcAdd 0#32 ys = crcAdd 0#32 (List.zipWith (· ^^^ ·) xs ys) ^^^ crcAdd 0#32 (List.replicate xs.length 0#8) := by
  have hx : ∀ x y : BitVec 32, ~~~ x ^^^ ~~~ y = x ^^^ y := by
    intro x y
    apply BitVec.eq_of_getLsbD_eq
    intro i hi
    simp [hi]
  unfold crcAdd
  rw [hx, hx]
  have h1 := runB_xor xs ys (~~~ 0#32) (~~~ 0#32) h
  have h2 := runB_xor (List.zipWith (· ^^^ ·) xs ys) (List.replicate xs.length 0#8) (~~~ 0#32) (~~~ 0#32) (by simp [h])
  rw [← h1, ← h2]
  congr 1
  apply List.ext_getElem
  · simp [h]
  · intro i h3 h4
    simp

theorem makeRow (n : Nat) (hn : n ≤ 1000) (W : World) : (Instr.makeSlice 22 (.int .i64 n) (.int .i64 n)).run Try.prog W = .ok (.slice (some ⟨W.heap.size, 0, none⟩) n n) (W.alloc (.cells (madeCells #[.int .u8 0] n) 5)) := by
  exact run_make_row' (P := Try.prog) 22 5 (.int .u8 0) 1 Try.underlying22 Try.infoU8 rfl .i64 .i64 n (by omega) (by omega) W
theorem made_zero (n : Nat) : (madeCells #[Value.int .u8 0] n).toList = cellsOf (List.replicate n 0#8) := by
  apply List.ext_getElem
  · simp [madeCells, cellsOf]
  · intro i h1 h2
    simp [madeCells, cellsOf]
    rw [Nat.mod_one]
    rfl

theorem fill_step (zw : List (BitVec 8)) (n k : Nat) (hz : zw.length = n) (hk : k < n) : (zw.take k ++ List.replicate (n - k) 0#8).set k (zw[k]?.getD 0) = zw.take (k + 1) ++ List.replicate (n - (k + 1)) 0#8 := by
  have e : n - k = (n - (k + 1)) + 1 := by omega
  have hkz : k < zw.length := by omega
  rw [List.set_append_right _ _ (by rw [List.length_take]; omega), e, List.replicate_succ]
  rw [List.length_take, Nat.min_eq_left (by omega), Nat.sub_self, List.set_cons_zero, take_one zw 0 k hkz, List.append_assoc]
  rfl
theorem fill_len (zw : List (BitVec 8)) (n k : Nat) (hz : zw.length = n) (hk : k ≤ n) : (zw.take k ++ List.replicate (n - k) 0#8).length = n := by
  rw [List.length_append, List.length_take, List.length_replicate]; omega
theorem zw_get (xs ys : List (BitVec 8)) (n k : Nat) (hx : n ≤ xs.length) (hy : n ≤ ys.length) (hk : k < n) : (List.zipWith (· ^^^ ·) (xs.take n) (ys.take n))[k]?.getD 0 = (xs[k]?.getD 0) ^^^ (ys[k]?.getD 0) := by
  have h1 : k < xs.length := by omega
  have h2 : k < ys.length := by omega
  rw [List.getElem?_zipWith]
  simp [hk, h1, h2]

set_option maxRecDepth 100000 in
set_option maxHeartbeats 8000000 in
theorem crcOnes_le (xs ys zw : List (BitVec 8)) (a b : Option Addr) (ca cb n m : Nat) (w : World) (hxl : xs.length = n) (hyl : ys.length = m) (hx : BytesAt w.heap.size w (.slice a n ca) xs) (hy : BytesAt w.heap.size w (.slice b m cb) ys)
    (h2 : m ≤ 1000) (hle : n ≤ m) (hca : n ≤ ca) (hcb : m ≤ cb) (hzw : zw = List.zipWith (· ^^^ ·) (xs.take n) (ys.take n)) :
    Calls Try.prog 6 #[.slice a n ca, .slice b m cb] w (Good w) := by
  have hzl : zw.length = n := by rw [hzw, List.length_zipWith, List.length_take, List.length_take]; omega
  have n0 : (0 : Int) ≤ n := by omega
  have n1 : (n : Int) ≤ 1000 := by omega
  have n2 : (m : Int) ≤ 1000 := by omega
  have n3 : (n : Int) ≤ (m : Int) := by omega
  have n4 : (n : Int) ≤ ca := by omega
  have n5 : (n : Int) ≤ cb := by omega
  have hmk := makeRow n (by omega)
  have HX := Lib.hid hxl
  have HY := Lib.hid hyl
  have hfirst : (((w.alloc (.cells (madeCells #[Value.int .u8 0] n) 5)).alloc (.cells (madeCells #[Value.int .u8 0] n) 5)).drew).ownsRow w.heap.size 5 1 (.slice (some ⟨w.heap.size, 0, none⟩) n n) n (cellsOf (List.replicate n 0#8)) := by
    have := World.ownsRow_lit (base := w.heap.size) (e := 5) (size := 1) w (madeCells #[Value.int .u8 0] n) n (Nat.le_refl _) (by unfold maxLen; omega) (by rw [size_madeCells]; omega)
    rw [made_zero] at this
    exact (this.alloc _).drew
  have hsecond : (((w.alloc (.cells (madeCells #[Value.int .u8 0] n) 5)).alloc (.cells (madeCells #[Value.int .u8 0] n) 5)).drew).ownsRow w.heap.size 5 1 (.slice (some ⟨w.heap.size + 1, 0, none⟩) n n) n (cellsOf (List.replicate n 0#8)) := by
    have := World.ownsRow_lit (base := w.heap.size) (e := 5) (size := 1) (w.alloc (.cells (madeCells #[Value.int .u8 0] n) 5)) (madeCells #[Value.int .u8 0] n) n (by simp) (by unfold maxLen; omega) (by rw [size_madeCells]; omega)
    rw [made_zero, World.size_alloc] at this
    exact this.drew
  have HZW := Lib.hid hzw
  have HZL := Lib.hid hzl
  clear hxl hyl hzw hzl
  go_enter Try.func6, Try.ntmps6
  go_wp2
  go_region
  all_goals go_wp2
  all_goals have hxl := HX.out
  all_goals have hyl := HY.out
  all_goals have hzw := HZW.out
  all_goals have hzl := HZL.out
  all_goals clear HX HY HZW HZL
  · have hr6 : (((w.alloc (.cells (madeCells #[Value.int .u8 0] n) 5)).alloc (.cells (madeCells #[Value.int .u8 0] n) 5)).drew).ownsRow w.heap.size 5 1 (.slice (some ⟨w.heap.size, 0, none⟩) n n) n (cellsOf (List.replicate n 0#8)) := hfirst
    have hr7 : (((w.alloc (.cells (madeCells #[Value.int .u8 0] n) 5)).alloc (.cells (madeCells #[Value.int .u8 0] n) 5)).drew).ownsRow w.heap.size 5 1 (.slice (some ⟨(w.heap.size + 1), 0, none⟩) n n) n (cellsOf (List.replicate n 0#8)) := hsecond
    have hB4 : Below w.heap.size w ((w.alloc (.cells (madeCells #[Value.int .u8 0] n) 5)).alloc (.cells (madeCells #[Value.int .u8 0] n) 5)).drew := (((Below.refl _ w).alloc (Nat.le_refl _) _).alloc (by simp) _).drew
    generalize ((w.alloc (.cells (madeCells #[Value.int .u8 0] n) 5)).alloc (.cells (madeCells #[Value.int .u8 0] n) 5)).drew = w4 at hr6 hr7 hB4 ⊢
    obtain ⟨g6, hg6⟩ : ∃ g, g = w.heap.size := ⟨_, rfl⟩
    obtain ⟨g7, hg7⟩ : ∃ g, g = (w.heap.size + 1) := ⟨_, rfl⟩
    have hne : g6 ≠ g7 := by omega
    have hge6 : w.heap.size ≤ g6 := by omega
    have hr6 : w4.ownsRow w.heap.size 5 1 (.slice (some ⟨g6, 0, none⟩) n n) n (cellsOf (List.replicate n 0#8)) := by rw [hg6]; exact hr6
    have hr7 : w4.ownsRow w.heap.size 5 1 (.slice (some ⟨g7, 0, none⟩) n n) n (cellsOf (List.replicate n 0#8)) := by rw [hg7]; exact hr7
    rw [← hg7, ← hg6]
    clear hg6 hg7 hfirst hsecond
    go_loopw [8] (fun iv wr => ∃ k : Nat, k ≤ n ∧ iv = .int .i64 k ∧ wr.ownsRow w.heap.size 5 1 (.slice (some ⟨g6, 0, none⟩) n n) n (cellsOf (zw.take k ++ List.replicate (n - k) 0#8)) ∧ wr.ownsRow w.heap.size 5 1 (.slice (some ⟨g7, 0, none⟩) n n) n (cellsOf (List.replicate n 0#8)) ∧ Below w.heap.size w wr) (fun iv _ => n - (intOf iv).toNat)
    case atStart => exact ⟨0, Nat.zero_le _, rfl, by simpa using hr6, hr7, hB4⟩
    case round =>
      obtain ⟨k, hk, rfl, h6, h7, hB⟩ := hrel
      clear hr6 hr7
      by_cases hlt : k < n
      · have hx2 := hx.below hB
        have hy2 := hy.below hB
        obtain ⟨a', ca', ea, _, hx3⟩ := hx2
        simp only [Value.slice.injEq] at ea
        obtain ⟨rfl, ea1, rfl⟩ := ea
        clear ea1
        obtain ⟨b', cb', eb, _, hy3⟩ := hy2
        simp only [Value.slice.injEq] at eb
        obtain ⟨rfl, eb1, rfl⟩ := eb
        clear eb1
        rcases hx3 with h | ⟨ga, offa, rfl, _, hxa⟩
        · subst h; simp at hxl; omega
        rcases hy3 with h | ⟨gb, offb, rfl, _, hyb⟩
        · subst h; simp at hyl; omega
        have cx := hxa k (by omega)
        have cy := hyb k (by omega)
        have FS := fill_step zw n k hzl hlt
        have HZ := zw_get xs ys n k (by omega) (by omega) hlt
        rw [← hzw] at HZ
        rw [HZ] at FS
        have HF := Lib.hid FS
        have c6 : wr.cell? ⟨g6, k, none⟩ = some (.int .u8 (U ((zw.take k ++ List.replicate (n - k) 0#8)[k]?.getD 0))) := by
          rw [h6.cellAt k (by omega)]
          exact cellsOf_get _ k (by rw [fill_len zw n k hzl (by omega)]; exact hlt)
        have f6 : wr.frozen? ⟨g6, k, none⟩ = false := h6.frozenAt k
        have e6 := xor_u8 (xs[k]?.getD 0) (ys[k]?.getD 0)
        have k0 : (0 : Int) ≤ k := by omega
        have k1 : (k : Int) < n := by omega
        have k2 : (k : Int) < m := by omega
        clear hxa hyb FS HZ hxl hyl hzw hzl
        generalize xs[k]?.getD 0 = xk at cx HF e6
        generalize ys[k]?.getD 0 = yk at cy HF e6
        generalize (zw.take k ++ List.replicate (n - k) 0#8)[k]?.getD 0 = zk at c6
        go_wp2
        go_still_tail 12, (by kernel_rfl)
        change wpList _ _ _ _ _ wr.drew
        go_wp2
        go_roundw
        case rel =>
          refine ⟨k + 1, by omega, by go_num, ?_, ?_, (hB.drew.setCell (p := ⟨g6, k, none⟩) hge6 _)⟩
          · rw [← HF.out, ← cellsOf_set]
            exact (h6.drew.stored k _).1
          · exact h7.drew.kept (h6.drew.stored k _).2 (.inr (by simp only [Value.ownBlock, ne_eq, Option.some.injEq]; omega))
        case measure => simp [intOf]; omega
      · obtain rfl : k = n := by omega
        have hz0 : zw.take k ++ List.replicate (k - k) 0#8 = zw := by rw [Nat.sub_self, ← hzl, List.take_length]; simp
        rw [hz0] at h6
        have hzb : BytesAt wr.heap.size wr (.slice (some ⟨g6, 0, none⟩) k k) zw := by
          have := BytesAt.of_owns (w := wr) (base := w.heap.size) (v := .slice (some ⟨g6, 0, none⟩) k k) (bs := zw) (by rw [hzl]; exact h6)
          exact this
        have hnb : BytesAt wr.heap.size wr (.slice (some ⟨g7, 0, none⟩) k k) (List.replicate k 0#8) := by
          have := BytesAt.of_owns (w := wr) (base := w.heap.size) (v := .slice (some ⟨g7, 0, none⟩) k k) (bs := List.replicate k 0#8) (by rw [List.length_replicate]; exact h7)
          exact this
        have s1 := Steady.sum ((((hx.pre k (by omega)).below hB).mono hB.size)) (by rw [List.length_take]; omega)
        have s2 := Steady.sum ((((hy.pre k (by omega)).below hB).mono hB.size)) (by rw [List.length_take]; omega)
        have s3 := Steady.sum hzb (by omega)
        have s4 := Steady.sum hnb (by rw [List.length_replicate]; omega)
        have hawake : Steady wr 18 #[] (.bool true) := Steady.of fun W _ => awake01 W
        have hones := crcAdd_ones (xs.take k) (ys.take k) (by rw [List.length_take, List.length_take]; omega)
        rw [← hzw, show (xs.take k).length = k by rw [List.length_take]; omega] at hones
        generalize crcAdd 0#32 (xs.take k) = q1 at s1 hones
        generalize crcAdd 0#32 (ys.take k) = q2 at s2 hones
        generalize crcAdd 0#32 zw = q3 at s3 hones
        generalize crcAdd 0#32 (List.replicate k 0#8) = q4 at s4 hones
        have e1 := xor_u32 q1 q2
        have e2 := xor_u32 q3 q4
        rw [hones] at e1
        have k0 : (0 : Int) ≤ k := by omega
        clear hones hzb hnb h6 h7 hmk hzw hzl hxl hyl hz0
        go_wp2_with fail
        go_region_held3 (fun W => Below wr.heap.size wr W) (first | assumption | exact (Below.refl _ _).drew | exact Below.drew (by assumption)) (first
          | (go_at_call 15; first | ((with_reducible refine (s1.use _ (by assumption)).mono ?_); rintro e w1 ⟨rfl, hb1, hc1⟩) | ((with_reducible refine (s2.use _ (by assumption)).mono ?_); rintro e w1 ⟨rfl, hb1, hc1⟩) | ((with_reducible refine (s3.use _ (by assumption)).mono ?_); rintro e w1 ⟨rfl, hb1, hc1⟩) | ((with_reducible refine (s4.use _ (by assumption)).mono ?_); rintro e w1 ⟨rfl, hb1, hc1⟩))
          | (go_at_call 18; refine (hawake.use _ (by assumption)).mono ?_; rintro e w5 ⟨rfl, hb5, hc5⟩))
        all_goals go_wp2
        all_goals go_ret
        all_goals exact ⟨rfl, hB.trans (Below.mono (by assumption) hB.size)⟩
  · have hr6 : (((w.alloc (.cells (madeCells #[Value.int .u8 0] n) 5)).alloc (.cells (madeCells #[Value.int .u8 0] n) 5)).drew).ownsRow w.heap.size 5 1 (.slice (some ⟨(w.heap.size + 1), 0, none⟩) n n) n (cellsOf (List.replicate n 0#8)) := hsecond
    have hr7 : (((w.alloc (.cells (madeCells #[Value.int .u8 0] n) 5)).alloc (.cells (madeCells #[Value.int .u8 0] n) 5)).drew).ownsRow w.heap.size 5 1 (.slice (some ⟨w.heap.size, 0, none⟩) n n) n (cellsOf (List.replicate n 0#8)) := hfirst
    have hB4 : Below w.heap.size w ((w.alloc (.cells (madeCells #[Value.int .u8 0] n) 5)).alloc (.cells (madeCells #[Value.int .u8 0] n) 5)).drew := (((Below.refl _ w).alloc (Nat.le_refl _) _).alloc (by simp) _).drew
    generalize ((w.alloc (.cells (madeCells #[Value.int .u8 0] n) 5)).alloc (.cells (madeCells #[Value.int .u8 0] n) 5)).drew = w4 at hr6 hr7 hB4 ⊢
    obtain ⟨g6, hg6⟩ : ∃ g, g = (w.heap.size + 1) := ⟨_, rfl⟩
    obtain ⟨g7, hg7⟩ : ∃ g, g = w.heap.size := ⟨_, rfl⟩
    have hne : g6 ≠ g7 := by omega
    have hge6 : w.heap.size ≤ g6 := by omega
    have hr6 : w4.ownsRow w.heap.size 5 1 (.slice (some ⟨g6, 0, none⟩) n n) n (cellsOf (List.replicate n 0#8)) := by rw [hg6]; exact hr6
    have hr7 : w4.ownsRow w.heap.size 5 1 (.slice (some ⟨g7, 0, none⟩) n n) n (cellsOf (List.replicate n 0#8)) := by rw [hg7]; exact hr7
    rw [← hg6, ← hg7]
    clear hg6 hg7 hfirst hsecond
    go_loopw [8] (fun iv wr => ∃ k : Nat, k ≤ n ∧ iv = .int .i64 k ∧ wr.ownsRow w.heap.size 5 1 (.slice (some ⟨g6, 0, none⟩) n n) n (cellsOf (zw.take k ++ List.replicate (n - k) 0#8)) ∧ wr.ownsRow w.heap.size 5 1 (.slice (some ⟨g7, 0, none⟩) n n) n (cellsOf (List.replicate n 0#8)) ∧ Below w.heap.size w wr) (fun iv _ => n - (intOf iv).toNat)
    case atStart => exact ⟨0, Nat.zero_le _, rfl, by simpa using hr6, hr7, hB4⟩
    case round =>
      obtain ⟨k, hk, rfl, h6, h7, hB⟩ := hrel
      clear hr6 hr7
      by_cases hlt : k < n
      · have hx2 := hx.below hB
        have hy2 := hy.below hB
        obtain ⟨a', ca', ea, _, hx3⟩ := hx2
        simp only [Value.slice.injEq] at ea
        obtain ⟨rfl, ea1, rfl⟩ := ea
        clear ea1
        obtain ⟨b', cb', eb, _, hy3⟩ := hy2
        simp only [Value.slice.injEq] at eb
        obtain ⟨rfl, eb1, rfl⟩ := eb
        clear eb1
        rcases hx3 with h | ⟨ga, offa, rfl, _, hxa⟩
        · subst h; simp at hxl; omega
        rcases hy3 with h | ⟨gb, offb, rfl, _, hyb⟩
        · subst h; simp at hyl; omega
        have cx := hxa k (by omega)
        have cy := hyb k (by omega)
        have FS := fill_step zw n k hzl hlt
        have HZ := zw_get xs ys n k (by omega) (by omega) hlt
        rw [← hzw] at HZ
        rw [HZ] at FS
        have HF := Lib.hid FS
        have c6 : wr.cell? ⟨g6, k, none⟩ = some (.int .u8 (U ((zw.take k ++ List.replicate (n - k) 0#8)[k]?.getD 0))) := by
          rw [h6.cellAt k (by omega)]
          exact cellsOf_get _ k (by rw [fill_len zw n k hzl (by omega)]; exact hlt)
        have f6 : wr.frozen? ⟨g6, k, none⟩ = false := h6.frozenAt k
        have e6 := xor_u8 (xs[k]?.getD 0) (ys[k]?.getD 0)
        have k0 : (0 : Int) ≤ k := by omega
        have k1 : (k : Int) < n := by omega
        have k2 : (k : Int) < m := by omega
        clear hxa hyb FS HZ hxl hyl hzw hzl
        generalize xs[k]?.getD 0 = xk at cx HF e6
        generalize ys[k]?.getD 0 = yk at cy HF e6
        generalize (zw.take k ++ List.replicate (n - k) 0#8)[k]?.getD 0 = zk at c6
        go_wp2
        go_still_tail 12, (by kernel_rfl)
        change wpList _ _ _ _ _ wr.drew
        go_wp2
        go_roundw
        case rel =>
          refine ⟨k + 1, by omega, by go_num, ?_, ?_, (hB.drew.setCell (p := ⟨g6, k, none⟩) hge6 _)⟩
          · rw [← HF.out, ← cellsOf_set]
            exact (h6.drew.stored k _).1
          · exact h7.drew.kept (h6.drew.stored k _).2 (.inr (by simp only [Value.ownBlock, ne_eq, Option.some.injEq]; omega))
        case measure => simp [intOf]; omega
      · obtain rfl : k = n := by omega
        have hz0 : zw.take k ++ List.replicate (k - k) 0#8 = zw := by rw [Nat.sub_self, ← hzl, List.take_length]; simp
        rw [hz0] at h6
        have hzb : BytesAt wr.heap.size wr (.slice (some ⟨g6, 0, none⟩) k k) zw := by
          have := BytesAt.of_owns (w := wr) (base := w.heap.size) (v := .slice (some ⟨g6, 0, none⟩) k k) (bs := zw) (by rw [hzl]; exact h6)
          exact this
        have hnb : BytesAt wr.heap.size wr (.slice (some ⟨g7, 0, none⟩) k k) (List.replicate k 0#8) := by
          have := BytesAt.of_owns (w := wr) (base := w.heap.size) (v := .slice (some ⟨g7, 0, none⟩) k k) (bs := List.replicate k 0#8) (by rw [List.length_replicate]; exact h7)
          exact this
        have s1 := Steady.sum ((((hx.pre k (by omega)).below hB).mono hB.size)) (by rw [List.length_take]; omega)
        have s2 := Steady.sum ((((hy.pre k (by omega)).below hB).mono hB.size)) (by rw [List.length_take]; omega)
        have s3 := Steady.sum hzb (by omega)
        have s4 := Steady.sum hnb (by rw [List.length_replicate]; omega)
        have hawake : Steady wr 18 #[] (.bool true) := Steady.of fun W _ => awake01 W
        have hones := crcAdd_ones (xs.take k) (ys.take k) (by rw [List.length_take, List.length_take]; omega)
        rw [← hzw, show (xs.take k).length = k by rw [List.length_take]; omega] at hones
        generalize crcAdd 0#32 (xs.take k) = q1 at s1 hones
        generalize crcAdd 0#32 (ys.take k) = q2 at s2 hones
        generalize crcAdd 0#32 zw = q3 at s3 hones
        generalize crcAdd 0#32 (List.replicate k 0#8) = q4 at s4 hones
        have e1 := xor_u32 q1 q2
        have e2 := xor_u32 q3 q4
        rw [hones] at e1
        have k0 : (0 : Int) ≤ k := by omega
        clear hones hzb hnb h6 h7 hmk hzw hzl hxl hyl hz0
        go_wp2_with fail
        go_region_held3 (fun W => Below wr.heap.size wr W) (first | assumption | exact (Below.refl _ _).drew | exact Below.drew (by assumption)) (first
          | (go_at_call 15; first | ((with_reducible refine (s1.use _ (by assumption)).mono ?_); rintro e w1 ⟨rfl, hb1, hc1⟩) | ((with_reducible refine (s2.use _ (by assumption)).mono ?_); rintro e w1 ⟨rfl, hb1, hc1⟩) | ((with_reducible refine (s3.use _ (by assumption)).mono ?_); rintro e w1 ⟨rfl, hb1, hc1⟩) | ((with_reducible refine (s4.use _ (by assumption)).mono ?_); rintro e w1 ⟨rfl, hb1, hc1⟩))
          | (go_at_call 18; refine (hawake.use _ (by assumption)).mono ?_; rintro e w5 ⟨rfl, hb5, hc5⟩))
        all_goals go_wp2
        all_goals go_ret
        all_goals exact ⟨rfl, hB.trans (Below.mono (by assumption) hB.size)⟩

set_option maxRecDepth 100000 in
set_option maxHeartbeats 8000000 in
theorem crcOnes_gt (xs ys zw : List (BitVec 8)) (a b : Option Addr) (ca cb n m : Nat) (w : World) (hxl : xs.length = m) (hyl : ys.length = n) (hx : BytesAt w.heap.size w (.slice a m ca) xs) (hy : BytesAt w.heap.size w (.slice b n cb) ys)
    (h2 : m ≤ 1000) (hle : n < m) (hca : m ≤ ca) (hcb : n ≤ cb) (hzw : zw = List.zipWith (· ^^^ ·) (xs.take n) (ys.take n)) :
    Calls Try.prog 6 #[.slice a m ca, .slice b n cb] w (Good w) := by
  have hzl : zw.length = n := by rw [hzw, List.length_zipWith, List.length_take, List.length_take]; omega
  have n0 : (0 : Int) ≤ n := by omega
  have n1 : (n : Int) ≤ 1000 := by omega
  have n2 : (m : Int) ≤ 1000 := by omega
  have n3 : (n : Int) < (m : Int) := by omega
  have n4 : (n : Int) ≤ ca := by omega
  have n5 : (n : Int) ≤ cb := by omega
  have hmk := makeRow n (by omega)
  have HX := Lib.hid hxl
  have HY := Lib.hid hyl
  have hfirst : (((w.alloc (.cells (madeCells #[Value.int .u8 0] n) 5)).alloc (.cells (madeCells #[Value.int .u8 0] n) 5)).drew).ownsRow w.heap.size 5 1 (.slice (some ⟨w.heap.size, 0, none⟩) n n) n (cellsOf (List.replicate n 0#8)) := by
    have := World.ownsRow_lit (base := w.heap.size) (e := 5) (size := 1) w (madeCells #[Value.int .u8 0] n) n (Nat.le_refl _) (by unfold maxLen; omega) (by rw [size_madeCells]; omega)
    rw [made_zero] at this
    exact (this.alloc _).drew
  have hsecond : (((w.alloc (.cells (madeCells #[Value.int .u8 0] n) 5)).alloc (.cells (madeCells #[Value.int .u8 0] n) 5)).drew).ownsRow w.heap.size 5 1 (.slice (some ⟨w.heap.size + 1, 0, none⟩) n n) n (cellsOf (List.replicate n 0#8)) := by
    have := World.ownsRow_lit (base := w.heap.size) (e := 5) (size := 1) (w.alloc (.cells (madeCells #[Value.int .u8 0] n) 5)) (madeCells #[Value.int .u8 0] n) n (by simp) (by unfold maxLen; omega) (by rw [size_madeCells]; omega)
    rw [made_zero, World.size_alloc] at this
    exact this.drew
  have HZW := Lib.hid hzw
  have HZL := Lib.hid hzl
  clear hxl hyl hzw hzl
  go_enter Try.func6, Try.ntmps6
  go_wp2
  go_region
  all_goals go_wp2
  all_goals have hxl := HX.out
  all_goals have hyl := HY.out
  all_goals have hzw := HZW.out
  all_goals have hzl := HZL.out
  all_goals clear HX HY HZW HZL
  · have hr6 : (((w.alloc (.cells (madeCells #[Value.int .u8 0] n) 5)).alloc (.cells (madeCells #[Value.int .u8 0] n) 5)).drew).ownsRow w.heap.size 5 1 (.slice (some ⟨w.heap.size, 0, none⟩) n n) n (cellsOf (List.replicate n 0#8)) := hfirst
    have hr7 : (((w.alloc (.cells (madeCells #[Value.int .u8 0] n) 5)).alloc (.cells (madeCells #[Value.int .u8 0] n) 5)).drew).ownsRow w.heap.size 5 1 (.slice (some ⟨(w.heap.size + 1), 0, none⟩) n n) n (cellsOf (List.replicate n 0#8)) := hsecond
    have hB4 : Below w.heap.size w ((w.alloc (.cells (madeCells #[Value.int .u8 0] n) 5)).alloc (.cells (madeCells #[Value.int .u8 0] n) 5)).drew := (((Below.refl _ w).alloc (Nat.le_refl _) _).alloc (by simp) _).drew
    generalize ((w.alloc (.cells (madeCells #[Value.int .u8 0] n) 5)).alloc (.cells (madeCells #[Value.int .u8 0] n) 5)).drew = w4 at hr6 hr7 hB4 ⊢
    obtain ⟨g6, hg6⟩ : ∃ g, g = w.heap.size := ⟨_, rfl⟩
    obtain ⟨g7, hg7⟩ : ∃ g, g = (w.heap.size + 1) := ⟨_, rfl⟩
    have hne : g6 ≠ g7 := by omega
    have hge6 : w.heap.size ≤ g6 := by omega
    have hr6 : w4.ownsRow w.heap.size 5 1 (.slice (some ⟨g6, 0, none⟩) n n) n (cellsOf (List.replicate n 0#8)) := by rw [hg6]; exact hr6
    have hr7 : w4.ownsRow w.heap.size 5 1 (.slice (some ⟨g7, 0, none⟩) n n) n (cellsOf (List.replicate n 0#8)) := by rw [hg7]; exact hr7
    rw [← hg7, ← hg6]
    clear hg6 hg7 hfirst hsecond
    go_loopw [8] (fun iv wr => ∃ k : Nat, k ≤ n ∧ iv = .int .i64 k ∧ wr.ownsRow w.heap.size 5 1 (.slice (some ⟨g6, 0, none⟩) n n) n (cellsOf (zw.take k ++ List.replicate (n - k) 0#8)) ∧ wr.ownsRow w.heap.size 5 1 (.slice (some ⟨g7, 0, none⟩) n n) n (cellsOf (List.replicate n 0#8)) ∧ Below w.heap.size w wr) (fun iv _ => n - (intOf iv).toNat)
    case atStart => exact ⟨0, Nat.zero_le _, rfl, by simpa using hr6, hr7, hB4⟩
    case round =>
      obtain ⟨k, hk, rfl, h6, h7, hB⟩ := hrel
      clear hr6 hr7
      by_cases hlt : k < n
      · have hx2 := hx.below hB
        have hy2 := hy.below hB
        obtain ⟨a', ca', ea, _, hx3⟩ := hx2
        simp only [Value.slice.injEq] at ea
        obtain ⟨rfl, ea1, rfl⟩ := ea
        clear ea1
        obtain ⟨b', cb', eb, _, hy3⟩ := hy2
        simp only [Value.slice.injEq] at eb
        obtain ⟨rfl, eb1, rfl⟩ := eb
        clear eb1
        rcases hx3 with h | ⟨ga, offa, rfl, _, hxa⟩
        · subst h; simp at hxl; omega
        rcases hy3 with h | ⟨gb, offb, rfl, _, hyb⟩
        · subst h; simp at hyl; omega
        have cx := hxa k (by omega)
        have cy := hyb k (by omega)
        have FS := fill_step zw n k hzl hlt
        have HZ := zw_get xs ys n k (by omega) (by omega) hlt
        rw [← hzw] at HZ
        rw [HZ] at FS
        have HF := Lib.hid FS
        have c6 : wr.cell? ⟨g6, k, none⟩ = some (.int .u8 (U ((zw.take k ++ List.replicate (n - k) 0#8)[k]?.getD 0))) := by
          rw [h6.cellAt k (by omega)]
          exact cellsOf_get _ k (by rw [fill_len zw n k hzl (by omega)]; exact hlt)
        have f6 : wr.frozen? ⟨g6, k, none⟩ = false := h6.frozenAt k
        have e6 := xor_u8 (xs[k]?.getD 0) (ys[k]?.getD 0)
        have k0 : (0 : Int) ≤ k := by omega
        have k1 : (k : Int) < n := by omega
        have k2 : (k : Int) < m := by omega
        clear hxa hyb FS HZ hxl hyl hzw hzl
        generalize xs[k]?.getD 0 = xk at cx HF e6
        generalize ys[k]?.getD 0 = yk at cy HF e6
        generalize (zw.take k ++ List.replicate (n - k) 0#8)[k]?.getD 0 = zk at c6
        go_wp2
        go_still_tail 12, (by kernel_rfl)
        change wpList _ _ _ _ _ wr.drew
        go_wp2
        go_roundw
        case rel =>
          refine ⟨k + 1, by omega, by go_num, ?_, ?_, (hB.drew.setCell (p := ⟨g6, k, none⟩) hge6 _)⟩
          · rw [← HF.out, ← cellsOf_set]
            exact (h6.drew.stored k _).1
          · exact h7.drew.kept (h6.drew.stored k _).2 (.inr (by simp only [Value.ownBlock, ne_eq, Option.some.injEq]; omega))
        case measure => simp [intOf]; omega
      · obtain rfl : k = n := by omega
        have hz0 : zw.take k ++ List.replicate (k - k) 0#8 = zw := by rw [Nat.sub_self, ← hzl, List.take_length]; simp
        rw [hz0] at h6
        have hzb : BytesAt wr.heap.size wr (.slice (some ⟨g6, 0, none⟩) k k) zw := by
          have := BytesAt.of_owns (w := wr) (base := w.heap.size) (v := .slice (some ⟨g6, 0, none⟩) k k) (bs := zw) (by rw [hzl]; exact h6)
          exact this
        have hnb : BytesAt wr.heap.size wr (.slice (some ⟨g7, 0, none⟩) k k) (List.replicate k 0#8) := by
          have := BytesAt.of_owns (w := wr) (base := w.heap.size) (v := .slice (some ⟨g7, 0, none⟩) k k) (bs := List.replicate k 0#8) (by rw [List.length_replicate]; exact h7)
          exact this
        have s1 := Steady.sum ((((hx.pre k (by omega)).below hB).mono hB.size)) (by rw [List.length_take]; omega)
        have s2 := Steady.sum ((((hy.pre k (by omega)).below hB).mono hB.size)) (by rw [List.length_take]; omega)
        have s3 := Steady.sum hzb (by omega)
        have s4 := Steady.sum hnb (by rw [List.length_replicate]; omega)
        have hawake : Steady wr 18 #[] (.bool true) := Steady.of fun W _ => awake01 W
        have hones := crcAdd_ones (xs.take k) (ys.take k) (by rw [List.length_take, List.length_take]; omega)
        rw [← hzw, show (xs.take k).length = k by rw [List.length_take]; omega] at hones
        generalize crcAdd 0#32 (xs.take k) = q1 at s1 hones
        generalize crcAdd 0#32 (ys.take k) = q2 at s2 hones
        generalize crcAdd 0#32 zw = q3 at s3 hones
        generalize crcAdd 0#32 (List.replicate k 0#8) = q4 at s4 hones
        have e1 := xor_u32 q1 q2
        have e2 := xor_u32 q3 q4
        rw [hones] at e1
        have k0 : (0 : Int) ≤ k := by omega
        clear hones hzb hnb h6 h7 hmk hzw hzl hxl hyl hz0
        go_wp2_with fail
        go_region_held3 (fun W => Below wr.heap.size wr W) (first | assumption | exact (Below.refl _ _).drew | exact Below.drew (by assumption)) (first
          | (go_at_call 15; first | ((with_reducible refine (s1.use _ (by assumption)).mono ?_); rintro e w1 ⟨rfl, hb1, hc1⟩) | ((with_reducible refine (s2.use _ (by assumption)).mono ?_); rintro e w1 ⟨rfl, hb1, hc1⟩) | ((with_reducible refine (s3.use _ (by assumption)).mono ?_); rintro e w1 ⟨rfl, hb1, hc1⟩) | ((with_reducible refine (s4.use _ (by assumption)).mono ?_); rintro e w1 ⟨rfl, hb1, hc1⟩))
          | (go_at_call 18; refine (hawake.use _ (by assumption)).mono ?_; rintro e w5 ⟨rfl, hb5, hc5⟩))
        all_goals go_wp2
        all_goals go_ret
        all_goals exact ⟨rfl, hB.trans (Below.mono (by assumption) hB.size)⟩
  · have hr6 : (((w.alloc (.cells (madeCells #[Value.int .u8 0] n) 5)).alloc (.cells (madeCells #[Value.int .u8 0] n) 5)).drew).ownsRow w.heap.size 5 1 (.slice (some ⟨(w.heap.size + 1), 0, none⟩) n n) n (cellsOf (List.replicate n 0#8)) := hsecond
    have hr7 : (((w.alloc (.cells (madeCells #[Value.int .u8 0] n) 5)).alloc (.cells (madeCells #[Value.int .u8 0] n) 5)).drew).ownsRow w.heap.size 5 1 (.slice (some ⟨w.heap.size, 0, none⟩) n n) n (cellsOf (List.replicate n 0#8)) := hfirst
    have hB4 : Below w.heap.size w ((w.alloc (.cells (madeCells #[Value.int .u8 0] n) 5)).alloc (.cells (madeCells #[Value.int .u8 0] n) 5)).drew := (((Below.refl _ w).alloc (Nat.le_refl _) _).alloc (by simp) _).drew
    generalize ((w.alloc (.cells (madeCells #[Value.int .u8 0] n) 5)).alloc (.cells (madeCells #[Value.int .u8 0] n) 5)).drew = w4 at hr6 hr7 hB4 ⊢
    obtain ⟨g6, hg6⟩ : ∃ g, g = (w.heap.size + 1) := ⟨_, rfl⟩
    obtain ⟨g7, hg7⟩ : ∃ g, g = w.heap.size := ⟨_, rfl⟩
    have hne : g6 ≠ g7 := by omega
    have hge6 : w.heap.size ≤ g6 := by omega
    have hr6 : w4.ownsRow w.heap.size 5 1 (.slice (some ⟨g6, 0, none⟩) n n) n (cellsOf (List.replicate n 0#8)) := by rw [hg6]; exact hr6
    have hr7 : w4.ownsRow w.heap.size 5 1 (.slice (some ⟨g7, 0, none⟩) n n) n (cellsOf (List.replicate n 0#8)) := by rw [hg7]; exact hr7
    rw [← hg6, ← hg7]
    clear hg6 hg7 hfirst hsecond
    go_loopw [8] (fun iv wr => ∃ k : Nat, k ≤ n ∧ iv = .int .i64 k ∧ wr.ownsRow w.heap.size 5 1 (.slice (some ⟨g6, 0, none⟩) n n) n (cellsOf (zw.take k ++ List.replicate (n - k) 0#8)) ∧ wr.ownsRow w.heap.size 5 1 (.slice (some ⟨g7, 0, none⟩) n n) n (cellsOf (List.replicate n 0#8)) ∧ Below w.heap.size w wr) (fun iv _ => n - (intOf iv).toNat)
    case atStart => exact ⟨0, Nat.zero_le _, rfl, by simpa using hr6, hr7, hB4⟩
    case round =>
      obtain ⟨k, hk, rfl, h6, h7, hB⟩ := hrel
      clear hr6 hr7
      by_cases hlt : k < n
      · have hx2 := hx.below hB
        have hy2 := hy.below hB
        obtain ⟨a', ca', ea, _, hx3⟩ := hx2
        simp only [Value.slice.injEq] at ea
        obtain ⟨rfl, ea1, rfl⟩ := ea
        clear ea1
        obtain ⟨b', cb', eb, _, hy3⟩ := hy2
        simp only [Value.slice.injEq] at eb
        obtain ⟨rfl, eb1, rfl⟩ := eb
        clear eb1
        rcases hx3 with h | ⟨ga, offa, rfl, _, hxa⟩
        · subst h; simp at hxl; omega
        rcases hy3 with h | ⟨gb, offb, rfl, _, hyb⟩
        · subst h; simp at hyl; omega
        have cx := hxa k (by omega)
        have cy := hyb k (by omega)
        have FS := fill_step zw n k hzl hlt
        have HZ := zw_get xs ys n k (by omega) (by omega) hlt
        rw [← hzw] at HZ
        rw [HZ] at FS
        have HF := Lib.hid FS
        have c6 : wr.cell? ⟨g6, k, none⟩ = some (.int .u8 (U ((zw.take k ++ List.replicate (n - k) 0#8)[k]?.getD 0))) := by
          rw [h6.cellAt k (by omega)]
          exact cellsOf_get _ k (by rw [fill_len zw n k hzl (by omega)]; exact hlt)
        have f6 : wr.frozen? ⟨g6, k, none⟩ = false := h6.frozenAt k
        have e6 := xor_u8 (xs[k]?.getD 0) (ys[k]?.getD 0)
        have k0 : (0 : Int) ≤ k := by omega
        have k1 : (k : Int) < n := by omega
        have k2 : (k : Int) < m := by omega
        clear hxa hyb FS HZ hxl hyl hzw hzl
        generalize xs[k]?.getD 0 = xk at cx HF e6
        generalize ys[k]?.getD 0 = yk at cy HF e6
        generalize (zw.take k ++ List.replicate (n - k) 0#8)[k]?.getD 0 = zk at c6
        go_wp2
        go_still_tail 12, (by kernel_rfl)
        change wpList _ _ _ _ _ wr.drew
        go_wp2
        go_roundw
        case rel =>
          refine ⟨k + 1, by omega, by go_num, ?_, ?_, (hB.drew.setCell (p := ⟨g6, k, none⟩) hge6 _)⟩
          · rw [← HF.out, ← cellsOf_set]
            exact (h6.drew.stored k _).1
          · exact h7.drew.kept (h6.drew.stored k _).2 (.inr (by simp only [Value.ownBlock, ne_eq, Option.some.injEq]; omega))
        case measure => simp [intOf]; omega
      · obtain rfl : k = n := by omega
        have hz0 : zw.take k ++ List.replicate (k - k) 0#8 = zw := by rw [Nat.sub_self, ← hzl, List.take_length]; simp
        rw [hz0] at h6
        have hzb : BytesAt wr.heap.size wr (.slice (some ⟨g6, 0, none⟩) k k) zw := by
          have := BytesAt.of_owns (w := wr) (base := w.heap.size) (v := .slice (some ⟨g6, 0, none⟩) k k) (bs := zw) (by rw [hzl]; exact h6)
          exact this
        have hnb : BytesAt wr.heap.size wr (.slice (some ⟨g7, 0, none⟩) k k) (List.replicate k 0#8) := by
          have := BytesAt.of_owns (w := wr) (base := w.heap.size) (v := .slice (some ⟨g7, 0, none⟩) k k) (bs := List.replicate k 0#8) (by rw [List.length_replicate]; exact h7)
          exact this
        have s1 := Steady.sum ((((hx.pre k (by omega)).below hB).mono hB.size)) (by rw [List.length_take]; omega)
        have s2 := Steady.sum ((((hy.pre k (by omega)).below hB).mono hB.size)) (by rw [List.length_take]; omega)
        have s3 := Steady.sum hzb (by omega)
        have s4 := Steady.sum hnb (by rw [List.length_replicate]; omega)
        have hawake : Steady wr 18 #[] (.bool true) := Steady.of fun W _ => awake01 W
        have hones := crcAdd_ones (xs.take k) (ys.take k) (by rw [List.length_take, List.length_take]; omega)
        rw [← hzw, show (xs.take k).length = k by rw [List.length_take]; omega] at hones
        generalize crcAdd 0#32 (xs.take k) = q1 at s1 hones
        generalize crcAdd 0#32 (ys.take k) = q2 at s2 hones
        generalize crcAdd 0#32 zw = q3 at s3 hones
        generalize crcAdd 0#32 (List.replicate k 0#8) = q4 at s4 hones
        have e1 := xor_u32 q1 q2
        have e2 := xor_u32 q3 q4
        rw [hones] at e1
        have k0 : (0 : Int) ≤ k := by omega
        clear hones hzb hnb h6 h7 hmk hzw hzl hxl hyl hz0
        go_wp2_with fail
        go_region_held3 (fun W => Below wr.heap.size wr W) (first | assumption | exact (Below.refl _ _).drew | exact Below.drew (by assumption)) (first
          | (go_at_call 15; first | ((with_reducible refine (s1.use _ (by assumption)).mono ?_); rintro e w1 ⟨rfl, hb1, hc1⟩) | ((with_reducible refine (s2.use _ (by assumption)).mono ?_); rintro e w1 ⟨rfl, hb1, hc1⟩) | ((with_reducible refine (s3.use _ (by assumption)).mono ?_); rintro e w1 ⟨rfl, hb1, hc1⟩) | ((with_reducible refine (s4.use _ (by assumption)).mono ?_); rintro e w1 ⟨rfl, hb1, hc1⟩))
          | (go_at_call 18; refine (hawake.use _ (by assumption)).mono ?_; rintro e w5 ⟨rfl, hb5, hc5⟩))
        all_goals go_wp2
        all_goals go_ret
        all_goals exact ⟨rfl, hB.trans (Below.mono (by assumption) hB.size)⟩

set_option maxHeartbeats 1000000 in
theorem crcOnes_walk (xs ys : List (BitVec 8)) (u v : Value) (w : World) (hx : BytesAt w.heap.size w u xs) (hy : BytesAt w.heap.size w v ys) (hmx : xs.length ≤ maxLen) (hmy : ys.length ≤ maxLen) (hcu : ∀ a l c, u = .slice a l c → l ≤ c) (hcv : ∀ a l c, v = .slice a l c → l ≤ c) :
    Calls Try.prog 6 #[u, v] w (Good w) := by
  unfold maxLen at hmx hmy
  have hx0 := hx
  have hy0 := hy
  obtain ⟨a, ca, rfl, _⟩ := hx
  obtain ⟨b, cb, rfl, _⟩ := hy
  have hca := hcu _ _ _ rfl
  have hcb := hcv _ _ _ rfl
  by_cases hbig : 1000 < xs.length ∨ 1000 < ys.length
  · have b1 : (xs.length : Int) ≤ 9223372036854775807 := by omega
    have b2 : (ys.length : Int) ≤ 9223372036854775807 := by omega
    clear hx0 hy0 hca hcb hcu hcv hmx hmy
    generalize xs.length = n at *
    generalize ys.length = m at *
    by_cases h1 : 1000 < n
    · have c1 : (1000 : Int) < n := by omega
      clear hbig h1
      go_enter Try.func6, Try.ntmps6
      go_wp2
      go_ret
      exact ⟨rfl, Below.refl _ _⟩
    · have c1 : (n : Int) ≤ 1000 := by omega
      have c2 : (1000 : Int) < m := by omega
      clear hbig h1
      go_enter Try.func6, Try.ntmps6
      go_wp2
      go_ret
      exact ⟨rfl, Below.refl _ _⟩
  by_cases hle : xs.length ≤ ys.length
  · exact crcOnes_le xs ys _ a b ca cb xs.length ys.length w rfl rfl hx0 hy0 (by omega) hle hca hcb rfl
  · exact crcOnes_gt xs ys _ a b ca cb ys.length xs.length w rfl rfl hx0 hy0 (by omega) (by omega) hca hcb rfl

set_option maxRecDepth 100000 in
theorem crcOnes_lifted (os : Os) (started : os.Started) (H : Type) (enc : TypeId × Value → H) :
    ReturnsInHanded {} Try.checked os 6 .any (Rows.crcOnesSpec.pre6 enc Try.prog Try.f6 Rows.crcOnesRow.domain false) (Rows.crcOnesSpec.post enc Try.prog Try.f6 false true false false) :=
  law_lifted 6 Try.f6 Rows.crcOnesSpec Try.func6 (by kernel_rfl) rfl rfl
    (fun ds h => by match ds, h with | [_, _], _ => rfl) (by kernel_rfl) os started
    (ChangeSpec.witness6 (enc := enc) (C := Try.checked) false ⟨#[], #[.slice none 0 0, .slice none 0 0], []⟩ 8 (by kernel_rfl) (by kernel_rfl) (by kernel_rfl) (by kernel_rfl))
    fun W args ds ps hval hA => by
      rw [Try.params6] at hA hval
      obtain ⟨v0, vs0, d0, ds0, p0, q0, hargs, rfl, rfl, h0, r0⟩ := trodAll_cons hA
      obtain ⟨v1, vs1, d1, ds1, p1, q1, rfl, rfl, rfl, h1, r1⟩ := trodAll_cons r0
      obtain ⟨rfl, rfl, rfl⟩ := trodAll_nil r1
      obtain rfl : args = #[v0, v1] := by cases args; simp_all
      obtain ⟨b0, o0⟩ := hval 0 _ v0 rfl rfl
      obtain ⟨b1, o1⟩ := hval 1 _ v1 rfl rfl
      obtain ⟨bs0, hb0, hm0⟩ := open_bytes o0 h0
      obtain ⟨bs1, hb1, hm1⟩ := open_bytes o1 h1
      exact crcOnes_walk bs0 bs1 v0 v1 W hb0 hb1 hm0 hm1 (open_cap o0 h0) (open_cap o1 h1)

/-- The statement. -/
theorem crcOnes_holds : Rows.CrcOnesSaid :=
  OpenClaim.holds_of_wide 6 Try.f6 rfl rfl rfl rfl rfl rfl rfl ⟨rfl, rfl, rfl, rfl, rfl⟩ rfl rfl rfl rfl rfl (by kernel_rfl) Try.func6 (by kernel_rfl)
    (of_decide_eq_true (by kernel_rfl)) (by unfold Func.isWrapper; first | (rw [if_pos (by decide +kernel)]; kernel_rfl) | (rw [if_neg (by decide +kernel)]; exact ⟨rfl, rfl⟩))
    (fun os started H enc _ => crcOnes_lifted os started H enc)
#print axioms crcOnes_holds
end Go.Proofs.Ytbhmieddjgklpaa

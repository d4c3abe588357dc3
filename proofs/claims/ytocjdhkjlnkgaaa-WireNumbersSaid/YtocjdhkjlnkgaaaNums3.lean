/-
  Reader.Numbers: the whole.
  Conditions: none.
-/
import Derived.Test.YtocjdhkjlnkgaaaNums2
namespace Go.Proofs.Ytocjdhkjlnkgaaa
open Go.RowKit Go.Shelf
attribute [local go_sem] Oper.semAt_some

set_option maxHeartbeats 400000 in
theorem numbersLeft_in (p : Value) (m : Int) (hp : p = .pointer none ∨ ∃ a, p = .pointer (some a)) (w : World) :
    CallsIn Fence.wide 2 Try.prog 12 #[p, .int .i64 m] w fun e w' => e = .returned (.func (.func 20) #[] #[.pointer (some ⟨w.heap.size, 0, none⟩), .pointer (some ⟨w.heap.size + 1, 0, none⟩)]) ∧ (w.alloc (.cells #[p] 23)).alloc (.cells #[.int .i64 m] 3) = w' := by
  refine callsIn_of_wp Try.func12 rfl trivial ?_ rfl
  simp only [Try.ntmps12, List.size_toArray, List.length_cons, List.length_nil, Nat.reduceAdd, Nat.reduceSub, Array.replicate_succ, Array.replicate_zero, List.push_toArray, List.append_toArray, List.nil_append, List.cons_append]
  rcases hp with rfl | ⟨a, rfl⟩
  · gi_wp2
    go_ret
    exact ⟨rfl, rfl⟩
  · gi_wp2
    go_ret
    exact ⟨rfl, rfl⟩

theorem info64 : (Try.prog.info? 27).map (fun i => (i.zero, i.size, i.bytes)) = some (some (.int .u64 0), 1, 8) := by kernel_rfl
theorem info_parts64 {i : Option TypeInfo} {z : Value} {s b : Nat} (h : i.map (fun i => (i.zero, i.size, i.bytes)) = some (some z, s, b)) : ∃ i0, i = some i0 ∧ i0.zero = some z ∧ i0.size = s ∧ i0.bytes = b := by
  cases i with
  | none => cases h
  | some i0 => simp at h; exact ⟨i0, rfl, h.1, h.2.1, h.2.2⟩

theorem make64 (c : Nat) (hc : c ≤ 1073741824) (W : World) : (Instr.makeSlice 25 (.int .i64 0) (.int .i64 c)).run Try.prog W = .ok (.slice (some ⟨W.heap.size, 0, none⟩) 0 c) (W.alloc (.cells (madeCells #[.int .u64 0] c) 27)) := by
  obtain ⟨i0, hi, hz0, hz1, hz2⟩ := info_parts64 info64
  have h := run_make (P := Try.prog) W 25 27 i0 (.int .u64 0) Try.underlying25 hi hz0 .i64 .i64 0 c (Int.le_refl _) (by omega) (by rw [hz2]; omega) (by omega)
  simp only [Int.toNat_zero, Int.toNat_natCast] at h
  rw [hz1, Nat.mul_one] at h
  exact h

/-- What Numbers answers. -/
def NumsRes (R m most : Nat) (bs : List (BitVec 8)) (w : World) (e : Ending) (w' : World) : Prop := ∃ (k : Nat) (v : Value), k = min (bs.length / m) most ∧ e = .returned v ∧ w'.ownsRow w.heap.size 27 1 v k (cells64 (nums m bs k)) ∧ Rd w.heap.size w' R (bs.drop (k * m)) ∧ Moves (nS w.heap.size R) w w'

set_option maxRecDepth 100000 in
set_option maxHeartbeats 4000000 in
theorem numbers_in (R m most : Nat) (bs : List (BitVec 8)) (w : World) (hr : Rd w.heap.size w R bs) (hl : bs.length ≤ 1073741824) (hm : mayB m = true) (hm1 : 1 ≤ m) (hm8 : m ≤ 8) (hmost : 1 ≤ most) (hmost2 : most ≤ 1073741824) :
    CallsIn Fence.wide 3 Try.prog 5 #[.pointer (some ⟨R, 0, none⟩), .int .i64 m, .int .i64 most] w (NumsRes R m most bs w) := by
  obtain ⟨i0, hi, hz0, hz1, hz2⟩ := info_parts64 info64
  have HRD := Lib.hid hr
  have HMAY := Lib.hid (fun W => callsIn_wide (n := 2).2 (may_yes m hm W))
  have t1 : Fence.wide.fn 12 := trivial
  have t2 : Fence.wide.fn 11 := trivial
  have hRlt := hr.lt
  obtain ⟨vr, hblk, hbv⟩ := hr
  obtain ⟨ar, cc, rfl, _⟩ := id hbv
  have m1 : (1 : Int) ≤ m := by omega
  have m8 : (m : Int) ≤ 8 := by omega
  have q1 : (1 : Int) ≤ most := by omega
  have q2 : (most : Int) ≤ 1073741824 := by omega
  have l1 : (bs.length : Int) ≤ 1073741824 := by omega
  refine callsIn_of_wp_marks Try.func5 rfl trivial ?_ rfl
  simp only [Try.ntmps5, List.size_toArray, List.length_cons, List.length_nil, Nat.reduceAdd, Nat.reduceSub, Array.replicate_succ, Array.replicate_zero, List.push_toArray, List.append_toArray, List.nil_append, List.cons_append]
  gi_wp2_with (gi_at_call 11; (with_reducible refine (HMAY.out _).mono ?_); rintro e w' ⟨rfl, rfl⟩)
  obtain ⟨w0, hw0⟩ : ∃ w0, (w.alloc (.cells #[.int .i64 most] 3)).alloc (.cells #[.int .i64 1, .int .i64 2, .int .i64 4, .int .i64 8] 3) = w0 := ⟨_, rfl⟩
  have z0 : w0.heap.size = w.heap.size + 2 := by rw [← hw0]; simp
  have b0 : Below w.heap.size w w0 := by rw [← hw0]; exact ((Below.refl _ w).alloc (Nat.le_refl _) _).alloc (by simp) _
  have hmb : w0.heap[w.heap.size]? = some (.cells #[.int .i64 most] 3 (0, 0)) := by rw [← hw0]; exact heap_alloc2_old w _ _
  have hrb : w0.heap[R]? = some (.cells #[.slice ar bs.length cc, .bool false] 34 (0, 0)) := (b0.block _ hRlt).trans hblk
  rw [hw0]
  clear hw0 hblk
  have cA : w0.drew.cell? ⟨w.heap.size, 0, none⟩ = some (.int .i64 most) := blk_cell hmb 0
  have cB : w0.drew.cell? ⟨R, 0, none⟩ = some (.slice ar bs.length cc) := blk_cell hrb 0
  have cA2 : (w0.alloc (.cells #[.slice none 0 0] 25)).drew.cell? ⟨w.heap.size, 0, none⟩ = some (.int .i64 most) := blk_cell (blk_alloc (w := w0) hmb _) 0
  have cB2 : (w0.alloc (.cells #[.slice none 0 0] 25)).drew.cell? ⟨R, 0, none⟩ = some (.slice ar bs.length cc) := blk_cell (blk_alloc (w := w0) hrb _) 0
  have eD : wrap64 ((bs.length : Int) / (m : Int)) = ((bs.length / m : Nat) : Int) := by
    have h1 := Nat.div_le_self bs.length m
    rw [← Int.natCast_ediv]
    generalize bs.length / m = q at h1 ⊢
    exact IntWalk.wrap64_in _ ⟨by omega, by omega⟩
  have HKM : Hid (∀ k, k = min (bs.length / m) most → k = min (bs.length / m) most) := fun _ h => h
  have hDl := Nat.div_le_self bs.length m
  generalize bs.length / m = D at eD HKM hDl
  have hD1 : (D : Int) ≤ 1073741824 := by omega
  rename_i K hK
  have HK := Lib.hid hK
  clear hK
  have rest : ∀ (W2 : World) (g Bx c : Nat) (x9 x10 x11 x12 x13 x14 x15 x16 x17 x18 x19 x20 x21 x22 x23 x24 x25 x26 x27 x28 x29 : Value), Boxed W2 Bx 25 (.slice (some ⟨g, 0, none⟩) 0 c) → W2.ownsRow w.heap.size 27 1 (.slice (some ⟨g, 0, none⟩) 0 c) 0 [] → w.heap.size ≤ Bx → Below w.heap.size w W2 → W2.heap[w.heap.size]? = some (.cells #[.int .i64 most] 3 (0, 0)) →
      K { tmps := #[.pointer (some ⟨R, 0, none⟩), .int .i64 m, .int .i64 most, undef, undef, .pointer (some ⟨w.heap.size, 0, none⟩), .slice none 0 0, .pointer (some ⟨Bx, 0, none⟩), undef, x9, x10, x11, x12, x13, x14, x15, x16, x17, x18, x19, x20, x21, x22, x23, x24, x25, x26, x27, x28, x29, undef, undef, undef, undef, undef, undef, undef, undef, undef, undef, undef, undef, undef], defers := [] } W2 := by
    intro W2 g Bx c x9 x10 x11 x12 x13 x14 x15 x16 x17 x18 x19 x20 x21 x22 x23 x24 x25 x26 x27 x28 x29 r1 r2 r3 r4 r5
    apply HK.out
    clear HK cA cB cA2 cB2 hmb hrb b0 z0
    gi_wp2_with (gi_at_call 12; (with_reducible refine (numbersLeft_in _ _ (.inr ⟨_, rfl⟩) _).mono ?_); rintro e w' ⟨rfl, rfl⟩)
    obtain ⟨W3, hW3⟩ : ∃ W3, (W2.alloc (.cells #[.pointer (some ⟨R, 0, none⟩)] 23)).alloc (.cells #[.int .i64 m] 3) = W3 := ⟨_, rfl⟩
    have z3 : W3.heap.size = W2.heap.size + 2 := by rw [← hW3]; simp
    have b3 : Below W2.heap.size W2 W3 := by rw [← hW3]; exact ((Below.refl _ W2).alloc (Nat.le_refl _) _).alloc (by simp) _
    have c5 : W3.heap[W2.heap.size]? = some (.cells #[.pointer (some ⟨R, 0, none⟩)] 23 (0, 0)) := by rw [← hW3]; exact heap_alloc2_old W2 _ _
    have c6 : W3.heap[W2.heap.size + 1]? = some (.cells #[.int .i64 m] 3 (0, 0)) := by rw [← hW3]; exact heap_alloc2_new W2 _ _
    rw [hW3]
    clear hW3
    have hn3 : w.heap.size ≤ W3.heap.size := by have := r4.size; omega
    have r6 : w.heap.size < Bx := by
      rcases Nat.lt_or_ge w.heap.size Bx with h | h
      · exact h
      · exfalso
        have e : Bx = w.heap.size := by omega
        subst e
        have r1' : W2.heap[w.heap.size]? = some (.cells #[.slice (some ⟨g, 0, none⟩) 0 c] 25 (0, 0)) := r1
        rw [r5] at r1'
        cases r1'
    have hP0 : NPre w.heap.size Bx most ([], .slice (some ⟨g, 0, none⟩) 0 c) W3 := ⟨(b3.block _ (blk_lt r1)).trans r1, ownsRow_below r2 b3, by show 0 < most; omega, r6, (b3.block _ (blk_lt r5)).trans r5⟩
    have hb3w : Below w.heap.size w W3 := r4.trans (b3.mono r4.size)
    refine rangeFunc_seenB (F := Fence.wide) (γ := List (BitVec 64) × Value) rfl (by decide) (gf := 20) (lb := #[.pointer (some ⟨W2.heap.size, 0, none⟩), .pointer (some ⟨W2.heap.size + 1, 0, none⟩)]) rfl trivial (enters_of Try.func20 (by kernel_rfl) rfl)
      (encs := fun x : BitVec 64 => #[.int .u64 (U x)]) (fun _ => rfl) (fun x => { tmps := #[.pointer (some ⟨R, 0, none⟩), .int .i64 m, .int .i64 most, undef, undef, .pointer (some ⟨w.heap.size, 0, none⟩), .slice none 0 0, .pointer (some ⟨Bx, 0, none⟩), .int .u64 (U x), x9, x10, x11, x12, x13, x14, x15, x16, x17, x18, x19, x20, x21, x22, x23, x24, x25, x26, x27, x28, x29, .pointer (some ⟨R, 0, none⟩), .int .i64 m, .func (.func 20) #[] #[.pointer (some ⟨W2.heap.size, 0, none⟩), .pointer (some ⟨W2.heap.size + 1, 0, none⟩)], .int .u64 (U x), undef, undef, undef, undef, undef, undef, undef, undef, undef], defers := [] })
      (NPre w.heap.size Bx most) (NBody w.heap.size Bx most) (NStop w.heap.size Bx most) (NEnd w.heap.size Bx R m most bs w) (NEnd w.heap.size Bx R m most bs w) 0
      (fun s W l o o' _ hl ho h => h.turn hl ho)
      (fun s x W W' l o o1 o2 o' hn hl ho hl' ho1 h => ⟨h.1.turn (Nat.le_trans hn3 hn) hl ho hl' ho1, h.2⟩)
      (fun s x W W' l o o1 o2 o' hn hl ho hl' ho1 h => ⟨h.1.turn (Nat.le_trans hn3 hn) hl ho hl' ho1, h.2⟩)
      (fun W l o o' hn hl ho h => h.turn (Nat.le_trans hn3 hn) hl ho)
      (fun W l o o' hn hl ho h => h.turn (Nat.le_trans hn3 hn) hl ho) ?ass ?body ?call ?done ?left
    case ass =>
      intro l x W K hK
      gi_wp2
      exact hK
    case body =>
      rintro l ⟨xs, lv⟩ x W ⟨hv, hrow, hlen, hBx, hbm⟩ hle
      have hv : Boxed W Bx 25 lv := hv
      have hrow : W.ownsRow w.heap.size 27 1 lv xs.length (cells64 xs) := hrow
      have hlen : xs.length < most := hlen
      have cB := hv.cell
      have cM := hbm.cell
      have hnew : ∀ (j : Nat) (u : Value), [Value.int .u64 (U x)][j]? = some u → (W.alloc (.cells #[.int .u64 (U x)] 27)).cell? ((⟨W.heap.size, 0, none⟩ : Addr).add j) = some u := by
        intro j u hj
        rw [add_plain, Nat.zero_add, blk_cell (heap_alloc_new _ _)]
        simpa using hj
      have hone : ∀ u ∈ [Value.int .u64 (U x)], u.oneCell' = true := by
        intro u hu
        rw [List.mem_singleton.1 hu]
        rfl
      have hkm : w.heap.size ≠ Bx ∧ lv.ownBlock ≠ some w.heap.size := ⟨Nat.ne_of_lt hBx, own_ne hrow hbm (by decide)⟩
      have HROW := Lib.hid hrow
      have HBX := Lib.hid hv
      have HLE := Lib.hid (show w.heap.size ≤ W.heap.size from Nat.le_trans hn3 hle)
      have HLN := Lib.hid (show xs.length ≤ 1073741824 from by omega)
      have HNEW := Lib.hid hnew
      have HONE := Lib.hid hone
      have HKM := Lib.hid hkm
      have HBL := Lib.hid (Nat.le_of_lt hBx)
      have hcase : xs.length + 1 = most ∨ xs.length + 1 ≠ most := by omega
      clear hv hrow hBx hle hnew hone hkm hbm r1 r2 r3 r4 r5 z3 b3 c5 c6 hn3 r6 hP0 hb3w hlen
      rcases hcase with hc | hc
      · have hd : ((xs.length : Int) + 1 == (most : Int)) = true := by rw [beq_iff_eq]; omega
        have HC := Lib.hid hc
        clear hc
        gi_wp2_with (gi_at_builtin; (refine wpListIn_append_own_at _ rfl _ _ 25 rfl w.heap.size 27 i0 _ 1 8 Try.underlying25 hi hz0 hz1 hz2 rfl (by decide) lv xs.length (cells64 xs) rfl (HROW.out.alloc _) ⟨W.heap.size, 0, none⟩ 1 1 [.int .u64 (U x)] rfl rfl HNEW.out HONE.out (by have := HLN.out; unfold maxLen; omega) (by have := HLN.out; omega) (by have := HLE.out; simp; omega) ?_); intro v' w1 hown hgrow hnil hat; obtain ⟨g2, cc2, rfl⟩ := ownsRow_succ hown; obtain ⟨r1, r2, r3, r4, r5⟩ := Boxed.appended HBX.out (by decide) HROW.out HLE.out HBL.out hown hgrow; have cB1 := r1.cell; have fB1 := r1.frozen; have cB2 := r2.cell; have HKP := Lib.hid (((KeepsAt.alloc W (.cells #[.int .u64 (U x)] 27)).trans (KeepsAt.grown (S := fun i => i ≠ Bx ∧ lv.ownBlock ≠ some i) hgrow (fun k e h => h.2 e))).trans (KeepsAt.setCell w1 ⟨Bx, 0, none⟩ (.slice (some ⟨g2, 0, none⟩) (xs.length + 1) cc2) (fun h => h.1 rfl))); have cM2 := HKP.out.cell (p := ⟨w.heap.size, 0, none⟩) HKM.out cM; have HR2 := Lib.hid r2; have HR3 := Lib.hid r3; have HR4 := Lib.hid r4; have HR5 := Lib.hid r5; clear hown hgrow hnil hat r1 r2 r3 r4 r5)
        refine ⟨HR4.out.from _, ⟨⟨_, HR2.out, ?_, HR5.out, HKP.out⟩, HC.out⟩⟩
        rw [cells64_snoc, List.length_append, List.length_singleton]
        exact HR3.out
      · have hd : ((xs.length : Int) + 1 == (most : Int)) = false := by rw [beq_eq_false_iff_ne]; omega
        have HC := Lib.hid hc
        clear hc
        gi_wp2_with (gi_at_builtin; (refine wpListIn_append_own_at _ rfl _ _ 25 rfl w.heap.size 27 i0 _ 1 8 Try.underlying25 hi hz0 hz1 hz2 rfl (by decide) lv xs.length (cells64 xs) rfl (HROW.out.alloc _) ⟨W.heap.size, 0, none⟩ 1 1 [.int .u64 (U x)] rfl rfl HNEW.out HONE.out (by have := HLN.out; unfold maxLen; omega) (by have := HLN.out; omega) (by have := HLE.out; simp; omega) ?_); intro v' w1 hown hgrow hnil hat; obtain ⟨g2, cc2, rfl⟩ := ownsRow_succ hown; obtain ⟨r1, r2, r3, r4, r5⟩ := Boxed.appended HBX.out (by decide) HROW.out HLE.out HBL.out hown hgrow; have cB1 := r1.cell; have fB1 := r1.frozen; have cB2 := r2.cell; have HKP := Lib.hid (((KeepsAt.alloc W (.cells #[.int .u64 (U x)] 27)).trans (KeepsAt.grown (S := fun i => i ≠ Bx ∧ lv.ownBlock ≠ some i) hgrow (fun k e h => h.2 e))).trans (KeepsAt.setCell w1 ⟨Bx, 0, none⟩ (.slice (some ⟨g2, 0, none⟩) (xs.length + 1) cc2) (fun h => h.1 rfl))); have cM2 := HKP.out.cell (p := ⟨w.heap.size, 0, none⟩) HKM.out cM; have HR2 := Lib.hid r2; have HR3 := Lib.hid r3; have HR4 := Lib.hid r4; have HR5 := Lib.hid r5; clear hown hgrow hnil hat r1 r2 r3 r4 r5)
        refine ⟨HR4.out.from _, ⟨⟨_, HR2.out, ?_, HR5.out, HKP.out⟩, HC.out⟩⟩
        rw [cells64_snoc, List.length_append, List.length_singleton]
        exact HR3.out
    case call =>
      intro l Rdy Over W0 hB hR hO h0 hY
      have hbw : Below w.heap.size w W0 := hb3w.trans (hB.mono hn3)
      have hBx := blk_lt r1
      refine (left1_seen l W2.heap.size (W2.heap.size + 1) Bx w.heap.size R m most W3.heap.size bs (.slice (some ⟨g, 0, none⟩) 0 c) hl Rdy Over W0 hm hm1 hm8 ⟨hP0.below hB, ?_, Moves.refl _ _, by omega, (hB.block _ (by omega)).trans c5, (hB.block _ (by omega)).trans c6⟩ hRlt r4.size (Nat.le_succ_of_le r4.size) (by omega) (by omega) (Nat.le_trans hn3 hB.size) hn3 hR h0 (fun s x W hr hle hp => hY s x W hr (Nat.le_trans hB.size hle) hp)).mono ?_
      · rw [Nat.zero_mul, List.drop_zero]
        exact HRD.out.below hbw (Nat.le_refl _)
      · rintro e W' ⟨he, ⟨hr, hE⟩ | ⟨ho, hE⟩⟩
        · exact ⟨he, .inl ⟨hr, hE.before hbw⟩⟩
        · exact ⟨he, .inr ⟨ho, hE.before hbw⟩⟩
    case done =>
      rintro D W hD ⟨k, v, hk, h1, h2, h3, h4⟩ hKd
      have hc := h1.cell
      have HH := Lib.hid hk
      clear hk r1 r2 r5 c5 c6
      gi_wp2
      refine ⟨by simp, .inl ⟨_, _, rfl, run_takeDeferred hKd, ?_⟩⟩
      exact ⟨_, results_tmp rfl _ _ _, k, _, HH.out, rfl, ownsRow_putObj h2 _ hKd rfl, h3.put _ hKd rfl, moves_put h4 (.inr (Nat.le_trans hn3 hD)) _⟩
    case left =>
      rintro D W hD ⟨k, v, hk, h1, h2, h3, h4⟩ hKd
      have hc := h1.cell
      have HH := Lib.hid hk
      clear hk r1 r2 r5 c5 c6
      gi_wp2
      refine ⟨by simp, .inl ⟨_, _, rfl, run_takeDeferred hKd, ?_⟩⟩
      exact ⟨_, results_tmp rfl _ _ _, k, _, HH.out, rfl, ownsRow_putObj h2 _ hKd rfl, h3.put _ hKd rfl, moves_put h4 (.inr (Nat.le_trans hn3 hD)) _⟩
  have ways : ∀ c : Nat, c ≤ 1073741824 → ∀ x9 x10 x11 x12 x13 x14 x15 x16 x17 x18 x19 x20 x21 x22 x23 x24 x25 x26 x27 x28 : Value,
      (∀ x29, K { tmps := #[.pointer (some ⟨R, 0, none⟩), .int .i64 m, .int .i64 most, undef, undef, .pointer (some ⟨w.heap.size, 0, none⟩), .slice none 0 0, .pointer (some ⟨w.heap.size + 2 + 1, 0, none⟩), undef, x9, x10, x11, x12, x13, x14, x15, x16, x17, x18, x19, x20, x21, x22, x23, x24, x25, x26, x27, x28, x29, undef, undef, undef, undef, undef, undef, undef, undef, undef, undef, undef, undef, undef], defers := [] }
        ((w0.alloc (.cells (madeCells #[.int .u64 0] c) 27)).alloc (.cells #[.slice (some ⟨w.heap.size + 2, 0, none⟩) 0 c] 25)).drew) ∧
      (∀ x29, K { tmps := #[.pointer (some ⟨R, 0, none⟩), .int .i64 m, .int .i64 most, undef, undef, .pointer (some ⟨w.heap.size, 0, none⟩), .slice none 0 0, .pointer (some ⟨w.heap.size + 2, 0, none⟩), undef, x9, x10, x11, x12, x13, x14, x15, x16, x17, x18, x19, x20, x21, x22, x23, x24, x25, x26, x27, x28, x29, undef, undef, undef, undef, undef, undef, undef, undef, undef, undef, undef, undef, undef], defers := [] }
        ((w0.alloc (.cells #[.slice (some ⟨w.heap.size + 2 + 1, 0, none⟩) 0 c] 25)).alloc (.cells (madeCells #[.int .u64 0] c) 27)).drew) := by
    intro c hc x9 x10 x11 x12 x13 x14 x15 x16 x17 x18 x19 x20 x21 x22 x23 x24 x25 x26 x27 x28
    have hml : c ≤ maxLen := by unfold maxLen; omega
    refine ⟨fun x29 => ?_, fun x29 => ?_⟩
    · refine rest _ (w.heap.size + 2) (w.heap.size + 2 + 1) c _ _ _ _ _ _ _ _ _ _ _ _ _ _ _ _ _ _ _ _ _ ?_ ?_ (by omega) ?_ ?_
      · have h := heap_alloc2_new w0 (.cells (madeCells #[.int .u64 0] c) 27) (.cells #[.slice (some ⟨w.heap.size + 2, 0, none⟩) 0 c] 25)
        rw [z0] at h
        exact h
      · have h := (World.ownsRow_made (base := w.heap.size) (e := 27) (size := 1) w0 (madeCells #[.int .u64 0] c) c (by omega) hml (by rw [size_madeCells]; simp)).alloc (.cells #[.slice (some ⟨w.heap.size + 2, 0, none⟩) 0 c] 25)
        rw [z0] at h
        exact h
      · exact ((b0.alloc (by omega) _).alloc (by simp; omega) _).drew
      · exact blk_alloc (blk_alloc hmb _) _
    · refine rest _ (w.heap.size + 2 + 1) (w.heap.size + 2) c _ _ _ _ _ _ _ _ _ _ _ _ _ _ _ _ _ _ _ _ _ ?_ ?_ (by omega) ?_ ?_
      · have h := heap_alloc2_old w0 (.cells #[.slice (some ⟨w.heap.size + 2 + 1, 0, none⟩) 0 c] 25) (.cells (madeCells #[.int .u64 0] c) 27)
        rw [z0] at h
        exact h
      · have h := World.ownsRow_made (base := w.heap.size) (e := 27) (size := 1) (w0.alloc (.cells #[.slice (some ⟨w.heap.size + 2 + 1, 0, none⟩) 0 c] 25)) (madeCells #[.int .u64 0] c) c (by simp; omega) hml (by rw [size_madeCells]; simp)
        rw [World.size_alloc, z0] at h
        exact h
      · exact ((b0.alloc (by omega) _).alloc (by simp; omega) _).drew
      · exact blk_alloc (blk_alloc hmb _) _
  clear rest
  by_cases hlt : most ≤ D
  · have hd : decide ((D : Int) < most) = false := by simp; omega
    have hmk := make64 most hmost2
    have HW := Lib.hid (ways most hmost2)
    clear ways HK
    gi_region
    · exact (HW.out _ _ _ _ _ _ _ _ _ _ _ _ _ _ _ _ _ _ _ _).1 _
    · exact (HW.out _ _ _ _ _ _ _ _ _ _ _ _ _ _ _ _ _ _ _ _).2 _
  · have hd : decide ((D : Int) < most) = true := by simp; omega
    have hmk := make64 D (by omega)
    have HW := Lib.hid (ways D (by omega))
    clear ways HK
    gi_region
    · exact (HW.out _ _ _ _ _ _ _ _ _ _ _ _ _ _ _ _ _ _ _ _).1 _
    · exact (HW.out _ _ _ _ _ _ _ _ _ _ _ _ _ _ _ _ _ _ _ _).2 _

theorem numbers_any (R m most : Nat) (bs : List (BitVec 8)) (w : World) (hr : Rd w.heap.size w R bs) (hl : bs.length ≤ 1073741824) (hm : mayB m = true) (hm1 : 1 ≤ m) (hm8 : m ≤ 8) (hmost : 1 ≤ most) (hmost2 : most ≤ 1073741824) :
    Calls Try.prog 5 #[.pointer (some ⟨R, 0, none⟩), .int .i64 m, .int .i64 most] w (NumsRes R m most bs w) := callsIn_wide.1 (numbers_in R m most bs w hr hl hm hm1 hm8 hmost hmost2)
end Go.Proofs.Ytocjdhkjlnkgaaa

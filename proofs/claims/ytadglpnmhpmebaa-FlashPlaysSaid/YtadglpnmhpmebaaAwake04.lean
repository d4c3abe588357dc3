/-
  sgraffitolaw04's awake: the chapter's second example holds.
  Conditions: none.
-/
import Derived.Test.YtadglpnmhpmebaaFlashHere
import Derived.Test.YtadglpnmhpmebaaFull04
import Derived.Deep.RegionLaw
import Derived.Deep.RegionHeld3
import Derived.Deep.DeepCutAuto
import Derived.Outline
namespace Go.Proofs.Ytadglpnmhpmebaa
open Go.RowKit

theorem own_base {w : World} {b b' : Nat} {e : TypeId} {size n : Nat} {v : Value} {xs : List Value} (h : w.ownsRow b e size v n xs) (hb : b' ≤ b) : w.ownsRow b' e size v n xs := by
  obtain ⟨h1, h2⟩ := h
  refine ⟨h1, h2.imp id ?_⟩
  rintro ⟨g, cap, cur, hv, hg, r⟩
  exact ⟨g, cap, cur, hv, Nat.le_trans hb hg, r⟩
theorem own_below {w w' : World} {b : Nat} {e : TypeId} {size n : Nat} {v : Value} {xs : List Value} (h : w.ownsRow b e size v n xs) (hb : Below w.heap.size w w') : w'.ownsRow b e size v n xs := (Moves.of_below (S := fun _ => False) hb).row h (fun _ _ h => h)
/-- What full leaves. -/
def FullAt (b0 : Nat) (c : BitVec 8) (n : Nat) (W : World) (e : Ending) (w' : World) : Prop := ∃ g, e = .returned (.slice (some ⟨g, 0, none⟩) n n) ∧ w'.ownsRow b0 5 1 (.slice (some ⟨g, 0, none⟩) n n) n (cellsOf (List.replicate n c)) ∧ Below W.heap.size W w'
theorem full_from (b0 : Nat) (c : BitVec 8) (n : Nat) (hn : n ≤ 1000) (W : World) (hb : b0 ≤ W.heap.size) : Calls Try.prog 31 #[.int .u8 (U c), .int .i64 n] W (FullAt b0 c n W) :=
  (full04_any c n hn W).mono fun _ _ ⟨he, hr, hb2⟩ => ⟨_, he, own_base hr hb, hb2⟩
/-- The same, of a named list. -/
def FullAs (b0 : Nat) (xs : List (BitVec 8)) (n : Nat) (W : World) (e : Ending) (w' : World) : Prop := ∃ g, e = .returned (.slice (some ⟨g, 0, none⟩) n n) ∧ w'.ownsRow b0 5 1 (.slice (some ⟨g, 0, none⟩) n n) xs.length (cellsOf xs) ∧ Below W.heap.size W w'
theorem full_as (b0 : Nat) (c : BitVec 8) (n : Nat) (hn : n ≤ 1000) (xs : List (BitVec 8)) (hx : List.replicate n c = xs) (W : World) (hb : b0 ≤ W.heap.size) : Calls Try.prog 31 #[.int .u8 (U c), .int .i64 n] W (FullAs b0 xs n W) := by
  subst hx
  refine (full_from b0 c n hn W hb).mono ?_
  rintro _ _ ⟨g, he, hr, hb2⟩
  exact ⟨g, he, by rw [List.length_replicate]; exact hr, hb2⟩
theorem full_bytes {w : World} {b0 : Nat} {c : BitVec 8} {n g : Nat} (h : w.ownsRow b0 5 1 (.slice (some ⟨g, 0, none⟩) n n) n (cellsOf (List.replicate n c))) : BytesAt w.heap.size w (.slice (some ⟨g, 0, none⟩) n n) (List.replicate n c) := by
  have h2 : w.ownsRow b0 5 1 (.slice (some ⟨g, 0, none⟩) n n) (List.replicate n c).length (cellsOf (List.replicate n c)) := by rw [List.length_replicate]; exact h
  exact BytesAt.of_owns h2

theorem conv_app {w : World} {b n : Nat} {v : Value} {xs bs Z : List (BitVec 8)} (h : w.ownsRow b 5 1 v n (cellsOf (xs ++ bs))) (hn : n = (xs ++ bs).length) (hZ : xs ++ bs = Z) : (convert 42 9 v).run Try.prog w = .ok (.string (strB Z)) w := by
  subst hn hZ
  exact conv_str (BytesAt.of_owns h)
theorem step_append_bytes_g {w : World} {ops : Array Oper} {o : Oper} {a : Act} {K : Act → World → Prop} {Q : Exit → Act → World → Prop} {E : Prop} (hw : Region.wanted o (yielded ops a.tmps) = true) (s x : Operand) (hty : o.type = 42)
    (ho : o.op = .call { callee := .builtin .append, args := #[s, x], argTypes := #[42, 42] })
    (base : Nat) (i0 : TypeInfo) (hi : Try.prog.info? 5 = some i0) (hz0 : i0.zero = some (.int .u8 0)) (hz1 : i0.size = 1) (hz2 : i0.bytes = 1)
    (v : Value) (hs : a.eval s = v) (xs : List (BitVec 8)) (hown : w.ownsRow base 5 1 v xs.length (cellsOf xs)) (u : Value) (hx : a.eval x = u) (n₀ : Nat) (bs : List (BitVec 8)) (hu : BytesAt n₀ w u bs) (hlen : xs.length + bs.length ≤ 70368744177664) (hb : base ≤ w.heap.size)
    (h : ∀ v' w' n, Hid (n = (xs ++ bs).length) → w'.ownsRow base 5 1 v' n (cellsOf (xs ++ bs)) → w.grownBy w' v.ownBlock → (v'.ownBlock = v.ownBlock ∨ v'.ownBlock = some w.heap.size) → K (a.put o.dst v') w') :
    if Region.wanted o (yielded ops a.tmps) = true then Oper.wp Try.prog o a w K Q else E := by
  rw [if_pos hw]
  obtain ⟨v', w', hr, h2, h3, h4⟩ := run_append_bytes (w := w) base i0 hi hz0 hz1 hz2 v xs hown u n₀ bs hu hlen hb
  unfold Oper.wp
  simp [execOp, ho, resolve, invoke, builtin, hs, hx, hty, hr, Result.andThen]
  exact h v' w' _ rfl h2 h3 h4
/-- The device of the example. -/
def exDev : Dev := ((((Dev.new 2 96).write 0 (List.replicate 96 1#8)).write 0 (List.replicate 96 2#8)).crash [96, 5])
set_option maxRecDepth 100000 in
theorem exDev_cur : exDev.cur 0 = List.replicate 5 2#8 ++ List.replicate 91 1#8 := by decide +kernel

theorem exErr1 : writeErr (Dev.new 2 96) 0 (List.replicate 96 1#8).length = 0 := by decide +kernel
theorem exErr2 : writeErr ((Dev.new 2 96).write 0 (List.replicate 96 1#8)) 0 (List.replicate 96 2#8).length = 0 := by decide +kernel
theorem exAsk : askErr exDev.sectors exDev.down 0 = 0 := by decide +kernel
theorem exSize : exDev.size = 96 := by decide +kernel
theorem exActs : (exDev.acts : Int) = 2 := by decide +kernel

set_option maxRecDepth 100000 in
set_option maxHeartbeats 600000 in
theorem awake04 (w : World) : Calls Try.prog 10 #[] w fun e w' => e = .returned (.bool true) ∧ Below w.heap.size w w' := by
  obtain ⟨i0, hi, hz0, hz1, hz2⟩ := info_parts Try.infoU8
  have HNEW : Hid (Calls Try.prog 6 #[.int .i64 2, .int .i64 96] w fun e W' => ∃ D, e = .returned (.pointer (some ⟨D, 0, none⟩)) ∧ DevHere w D (Dev.new 2 96) W' ∧ Below w.heap.size w W') := here_new 2 96 (by decide) (Below.refl _ _)
  have HF1 : Hid (∀ W, w.heap.size ≤ W.heap.size → Calls Try.prog 31 #[.int .u8 1, .int .i64 96] W (FullAt w.heap.size 1#8 96 W)) := fun W h => full_from _ 1#8 96 (by decide) W h
  have HF2 : Hid (∀ W, w.heap.size ≤ W.heap.size → Calls Try.prog 31 #[.int .u8 2, .int .i64 96] W (FullAt w.heap.size 2#8 96 W)) := fun W h => full_from _ 2#8 96 (by decide) W h
  have HW1 : Hid (∀ D u W, DevHere w D (Dev.new 2 96) W → BytesAt W.heap.size W u (List.replicate 96 1#8) → Calls Try.prog 22 #[.pointer (some ⟨D, 0, none⟩), .int .i64 0, u] W (Did w D ((Dev.new 2 96).write 0 (List.replicate 96 1#8)) (.int .i64 0))) := fun D u W h hu => by
    have := here_write h 0 hu (small_new 2 96) (by decide)
    rwa [exErr1] at this
  have HW2 : Hid (∀ D u W, DevHere w D ((Dev.new 2 96).write 0 (List.replicate 96 1#8)) W → BytesAt W.heap.size W u (List.replicate 96 2#8) → Calls Try.prog 22 #[.pointer (some ⟨D, 0, none⟩), .int .i64 0, u] W (Did w D (((Dev.new 2 96).write 0 (List.replicate 96 1#8)).write 0 (List.replicate 96 2#8)) (.int .i64 0))) := fun D u W h hu => by
    have := here_write h 0 hu ((small_new 2 96).write _ _) (by decide)
    rwa [exErr2] at this
  have HCR : Hid (∀ D W, DevHere w D (((Dev.new 2 96).write 0 (List.replicate 96 1#8)).write 0 (List.replicate 96 2#8)) W → Calls Try.prog 17 #[.pointer (some ⟨D, 0, none⟩), .slice (some ⟨W.heap.size, 0, none⟩) 2 2] (W.alloc (.cells #[.int .i64 96, .int .i64 5] 3)) (Did w D exDev (.tuple #[]))) := fun D W h =>
    here_crash_new h [96, 5] ((Below.refl _ _).alloc (Nat.le_refl _) _) (heap_alloc_new _ _) (((small_new 2 96).write _ _).write _ _) (by decide) (by decide) rfl
  have HRD : Hid (∀ D W, DevHere w D exDev W → Calls Try.prog 14 #[.pointer (some ⟨D, 0, none⟩), .int .i64 0] W fun e W' => DevHere w D exDev W' ∧ Below W.heap.size W W' ∧ ∃ v, e = .returned (.tuple #[v, .int .i64 0]) ∧ W'.ownsRow W.heap.size 5 1 v 96 (cellsOf (List.replicate 5 2#8 ++ List.replicate 91 1#8))) := fun D W h => by
    refine (here_read h 0).mono ?_
    rintro e W' ⟨h1, h2, v, he, hv⟩
    rw [exAsk] at he hv
    rcases hv with hv | ⟨_, hv, _⟩
    · exact absurd rfl hv.1
    · rw [exSize] at hv
      rw [show (0 : Int).toNat = 0 from rfl, exDev_cur] at hv
      exact ⟨h1, h2, v, he, hv⟩
  have HAC : Hid (∀ D W, DevHere w D exDev W → Calls Try.prog 26 #[.pointer (some ⟨D, 0, none⟩)] W fun e W' => e = .returned (.int .i64 2) ∧ W = W') := fun D W h => by
    have := here_acts h
    rwa [exActs] at this
  go_enter Try.func10, Try.ntmps10
  go_upto_region 6 with (first
    | (go_at_call 6; (with_reducible refine HNEW.out.mono ?_); rintro e w1 ⟨D, rfl, hd1, hb1⟩; have HD := Lib.hid hd1; clear hd1 hb1)
    | (go_at_call 31; (with_reducible refine (HF1.out _ HD.out.size).mono ?_); rintro e w2 ⟨g1, rfl, hr1, hb1⟩; have HDw := Lib.hid (HW1.out D _ _ (HD.out.on hb1) (full_bytes hr1)); clear hr1 hb1)
    | (go_at_call 22; (with_reducible refine HDw.out.mono ?_); rintro e w3 ⟨rfl, hd3⟩; have HD3 := Lib.hid hd3; clear hd3)
    | (go_at_call 31; (with_reducible refine (HF2.out _ HD3.out.size).mono ?_); rintro e w4 ⟨g2, rfl, hr1, hb1⟩; have HDv := Lib.hid (HW2.out D _ _ (HD3.out.on hb1) (full_bytes hr1)); clear hr1 hb1)
    | (go_at_call 22; (with_reducible refine HDv.out.mono ?_); rintro e w5 ⟨rfl, hd3⟩; have HD5 := Lib.hid hd3; clear hd3)
    | (go_at_call 17; (with_reducible refine (HCR.out D _ HD5.out).mono ?_); rintro e w6 ⟨rfl, hd6⟩; have HD6 := Lib.hid hd6; clear hd6)
    | (go_at_call 14; (with_reducible refine (HRD.out D _ HD6.out).mono ?_); rintro e w7 ⟨hd7, hb7, v7, rfl, hr7⟩; have HD7 := Lib.hid hd7; have HR7 := Lib.hid hr7; clear hd7 hb7 hr7))
  obtain ⟨A5, hA5⟩ : ∃ A5, List.replicate 5 2#8 = A5 := ⟨_, rfl⟩
  obtain ⟨B9, hB9⟩ : ∃ B9, List.replicate 91 1#8 = B9 := ⟨_, rfl⟩
  have hl5 : A5.length = 5 := by rw [← hA5]; rfl
  have hl9 : B9.length = 91 := by rw [← hB9]; rfl
  obtain ⟨Z, hZ⟩ : ∃ Z, A5 ++ B9 = Z := ⟨_, rfl⟩
  rw [hA5, hB9, hZ] at HR7
  have hZl : Z.length = 96 := by rw [← hZ, List.length_append, hl5, hl9]
  obtain ⟨a7, c7, rfl⟩ := owns_slice HR7.out
  have HCV : Hid (∀ W, Below w7.heap.size w7 W → (convert 42 9 (.slice a7 96 c7)).run Try.prog W = .ok (.string (strB Z)) W) := fun W hW => by
    have h9 : w7.ownsRow w6.heap.size 5 1 (.slice a7 96 c7) Z.length (cellsOf Z) := by rw [hZl]; exact HR7.out
    exact conv_str ((BytesAt.of_owns h9).below hW)
  have HZ := Lib.hid hZ
  have HF5 : Hid (∀ W, w7.heap.size ≤ W.heap.size → Calls Try.prog 31 #[.int .u8 2, .int .i64 5] W (FullAs w7.heap.size A5 5 W)) := fun W h => full_as _ 2#8 5 (by decide) A5 hA5 W h
  have HF9 : Hid (∀ W, w7.heap.size ≤ W.heap.size → Calls Try.prog 31 #[.int .u8 1, .int .i64 91] W (FullAs w7.heap.size B9 91 W)) := fun W h => full_as _ 1#8 91 (by decide) B9 hB9 W h
  have hBc := Lib.hid (Below.refl w7.heap.size w7).drew
  have HL : Hid (A5.length + B9.length ≤ 70368744177664) := by unfold Hid; omega
  clear hZ hZl hA5 hB9 hl5 hl9 HNEW HF1 HF2 HW1 HW2 HCR HRD HD HD3 HD5 HD6 HDw HDv HR7
  go_region_held3 (fun W => (convert 42 9 (.slice a7 96 c7)).run Try.prog W = .ok (.string (strB Z)) W)
    (exact HCV.out _ hBc.out)
    (first
    | (go_at_call 31; (with_reducible refine (HF5.out _ hBc.out.size).mono ?_); rintro e w8 ⟨gA, rfl, hrA, hbA⟩; have hBn := hBc.out.trans (hbA.mono hBc.out.size); have hcv8 := HCV.out w8 hBn; have ROWA := Lib.hid hrA; (try (have RB := Lib.hid ((ROWB.out.below hbA).mono hbA.size); clear ROWB; have ROWB := RB; clear RB)); clear hBc hrA hbA; have hBc := Lib.hid hBn; clear hBn)
    | (go_at_call 31; (with_reducible refine (HF9.out _ hBc.out.size).mono ?_); rintro e w10 ⟨gB, rfl, hrB, hbB⟩; have hBn := hBc.out.trans (hbB.mono hBc.out.size); have hcv10 := HCV.out w10 hBn; have ROWB := Lib.hid (BytesAt.of_owns hrB); (try (have RA := Lib.hid (own_below ROWA.out hbB); clear ROWA; have ROWA := RA; clear RA)); clear hBc hrB hbB; have hBc := Lib.hid hBn; clear hBn)
    | (go_at_call 26; (with_reducible refine (HAC.out D _ (HD7.out.on hBc.out)).mono ?_); rintro e w11 ⟨rfl, rfl⟩)
    | (refine step_append_bytes_g (by rfl) _ _ (by rfl) (by rfl) w7.heap.size i0 hi hz0 hz1 hz2 (.slice (some ⟨gA, 0, none⟩) 5 5) (by rfl) A5 ROWA.out (.slice (some ⟨gB, 0, none⟩) 91 91) (by rfl) _ B9 ROWB.out HL.out hBc.out.size ?_; intro v9 w9 n9 HN9 hown9 hgrow9 hat9; have hBn : Below w7.heap.size w7 w9 := hBc.out.grown hgrow9 hBc.out.size (fun k e => (ROWA.out.lt k e).1); have hcv9 := HCV.out w9 hBn; have hcw9 := conv_app hown9 HN9.out HZ.out; obtain ⟨a9, cp9, rfl⟩ := owns_slice hown9; clear hBc hown9 hgrow9 hat9; have hBc := Lib.hid hBn; clear hBn; refine (Classical.em False).elim (fun hfalse => ?_) (fun hmain => ?_); (have hcvAll : ∀ W, (convert 42 9 (.slice a9 n9 cp9)).run Try.prog W = .ok (.string (strB Z)) W := fun W => hfalse.elim); clear hfalse; rotate_left; (rename_i K0 hK0); (refine hK0.out _ _ (HCV.out _ hBc.out) (fun hHeld => ?_)); clear hK0; (refine wpAnyH_ready (rs := [16]) (by kernel_rfl) (by simp) ?_; refine AllReadyH.cons (o := ⟨some 37, _, _, _, _, _⟩) rfl (fun K1 hK1 => ?_) AllReadyH.nil; go_simp; refine hK1.out _ _ (HCV.out _ hBc.out) (fun hHeld1 => ?_); clear hK1 K1; try simp only [Act.put, List.setIfInBounds_toArray, List.set_cons_zero, List.set_cons_succ]); (refine wpAnyH_take (i := 17) (oi := ⟨some 38, _, _, _, _, _⟩) (v := ?_) rfl (by kernel_rfl) (by kernel_rfl) (by kernel_rfl) (fun _ _ _ h => h) (Or.inl ⟨by rfl, ?_⟩) (by assumption) ?_; rotate_left; (intro w hSw; go_simp; try with_reducible rfl); try simp only [Act.put, List.setIfInBounds_toArray, List.set_cons_zero, List.set_cons_succ]); (refine wpAnyH_take (i := 18) (oi := ⟨some 39, _, _, _, _, _⟩) (v := ?_) rfl (by kernel_rfl) (by kernel_rfl) (by kernel_rfl) (fun _ _ _ h => h) (Or.inl ⟨by rfl, ?_⟩) (by assumption) ?_; rotate_left; (intro w hSw; go_simp; try with_reducible rfl); try simp only [Act.put, List.setIfInBounds_toArray, List.set_cons_zero, List.set_cons_succ]); (refine wpAnyH_take (i := 19) (oi := ⟨some 40, _, _, _, _, _⟩) (v := ?_) rfl (by kernel_rfl) (by kernel_rfl) (by kernel_rfl) (fun _ _ _ h => h) (Or.inl ⟨by rfl, ?_⟩) (by assumption) ?_; rotate_left; (intro w hSw; go_simp; try with_reducible rfl); try simp only [Act.put, List.setIfInBounds_toArray, List.set_cons_zero, List.set_cons_succ]); (refine wpAnyH_take (i := 20) (oi := ⟨some 41, _, _, _, _, _⟩) (v := ?_) rfl (by kernel_rfl) (by kernel_rfl) (by kernel_rfl) (fun _ _ _ h => h) (Or.inl ⟨by rfl, ?_⟩) (by assumption) ?_; rotate_left; (intro w hSw; go_simp; try with_reducible rfl); try simp only [Act.put, List.setIfInBounds_toArray, List.set_cons_zero, List.set_cons_succ]); (refine wpAnyH_ready (rs := [21]) (by kernel_rfl) (by simp) ?_; refine AllReadyH.cons (o := ⟨some 42, _, _, _, _, _⟩) rfl (fun K1 hK1 => ?_) AllReadyH.nil; go_simp; go_at_call 26; (with_reducible refine (HAC.out D _ (HD7.out.on hBc.out)).mono ?_); rintro e w11 ⟨rfl, rfl⟩; (try go_wp2_with fail); refine hK1.out _ _ (HCV.out _ hBc.out) (fun hHeld1 => ?_); clear hK1 K1; try simp only [Act.put, List.setIfInBounds_toArray, List.set_cons_zero, List.set_cons_succ]); (refine wpAnyH_take (i := 22) (oi := ⟨some 43, _, _, _, _, _⟩) (v := ?_) rfl (by kernel_rfl) (by kernel_rfl) (by kernel_rfl) (fun _ _ _ h => h) (Or.inl ⟨by rfl, ?_⟩) (by assumption) ?_; rotate_left; (intro w hSw; go_simp; try with_reducible rfl); try simp only [Act.put, List.setIfInBounds_toArray, List.set_cons_zero, List.set_cons_succ]); (refine wpAnyH_take (i := 23) (oi := ⟨some 44, _, _, _, _, _⟩) (v := ?_) rfl (by kernel_rfl) (by kernel_rfl) (by kernel_rfl) (fun _ _ _ h => h) (Or.inl ⟨by rfl, ?_⟩) (by assumption) ?_; rotate_left; (intro w hSw; go_simp; try with_reducible rfl); try simp only [Act.put, List.setIfInBounds_toArray, List.set_cons_zero, List.set_cons_succ]); (refine wpAnyH_take (i := 24) (oi := ⟨some 0, _, _, _, _, _⟩) (v := ?_) rfl (by kernel_rfl) (by kernel_rfl) (by kernel_rfl) (fun _ _ _ h => h) (Or.inl ⟨by rfl, ?_⟩) (by assumption) ?_; rotate_left; (intro w hSw; go_simp; try with_reducible rfl); try simp only [Act.put, List.setIfInBounds_toArray, List.set_cons_zero]); refine wpAnyH_done (by kernel_rfl) ?_ _; (try refine NoPanic.normal ?_); go_wp2; go_ret; exact ⟨rfl, HD7.out.below.trans (hBc.out.mono HD7.out.size)⟩))
  all_goals go_wp2
  all_goals go_ret
  all_goals exact ⟨rfl, HD7.out.below.trans (hBc.out.mono HD7.out.size)⟩

end Go.Proofs.Ytadglpnmhpmebaa

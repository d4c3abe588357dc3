/-
  script's fits, right, Right.
  Conditions: none.
-/
import Derived.Test.YtgaabclgoolalaaScr4
namespace Go.Proofs.Ytgaabclgoolalaa
open Go.RowKit
attribute [local go_sem] Oper.semAt_some

set_option maxRecDepth 100000 in
set_option maxHeartbeats 4000000 in
theorem fits_any (s : ByteArray) (k v u : Bool) (l m kind num : Int) (a1 a2 a3 : Option Addr) (n1 c1 n2 c2 n3 c3 : Nat) (w : World) :
    Calls Try.prog 38 #[.agg #[.string s, .bool k, .bool v, .bool u, .int .i64 l, .int .i64 m], .agg #[.int .i64 kind, .slice a1 n1 c1, .slice a2 n2 c2, .int .i64 num, .slice a3 n3 c3]] w fun e w' => e = .returned (.bool (fitB k v u l m n1 n2 num n3)) ∧ Below w.heap.size w w' := by
  obtain ⟨w2, hw2⟩ : ∃ w2, (w.alloc (.cells #[.string s, .bool k, .bool v, .bool u, .int .i64 l, .int .i64 m] 70)).alloc (.cells #[.int .i64 kind, .slice a1 n1 c1, .slice a2 n2 c2, .int .i64 num, .slice a3 n3 c3] 49) = w2 := ⟨_, rfl⟩
  have hb2 : Below w.heap.size w w2 := by rw [← hw2]; exact ((Below.refl _ w).alloc (Nat.le_refl _) _).alloc (by simp) _
  have hk0 : w2.heap[w.heap.size]? = some (.cells #[.string s, .bool k, .bool v, .bool u, .int .i64 l, .int .i64 m] 70 (0, 0)) := by rw [← hw2]; exact blk_alloc (heap_alloc_new _ _) _
  have hk1 : w2.heap[w.heap.size + 1]? = some (.cells #[.int .i64 kind, .slice a1 n1 c1, .slice a2 n2 c2, .int .i64 num, .slice a3 n3 c3] 49 (0, 0)) := by
    rw [← hw2]
    have := heap_alloc_new (w.alloc (.cells #[.string s, .bool k, .bool v, .bool u, .int .i64 l, .int .i64 m] 70)) (.cells #[.int .i64 kind, .slice a1 n1 c1, .slice a2 n2 c2, .int .i64 num, .slice a3 n3 c3] 49)
    rw [World.size_alloc] at this
    exact this
  have HW2 := Lib.hid hw2
  have HB2 := Lib.hid hb2
  have q1 : w2.cell? ⟨w.heap.size, 1, none⟩ = some (.bool k) := blk_cell hk0 1
  have q2 : w2.cell? ⟨w.heap.size, 2, none⟩ = some (.bool v) := blk_cell hk0 2
  have q3 : w2.cell? ⟨w.heap.size, 3, none⟩ = some (.bool u) := blk_cell hk0 3
  have q4 : w2.cell? ⟨w.heap.size, 4, none⟩ = some (.int .i64 l) := blk_cell hk0 4
  have q5 : w2.cell? ⟨w.heap.size, 5, none⟩ = some (.int .i64 m) := blk_cell hk0 5
  have x1 : w2.cell? ⟨w.heap.size + 1, 1, none⟩ = some (.slice a1 n1 c1) := blk_cell hk1 1
  have x2 : w2.cell? ⟨w.heap.size + 1, 2, none⟩ = some (.slice a2 n2 c2) := blk_cell hk1 2
  have x3 : w2.cell? ⟨w.heap.size + 1, 3, none⟩ = some (.int .i64 num) := blk_cell hk1 3
  have x4 : w2.cell? ⟨w.heap.size + 1, 4, none⟩ = some (.slice a3 n3 c3) := blk_cell hk1 4
  have HF1 : Hid (∀ W, Calls Try.prog 43 #[.bool k, .slice a1 n1 c1] W fun e w' => e = .returned (.bool (fitT k n1)) ∧ W = w') := fun W => fitsText_any k a1 n1 c1 W
  have HF2 : Hid (∀ W, Calls Try.prog 43 #[.bool v, .slice a2 n2 c2] W fun e w' => e = .returned (.bool (fitT v n2)) ∧ W = w') := fun W => fitsText_any v a2 n2 c2 W
  clear hw2 hb2 hk0 hk1
  cases hf1 : fitT k n1 with
  | false =>
    rw [hf1] at HF1
    have hR : fitB k v u l m n1 n2 num n3 = false := by unfold fitB; rw [hf1]; rfl
    as_aux_lemma =>
    rw [hR]
    clear hR
    go_enter Try.func38, Try.ntmps38
    go_upto_region 1 with (fail)
    rw [HW2.out]
    clear HW2
    go_wp2_with (go_at_call 43; first
      | ((with_reducible refine (HF1.out _).mono ?_); rintro e w9 ⟨rfl, rfl⟩)
      | ((with_reducible refine (HF2.out _).mono ?_); rintro e w9 ⟨rfl, rfl⟩))
    go_ret
    exact ⟨rfl, HB2.out⟩
  | true =>
    rw [hf1] at HF1
    cases hf2 : fitT v n2 with
    | false =>
      rw [hf2] at HF2
      have hR : fitB k v u l m n1 n2 num n3 = false := by unfold fitB; rw [hf1, hf2]; rfl
      as_aux_lemma =>
      rw [hR]
      clear hR
      go_enter Try.func38, Try.ntmps38
      go_upto_region 1 with (fail)
      rw [HW2.out]
      clear HW2
      go_wp2_with (go_at_call 43; first
        | ((with_reducible refine (HF1.out _).mono ?_); rintro e w9 ⟨rfl, rfl⟩)
        | ((with_reducible refine (HF2.out _).mono ?_); rintro e w9 ⟨rfl, rfl⟩))
      go_ret
      exact ⟨rfl, HB2.out⟩
    | true =>
      rw [hf2] at HF2
      by_cases hl : l ≤ n3
      · by_cases hm : (n3 : Int) ≤ m
        · have g1 : decide (l ≤ (n3 : Int)) = true := decide_eq_true hl
          have g2 : decide ((n3 : Int) ≤ m) = true := decide_eq_true hm
          cases u with
          | true =>
            have hR : fitB k v true l m n1 n2 num n3 = true := by unfold fitB; rw [hf1, hf2, g1, g2]; rfl
            as_aux_lemma =>
            rw [hR]
            clear hR
            go_enter Try.func38, Try.ntmps38
            go_upto_region 1 with (fail)
            rw [HW2.out]
            clear HW2
            go_wp2_with (go_at_call 43; first
              | ((with_reducible refine (HF1.out _).mono ?_); rintro e w9 ⟨rfl, rfl⟩)
              | ((with_reducible refine (HF2.out _).mono ?_); rintro e w9 ⟨rfl, rfl⟩))
            go_ret
            exact ⟨rfl, HB2.out⟩
          | false =>
            by_cases hn : num = 0
            · subst hn
              have hR : fitB k v false l m n1 n2 0 n3 = true := by unfold fitB; rw [hf1, hf2, g1, g2]; rfl
              as_aux_lemma =>
              rw [hR]
              clear hR
              go_enter Try.func38, Try.ntmps38
              go_upto_region 1 with (fail)
              rw [HW2.out]
              clear HW2
              go_wp2_with (go_at_call 43; first
                | ((with_reducible refine (HF1.out _).mono ?_); rintro e w9 ⟨rfl, rfl⟩)
                | ((with_reducible refine (HF2.out _).mono ?_); rintro e w9 ⟨rfl, rfl⟩))
              go_ret
              exact ⟨rfl, HB2.out⟩
            · have g3 : (num == 0) = false := by simpa using hn
              have hR : fitB k v false l m n1 n2 num n3 = false := by unfold fitB; rw [hf1, hf2, decide_eq_false hn]; rfl
              as_aux_lemma =>
              rw [hR]
              clear hR
              go_enter Try.func38, Try.ntmps38
              go_upto_region 1 with (fail)
              rw [HW2.out]
              clear HW2
              go_wp2_with (go_at_call 43; first
                | ((with_reducible refine (HF1.out _).mono ?_); rintro e w9 ⟨rfl, rfl⟩)
                | ((with_reducible refine (HF2.out _).mono ?_); rintro e w9 ⟨rfl, rfl⟩))
              go_ret
              exact ⟨rfl, HB2.out⟩
        · have g1 : decide (l ≤ (n3 : Int)) = true := decide_eq_true hl
          have g2 : decide ((n3 : Int) ≤ m) = false := decide_eq_false hm
          cases u with
          | true =>
            have hR : fitB k v true l m n1 n2 num n3 = false := by unfold fitB; rw [hf1, hf2, g1, g2]; rfl
            as_aux_lemma =>
            rw [hR]
            clear hR
            go_enter Try.func38, Try.ntmps38
            go_upto_region 1 with (fail)
            rw [HW2.out]
            clear HW2
            go_wp2_with (go_at_call 43; first
              | ((with_reducible refine (HF1.out _).mono ?_); rintro e w9 ⟨rfl, rfl⟩)
              | ((with_reducible refine (HF2.out _).mono ?_); rintro e w9 ⟨rfl, rfl⟩))
            go_ret
            exact ⟨rfl, HB2.out⟩
          | false =>
            by_cases hn : num = 0
            · subst hn
              have hR : fitB k v false l m n1 n2 0 n3 = false := by unfold fitB; rw [hf1, hf2, g1, g2]; rfl
              as_aux_lemma =>
              rw [hR]
              clear hR
              go_enter Try.func38, Try.ntmps38
              go_upto_region 1 with (fail)
              rw [HW2.out]
              clear HW2
              go_wp2_with (go_at_call 43; first
                | ((with_reducible refine (HF1.out _).mono ?_); rintro e w9 ⟨rfl, rfl⟩)
                | ((with_reducible refine (HF2.out _).mono ?_); rintro e w9 ⟨rfl, rfl⟩))
              go_ret
              exact ⟨rfl, HB2.out⟩
            · have g3 : (num == 0) = false := by simpa using hn
              have hR : fitB k v false l m n1 n2 num n3 = false := by unfold fitB; rw [hf1, hf2, decide_eq_false hn]; rfl
              as_aux_lemma =>
              rw [hR]
              clear hR
              go_enter Try.func38, Try.ntmps38
              go_upto_region 1 with (fail)
              rw [HW2.out]
              clear HW2
              go_wp2_with (go_at_call 43; first
                | ((with_reducible refine (HF1.out _).mono ?_); rintro e w9 ⟨rfl, rfl⟩)
                | ((with_reducible refine (HF2.out _).mono ?_); rintro e w9 ⟨rfl, rfl⟩))
              go_ret
              exact ⟨rfl, HB2.out⟩
      · have g1 : decide (l ≤ (n3 : Int)) = false := decide_eq_false hl
        cases u with
        | true =>
          have hR : fitB k v true l m n1 n2 num n3 = false := by unfold fitB; rw [hf1, hf2, g1]; rfl
          as_aux_lemma =>
          rw [hR]
          clear hR
          go_enter Try.func38, Try.ntmps38
          go_upto_region 1 with (fail)
          rw [HW2.out]
          clear HW2
          go_wp2_with (go_at_call 43; first
            | ((with_reducible refine (HF1.out _).mono ?_); rintro e w9 ⟨rfl, rfl⟩)
            | ((with_reducible refine (HF2.out _).mono ?_); rintro e w9 ⟨rfl, rfl⟩))
          go_ret
          exact ⟨rfl, HB2.out⟩
        | false =>
          by_cases hn : num = 0
          · subst hn
            have hR : fitB k v false l m n1 n2 0 n3 = false := by unfold fitB; rw [hf1, hf2, g1]; rfl
            as_aux_lemma =>
            rw [hR]
            clear hR
            go_enter Try.func38, Try.ntmps38
            go_upto_region 1 with (fail)
            rw [HW2.out]
            clear HW2
            go_wp2_with (go_at_call 43; first
              | ((with_reducible refine (HF1.out _).mono ?_); rintro e w9 ⟨rfl, rfl⟩)
              | ((with_reducible refine (HF2.out _).mono ?_); rintro e w9 ⟨rfl, rfl⟩))
            go_ret
            exact ⟨rfl, HB2.out⟩
          · have g3 : (num == 0) = false := by simpa using hn
            have hR : fitB k v false l m n1 n2 num n3 = false := by unfold fitB; rw [hf1, hf2, decide_eq_false hn]; rfl
            as_aux_lemma =>
            rw [hR]
            clear hR
            go_enter Try.func38, Try.ntmps38
            go_upto_region 1 with (fail)
            rw [HW2.out]
            clear HW2
            go_wp2_with (go_at_call 43; first
              | ((with_reducible refine (HF1.out _).mono ?_); rintro e w9 ⟨rfl, rfl⟩)
              | ((with_reducible refine (HF2.out _).mono ?_); rintro e w9 ⟨rfl, rfl⟩))
            go_ret
            exact ⟨rfl, HB2.out⟩
set_option maxRecDepth 100000 in
set_option maxHeartbeats 2000000 in
theorem right_any {w0 w : World} {b : Nat} (hM : KindsAt w0 b 10 w) (x : SAct) (a1 a2 a3 : Option Addr) (c1 c2 c3 : Nat) :
    Calls Try.prog 27 #[.map (some b), .agg #[.int .i64 x.kind, .slice a1 x.key.length c1, .slice a2 x.val.length c2, .int .i64 x.num, .slice a3 x.nums.length c3]] w fun e w' => e = .returned (.bool (rightA x)) ∧ Below w.heap.size w w' := by
  obtain ⟨w1, hw1⟩ : ∃ w1, w.alloc (.cells #[.int .i64 x.kind, .slice a1 x.key.length c1, .slice a2 x.val.length c2, .int .i64 x.num, .slice a3 x.nums.length c3] 49) = w1 := ⟨_, rfl⟩
  have hb1 : Below w.heap.size w w1 := by rw [← hw1]; exact (Below.refl _ w).alloc (Nat.le_refl _) _
  have hk1 : w1.heap[w.heap.size]? = some (.cells #[.int .i64 x.kind, .slice a1 x.key.length c1, .slice a2 x.val.length c2, .int .i64 x.num, .slice a3 x.nums.length c3] 49 (0, 0)) := by rw [← hw1]; exact heap_alloc_new _ _
  have hl : (Instr.lookup 63 (.map (some b)) (.int .i64 x.kind) true).run Try.prog w1 = .ok (.tuple #[whatV (kn x.kind), .bool (decide (kn x.kind < 10))]) w1 := look_any (hM.on hb1) x.kind true
  unfold whatV at hl
  have HW1 := Lib.hid hw1
  have HB1 := Lib.hid hb1
  have c0 : w1.cell? ⟨w.heap.size, 0, none⟩ = some (.int .i64 x.kind) := blk_cell hk1 0
  have c1' : w1.cell? ⟨w.heap.size, 1, none⟩ = some (.slice a1 x.key.length c1) := blk_cell hk1 1
  have c2' : w1.cell? ⟨w.heap.size, 2, none⟩ = some (.slice a2 x.val.length c2) := blk_cell hk1 2
  have c3' : w1.cell? ⟨w.heap.size, 3, none⟩ = some (.int .i64 x.num) := blk_cell hk1 3
  have c4' : w1.cell? ⟨w.heap.size, 4, none⟩ = some (.slice a3 x.nums.length c3) := blk_cell hk1 4
  have HFIT := Lib.hid (fun W => fits_any (nm (kn x.kind)) (wk (kn x.kind)) (wv (kn x.kind)) (wu (kn x.kind)) (wl (kn x.kind)) (wm (kn x.kind)) x.kind x.num a1 a2 a3 x.key.length c1 x.val.length c2 x.nums.length c3 W)
  have hR : rightA x = (decide (kn x.kind < 10) && fitB (wk (kn x.kind)) (wv (kn x.kind)) (wu (kn x.kind)) (wl (kn x.kind)) (wm (kn x.kind)) x.key.length x.val.length x.num x.nums.length) := rfl
  rw [hR]
  generalize fitB (wk (kn x.kind)) (wv (kn x.kind)) (wu (kn x.kind)) (wl (kn x.kind)) (wm (kn x.kind)) x.key.length x.val.length x.num x.nums.length = r at HFIT ⊢
  have HBA := Lib.hid (hb1.alloc hb1.size (.cells #[.string (nm (kn x.kind)), .bool (wk (kn x.kind)), .bool (wv (kn x.kind)), .bool (wu (kn x.kind)), .int .i64 (wl (kn x.kind)), .int .i64 (wm (kn x.kind))] 70))
  have hk2 := blk_alloc hk1 (.cells #[.string (nm (kn x.kind)), .bool (wk (kn x.kind)), .bool (wv (kn x.kind)), .bool (wu (kn x.kind)), .int .i64 (wl (kn x.kind)), .int .i64 (wm (kn x.kind))] 70)
  have e0 : (w1.alloc (.cells #[.string (nm (kn x.kind)), .bool (wk (kn x.kind)), .bool (wv (kn x.kind)), .bool (wu (kn x.kind)), .int .i64 (wl (kn x.kind)), .int .i64 (wm (kn x.kind))] 70)).cell? ⟨w.heap.size, 0, none⟩ = some (.int .i64 x.kind) := blk_cell hk2 0
  have e1 : (w1.alloc (.cells #[.string (nm (kn x.kind)), .bool (wk (kn x.kind)), .bool (wv (kn x.kind)), .bool (wu (kn x.kind)), .int .i64 (wl (kn x.kind)), .int .i64 (wm (kn x.kind))] 70)).cell? ⟨w.heap.size, 1, none⟩ = some (.slice a1 x.key.length c1) := blk_cell hk2 1
  have e2 : (w1.alloc (.cells #[.string (nm (kn x.kind)), .bool (wk (kn x.kind)), .bool (wv (kn x.kind)), .bool (wu (kn x.kind)), .int .i64 (wl (kn x.kind)), .int .i64 (wm (kn x.kind))] 70)).cell? ⟨w.heap.size, 2, none⟩ = some (.slice a2 x.val.length c2) := blk_cell hk2 2
  have e3 : (w1.alloc (.cells #[.string (nm (kn x.kind)), .bool (wk (kn x.kind)), .bool (wv (kn x.kind)), .bool (wu (kn x.kind)), .int .i64 (wl (kn x.kind)), .int .i64 (wm (kn x.kind))] 70)).cell? ⟨w.heap.size, 3, none⟩ = some (.int .i64 x.num) := blk_cell hk2 3
  have e4 : (w1.alloc (.cells #[.string (nm (kn x.kind)), .bool (wk (kn x.kind)), .bool (wv (kn x.kind)), .bool (wu (kn x.kind)), .int .i64 (wl (kn x.kind)), .int .i64 (wm (kn x.kind))] 70)).cell? ⟨w.heap.size, 4, none⟩ = some (.slice a3 x.nums.length c3) := blk_cell hk2 4
  clear hR hw1 hb1 hk1 hM hk2
  cases hd : decide (kn x.kind < 10) with
  | false =>
    rw [hd] at hl
    clear hd
    go_enter Try.func27, Try.ntmps27
    go_upto_region 1 with (fail)
    rw [HW1.out]
    clear HW1
    go_wp2
    go_ret
    exact ⟨rfl, HB1.out.alloc HB1.out.size _⟩
  | true =>
    rw [hd] at hl
    clear hd
    go_enter Try.func27, Try.ntmps27
    go_upto_region 1 with (fail)
    rw [HW1.out]
    clear HW1
    go_wp2_with (go_at_call 38; (with_reducible refine (HFIT.out _).mono ?_); rintro e w9 ⟨rfl, hb9⟩; have HB9 := Lib.hid (HBA.out.trans (hb9.mono HBA.out.size)); clear hb9)
    go_ret
    exact ⟨by simp, HB9.out⟩
end Go.Proofs.Ytgaabclgoolalaa

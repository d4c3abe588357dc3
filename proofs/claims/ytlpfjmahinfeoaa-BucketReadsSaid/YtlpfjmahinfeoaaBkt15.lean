/-
  bucket: reading: a reader's numbers, loc.Read.
  Conditions: none.
-/
import Derived.Test.YtlpfjmahinfeoaaBkt12
import Derived.Test.YtlpfjmahinfeoaaAppEnts
import Derived.Test.YtlpfjmahinfeoaaNums1
namespace Go.Proofs.Ytlpfjmahinfeoaa
open Go.RowKit
attribute [local go_sem] Oper.semAt_some

theorem RdAt.numM {w W : World} {R : Nat} {left : List (BitVec 8)} {bad : Bool} (h : RdAt w R left bad W) (k : Int) (hl : left.length ≤ 1099511627776) :
    Calls Try.prog 40 #[.pointer (some ⟨R, 0, none⟩), .int .i64 k] W fun e W' => e = .returned (.int .u64 (U (rdN left k))) ∧ RdAt w R (rdL left k) (rdB left bad k) W' ∧ Moves (fun j => j = R) W W' := by
  obtain ⟨v, h1, h2, h3⟩ := h
  refine (rnumber_any R v left bad k W h1 hl).mono ?_
  rintro e w' ⟨he, v', h4, h5⟩
  exact ⟨he, ⟨v', h4, h2.trans (h5.below (fun i hi => by rw [show i = R from hi]; exact h3) h2.size), h3⟩, h5⟩
theorem rd_enough {left : List (BitVec 8)} {k : Nat} (hk : mayB k = true) (h : k ≤ left.length) : rdN left k = leOf (left.take k) ∧ rdL left k = left.drop k := by
  unfold rdN rdL
  have e : tookN left (mayB (k : Int)) (k : Int) = some k := by
    unfold tookN
    rw [if_pos ⟨hk, by omega, by omega⟩, Int.toNat_natCast]
  rw [e]
  exact ⟨rfl, rfl⟩
/-- A reader's number where there are enough bytes. -/
theorem RdAt.numK {w W : World} {R : Nat} {left : List (BitVec 8)} {bad : Bool} (h : RdAt w R left bad W) (k : Nat) (hk : mayB k = true) (hkl : k ≤ left.length) (hl : left.length ≤ 1099511627776) :
    Calls Try.prog 40 #[.pointer (some ⟨R, 0, none⟩), .int .i64 k] W fun e W' => e = .returned (.int .u64 (U (leOf (left.take k)))) ∧ (∃ b, RdAt w R (left.drop k) b W') ∧ Moves (fun j => j = R) W W' := by
  obtain ⟨e1, e2⟩ := rd_enough hk hkl
  refine (h.numM (k : Int) hl).mono ?_
  rintro e W' ⟨he, h1, h2⟩
  rw [e1] at he
  rw [e2] at h1
  exact ⟨he, ⟨_, h1⟩, h2⟩
theorem Rd.other {n₀ : Nat} {S : Nat → Prop} {W W' : World} {R : Nat} {left : List (BitVec 8)} (h : Rd n₀ W R left) (hR : R < n₀) (hn : n₀ ≤ W.heap.size) (hm : Moves S W W') (hS : ∀ k, S k → n₀ ≤ k) : Rd n₀ W' R left := by
  obtain ⟨v, h1, h2⟩ := h
  exact ⟨v, (hm.block R (blk_lt h1) (fun e => by have := hS _ e; omega)).trans h1, h2.below (hm.below hS hn)⟩
/-- The numbers of a location's bytes. -/
def locR (b : List (BitVec 8)) : Int := wrap64 (U (leOf (b.take 8)))
def locA (b : List (BitVec 8)) : Int := wrap64 (U (leOf ((b.drop 8).take 2)))
def locS (b : List (BitVec 8)) : Int := wrap64 (U (leOf ((b.drop 10).take 2)))
theorem locRead_res (w : World) (z : Nat) (cs : Array Value) (a : Act) (h : w.heap[z]? = some (.cells cs 48 (0, 0))) (h2 : a.tmps.getD 2 undef = .pointer (some ⟨z, 0, none⟩)) (hs : (Try.prog.info? 48).map (·.size) = some cs.size) :
    (results Try.f41 a.tmps).run Try.prog w = .ok (.agg cs) w := by
  have h2' : a.tmps[2]?.getD undef = .pointer (some ⟨z, 0, none⟩) := by simpa using h2
  simp [results, Try.results41, h2', asAddr, run_loadVar_row w z 48 48 cs (0, 0) _ h Try.underlying48 rfl hs]
set_option maxRecDepth 100000 in
set_option maxHeartbeats 2000000 in
theorem locRead_aux {n₀ : Nat} {W : World} {R : Nat} {left : List (BitVec 8)} (r1 r2 r3 : Int) (e1 : wrap64 (U (leOf (left.take 8))) = r1) (e2 : wrap64 (U (leOf ((left.drop 8).take 2))) = r2) (e3 : wrap64 (U (leOf ((left.drop 10).take 2))) = r3) (h : Rd n₀ W R left) (hR : R < n₀) (hn : n₀ ≤ W.heap.size) (hkl : 12 ≤ left.length) (hl : left.length ≤ 1099511627776) :
    Calls Try.prog 41 #[.pointer (some ⟨R, 0, none⟩)] W fun e W' => e = .returned (.agg #[.int .i64 r1, .int .i64 r2, .int .i64 r3]) ∧ Rd n₀ W' R (left.drop 12) ∧ Moves (fun j => j = R) W W' := by
  obtain ⟨W1, hW1⟩ : ∃ W1, W.alloc (.cells #[.int .i64 0, .int .i64 0, .int .i64 0] 48) = W1 := ⟨_, rfl⟩
  have hb1 : Below W.heap.size W W1 := by rw [← hW1]; exact (Below.refl _ _).alloc (Nat.le_refl _) _
  have hg1 : W1.heap[W.heap.size]? = some (.cells #[.int .i64 0, .int .i64 0, .int .i64 0] 48 (0, 0)) := by rw [← hW1]; exact heap_alloc_new _ _
  have hne : ¬ W.heap.size = R := by omega
  have h1 := h.below hb1 hn
  have HN1 := Lib.hid (show Calls Try.prog 40 #[.pointer (some ⟨R, 0, none⟩), .int .i64 8] W1 _ from numberR_any n₀ R 8 left W1 h1 (Nat.le_trans hn hb1.size) rfl (by decide) (by decide) (by omega) hl)
  have HN2 := Lib.hid (fun W' (hw : Rd n₀ W' R (left.drop 8)) (hn' : n₀ ≤ W'.heap.size) => (show Calls Try.prog 40 #[.pointer (some ⟨R, 0, none⟩), .int .i64 2] W' _ from numberR_any n₀ R 2 _ W' hw hn' rfl (by decide) (by decide) (by rw [List.length_drop]; omega) (by rw [List.length_drop]; omega)))
  have HN3 := Lib.hid (fun W' (hw : Rd n₀ W' R ((left.drop 8).drop 2)) (hn' : n₀ ≤ W'.heap.size) => (show Calls Try.prog 40 #[.pointer (some ⟨R, 0, none⟩), .int .i64 2] W' _ from numberR_any n₀ R 2 _ W' hw hn' rfl (by decide) (by decide) (by rw [List.length_drop, List.length_drop]; omega) (by rw [List.length_drop, List.length_drop]; omega)))
  have HW1 := Lib.hid hW1
  have HG1 := Lib.hid hg1
  have HNE := Lib.hid hne
  have HNN := Lib.hid (And.intro hR hn)
  have HB1 := Lib.hid (Moves.of_below (S := fun j => j = R) hb1)
  have HLR := Lib.hid e1
  have HLA := Lib.hid e2
  have HLS := Lib.hid e3
  have HD : Hid (((left.drop 8).drop 2).drop 2 = left.drop 12) := by unfold Hid; rw [List.drop_drop, List.drop_drop]
  clear h h1 hb1 hg1 hW1 hkl hl hne e1 e2 e3 hR hn
  go_enter Try.func41, Try.ntmps41
  go_upto_region 1 with (fail)
  rw [HW1.out]
  clear HW1
  go_upto_region 4 with (first
    | (go_at_call 40; (with_reducible refine HN1.out.mono ?_); rintro e w2 ⟨rfl, hr2, hm2⟩; have HM2 := Lib.hid (HB1.out.trans hm2 (fun _ _ h => h)); have HG2 := Lib.hid ((hm2.block _ (blk_lt HG1.out) HNE.out).trans HG1.out); have HN4 := Lib.hid (HN2.out _ hr2 (Nat.le_trans HNN.out.2 HM2.out.size)); clear hr2 hm2)
    | (go_at_call 40; (with_reducible refine HN4.out.mono ?_); rintro e w3 ⟨rfl, hr3, hm3⟩; have HM3 := Lib.hid (HM2.out.trans hm3 (fun _ _ h => h)); have HG3 := Lib.hid ((hm3.block _ (blk_lt HG2.out) HNE.out).trans HG2.out); have HN5 := Lib.hid (HN3.out _ hr3 (Nat.le_trans HNN.out.2 HM3.out.size)); clear hr3 hm3)
    | (go_at_call 40; (with_reducible refine HN5.out.mono ?_); rintro e w4 ⟨rfl, hr4, hm4⟩; have HM4 := Lib.hid (HM3.out.trans hm4 (fun _ _ h => h)); have HG4 := Lib.hid ((hm4.block _ (blk_lt HG3.out) HNE.out).trans HG3.out); have HR4 := Lib.hid hr4; clear hr4 hm4))
  have hlk : w4.heap[W.heap.size]? = some (.cells #[.int .i64 0, .int .i64 0, .int .i64 0] 48 (0, 0)) := HG4.out
  have hend := setRow_heap w4 W.heap.size _ #[.int .i64 r1, .int .i64 r2, .int .i64 r3] _ _ hlk
  have hmv : Moves (fun k => k = W.heap.size) w4 (w4.setRow W.heap.size #[.int .i64 r1, .int .i64 r2, .int .i64 r3]) := ⟨rfl, rfl, rfl, by simp [World.setRow], fun k _ hk => setRow_other w4 W.heap.size k _ hk⟩
  have hrd : Rd n₀ (w4.setRow W.heap.size #[.int .i64 r1, .int .i64 r2, .int .i64 r3]) R (left.drop 12) := by
    have hr := HR4.out
    rw [HD.out] at hr
    exact hr.other HNN.out.1 (Nat.le_trans HNN.out.2 HM4.out.size) hmv (fun k (e : k = W.heap.size) => by have := HNN.out.2; omega)
  have hmm : Moves (fun j => j = R) W (w4.setRow W.heap.size #[.int .i64 r1, .int .i64 r2, .int .i64 r3]) := ⟨HM4.out.os, HM4.out.tape, HM4.out.output, Nat.le_trans HM4.out.size hmv.size, fun k hk hR => (hmv.block k (Nat.lt_of_lt_of_le hk HM4.out.size) (fun e => by have : k = W.heap.size := e; omega)).trans (HM4.out.block k hk hR)⟩
  have HE := Lib.hid (And.intro hend (And.intro hrd hmm))
  rw [HLR.out, HLA.out, HLS.out]
  clear hend hmv hrd hmm
  go_wp2_with (refine wpList_store_row (o := ⟨none, _, _, _, _, _⟩) rfl 48 (.tmp 2) (.tmp 18) rfl W.heap.size #[.int .i64 r1, .int .i64 r2, .int .i64 r3] rfl rfl 48 #[.int .i64 0, .int .i64 0, .int .i64 0] hlk (by kernel_rfl) rfl ?_ ?_; (simp [Value.oneCell']))
  exact bodyPost_ret (locRead_res _ W.heap.size #[.int .i64 r1, .int .i64 r2, .int .i64 r3] _ HE.out.1 rfl (by kernel_rfl)) rfl ⟨rfl, HE.out.2.1, HE.out.2.2⟩
theorem locRead_any {n₀ : Nat} {W : World} {R : Nat} {left : List (BitVec 8)} (h : Rd n₀ W R left) (hR : R < n₀) (hn : n₀ ≤ W.heap.size) (hkl : 12 ≤ left.length) (hl : left.length ≤ 1099511627776) :
    Calls Try.prog 41 #[.pointer (some ⟨R, 0, none⟩)] W fun e W' => e = .returned (.agg #[.int .i64 (locR left), .int .i64 (locA left), .int .i64 (locS left)]) ∧ Rd n₀ W' R (left.drop 12) ∧ Moves (fun j => j = R) W W' :=
  locRead_aux _ _ _ rfl rfl rfl h hR hn hkl hl
end Go.Proofs.Ytlpfjmahinfeoaa

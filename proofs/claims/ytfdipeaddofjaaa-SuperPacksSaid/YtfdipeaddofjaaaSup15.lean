/-
  sgraffitolaw10's awake: what the chapter's example says.
  Conditions: none.
-/
import Derived.Test.YtfdipeaddofjaaaSup14
import Derived.Test.YtfdipeaddofjaaaSup4A
namespace Go.Proofs.Ytfdipeaddofjaaa
open Go.RowKit
attribute [-go_sem] Instr.build Instr.fill

def head1 : HeadP := ⟨smallP, 1, 0, 0, 0, 1, 0, 0⟩
def head2 : HeadP := ⟨smallP, 2, 0, 0, 0, 1, 0, 0⟩
theorem head1_err : head1.err = 0 := by decide +kernel
theorem head2_err : head2.err = 0 := by decide +kernel
theorem head1_wf : head1.Wf := ⟨by decide, by decide, by decide, by decide⟩
theorem head2_wf : head2.Wf := ⟨by decide, by decide, by decide, by decide⟩
theorem ofDev_same {p : PlanP} {d d' : Dev} (h1 : d'.sectors = d.sectors) (h2 : d'.size = d.size) : p.ofDev d' = p.ofDev d := by unfold PlanP.ofDev; rw [h1, h2]
theorem Dev.Small.saved {d : Dev} {k : Nat} (h : d.Small k) (x : HeadP) : (d.saved x).Small (k + 1) := by
  unfold Dev.saved
  split
  · exact h.write _ _
  · exact h.mono (Nat.le_succ _)
theorem new_up : (Dev.new 60 96).Up := ⟨rfl, rfl, by decide, by decide⟩
def exD1 : Dev := (Dev.new 60 96).saved head1
def exD2 : Dev := exD1.saved head2
theorem ex_all : saveErr (Dev.new 60 96) head1 = 0 ∧ saveErr exD1 head2 = 0 ∧ exD2.down = false ∧ headsTo exD2 2 = [head2, head1] := by
  have o0 : smallP.ofDev (Dev.new 60 96) = true := by decide
  obtain ⟨a1, a2, a3, a4, a5⟩ := saved_up new_up (x := head1) head1_err o0
  have o1 : smallP.ofDev exD1 = true := (ofDev_same a3 a4).trans o0
  obtain ⟨b1, b2, b3, b4, b5⟩ := saved_up (d := exD1) a2 (x := head2) head2_err o1
  have o2 : smallP.ofDev exD2 = true := (ofDev_same b3 b4).trans o1
  have s1 : exD1.size = 96 := a4
  have s2 : exD2.size = 96 := b4.trans a4
  have c0 : exD2.cur 0 = head2.sector exD2.size := by
    rw [s2]
    have := b5 0
    rw [if_pos (by decide), s1] at this
    exact this
  have c1 : exD2.cur 1 = head1.sector exD2.size := by
    rw [s2]
    have h1 := b5 1
    rw [if_neg (by decide)] at h1
    have h2 := a5 1
    rw [if_pos (by decide)] at h2
    exact h1.trans h2
  obtain ⟨i1, i2⟩ := in_of_cur (d := exD2) b2 (x := head2) head2_err head2_wf o2 (i := 0) (by decide) c0
  obtain ⟨j1, j2⟩ := in_of_cur (d := exD2) b2 (x := head1) head1_err head1_wf o2 (i := 1) (by decide) c1
  refine ⟨a1, b1, b2.down, ?_⟩
  unfold headsTo
  rw [if_pos j1, j2]
  unfold headsTo
  rw [if_pos i1, i2]
  rfl
theorem ex_sort : sortH [head2, head1] = [head2, head1] := by rw [sortH_two]; exact if_neg (by decide)
@[local go_sem] theorem build_doc (W : World) : (Instr.build 26 #[(0, .agg smallP.cells), (1, .int .i64 1), (5, .int .i64 1)]).run Try.prog W = .ok (.agg head1.cells) W := run_build W _ _ _ (by kernel_rfl)
theorem DevApart.put {w W : World} {Q : Foot} {D : Nat} {d : Dev} (h : DevApart w Q D d W) {p : Addr} (hp : Q p.block) (hw : w.heap.size ≤ p.block) (v : Value) : DevApart w Q D d (W.setCell p v) := by
  obtain ⟨O, a, b, c, e⟩ := h
  exact ⟨O, a.keep ⟨by simp [World.setCell], fun k hk => Below.heap_setCell _ _ _ _ (fun e => c k hk (e ▸ hp))⟩, b.setCell hw v, c, fun k hk => by simpa [World.setCell] using e k hk⟩
theorem row_put (W : World) (x : HeadP) : Below W.heap.size W ((W.alloc (.cells HeadP.zero.cells 35)).setRow W.heap.size x.cells) ∧ ((W.alloc (.cells HeadP.zero.cells 35)).setRow W.heap.size x.cells).heap[W.heap.size]? = some (.cells x.cells 35 (0, 0)) :=
  ⟨below_setRow ((Below.refl _ _).alloc (Nat.le_refl _) _) (Nat.le_refl _) _, setRow_heap _ _ _ _ _ _ (heap_alloc_new _ _)⟩

set_option maxRecDepth 100000 in
set_option maxHeartbeats 8000000 in
theorem awake10 (w : World) : Calls Try.prog 10 #[] w fun e w' => e = .returned (.bool true) ∧ Below w.heap.size w w' := by
  obtain ⟨q1, q2, q3, q4⟩ := ex_all
  have HNEW : Hid (Calls Try.prog 12 #[.int .i64 60, .int .i64 96] w fun e W' => ∃ D, e = .returned (.pointer (some ⟨D, 0, none⟩)) ∧ DevHere w D (Dev.new 60 96) W' ∧ Below w.heap.size w W') := here_new 60 96 (by decide) (Below.refl _ _)
  have HSM := Lib.hid small_any
  have HOF := Lib.hid (of_any head1)
  have hse : head1.cells.setIfInBounds 8 (.int .i64 2) = head2.cells := rfl
  have hg1 : head1.gen = 1 := rfl
  have hg2 : head2.gen = 2 := rfl
  have HS1 : Hid (∀ Q D W, DevApart w Q D (Dev.new 60 96) W → Calls Try.prog 13 #[.pointer (some ⟨D, 0, none⟩), .agg head1.cells] W (DidApart w Q D exD1 (.int .i64 0) W)) := fun Q D W h => by
    have := save_apart h head1 head1_wf (small_new 60 96) (by decide)
    rwa [q1] at this
  have HS2 : Hid (∀ Q D W, DevApart w Q D exD1 W → Calls Try.prog 13 #[.pointer (some ⟨D, 0, none⟩), .agg head2.cells] W (DidApart w Q D exD2 (.int .i64 0) W)) := fun Q D W h => by
    have := save_apart h head2 head2_wf ((small_new 60 96).saved head1) (by decide)
    rwa [q2] at this
  have HLD : Hid (∀ D W, DevHere w D exD2 W → Calls Try.prog 19 #[.pointer (some ⟨D, 0, none⟩)] W (Loaded head2 0 W)) := fun D W h => by
    have := load_here h
    rw [q3] at this
    have e1 : loadH exD2 = head2 := by unfold loadH; rw [q4, ex_sort]; rfl
    have e2 : loadErr exD2 = 0 := by unfold loadErr; rw [q4]; rfl
    rw [e1, e2] at this
    exact this
  have HHD : Hid (∀ D W, DevHere w D exD2 W → Calls Try.prog 16 #[.pointer (some ⟨D, 0, none⟩)] W fun e W' => ∃ g c, e = .returned (.slice (some ⟨g, 0, none⟩) 2 c) ∧ W'.cell? ⟨g, 23, none⟩ = some (.int .i64 1) ∧ Below W.heap.size W W') := fun D W h => by
    refine (heads_here h).mono ?_
    rintro e W' ⟨v, he, hr, hb⟩
    rw [q4, ex_sort] at hr
    obtain ⟨g, c, rfl, _⟩ := slice_cells hr (by decide)
    have h23 : (rowsH [head2, head1])[23]? = some (.int .i64 1) := rfl
    have := hr.cells rfl _ _ h23
    rw [add_plain, Nat.zero_add] at this
    exact ⟨g, c, he, this, hb⟩
  clear q1 q2 q3 q4
  generalize exD1 = dA at *
  generalize exD2 = dB at *
  go_enter Try.func10, Try.ntmps10
  go_upto_region 3 with (first
    | (go_at_call 12; (with_reducible refine HNEW.out.mono ?_); rintro e w1 ⟨D, rfl, hd1, hb1⟩; have HD := Lib.hid hd1; clear hd1 hb1)
    | (go_at_call 11; (with_reducible refine (HSM.out _).mono ?_); rintro e w2 ⟨rfl, hb2⟩; have HB2 := Lib.hid hb2; clear hb2)
    | (go_at_call 6; (with_reducible refine (HOF.out _).mono ?_); rintro e w3 ⟨rfl, hb3⟩; have HB3 := Lib.hid (HB2.out.trans (hb3.mono HB2.out.size)); clear hb3)
    | (refine wpList_store_row (o := ⟨none, _, _, _, _, _⟩) rfl 35 (.tmp 2) (.tmp 11) rfl w3.heap.size head1.cells rfl rfl 35 HeadP.zero.cells (heap_alloc_new _ _) (kh_sz _) rfl ?_ ?_; exact kh_one _))
  change (Code.region _ _ _).wp _ _ _ ((w3.alloc (.cells HeadP.zero.cells 35)).setRow w3.heap.size head1.cells)
  obtain ⟨hb4, hx4⟩ := row_put w3 head1
  generalize (w3.alloc (.cells HeadP.zero.cells 35)).setRow w3.heap.size head1.cells = w4 at hb4 hx4 ⊢
  have HB4 := Lib.hid (HB3.out.trans (hb4.mono HB3.out.size))
  have hPw : w1.heap.size ≤ w3.heap.size := HB3.out.size
  have hPw2 : w.heap.size ≤ w3.heap.size := Nat.le_trans HD.out.size hPw
  have HA4 := Lib.hid (apart_of (Q := fun k => k = w3.heap.size) HD.out HB4.out (fun k e => by rw [e]; exact hPw) (fun k e => by rw [e]; exact blk_lt hx4))
  have HX4 := Lib.hid hx4
  have HPW := Lib.hid hPw2
  obtain ⟨d0, d1, d2, d3, d4, d5, d6, d7, d8, d9, d10, d11, d12, d13, d14⟩ := head_all hx4 (Below.refl _ _)
  have HS1 : Hid (∀ Q D W, DevApart w Q D (Dev.new 60 96) W → Calls Try.prog 13 #[.pointer (some ⟨D, 0, none⟩), .agg #[.int .i64 head1.plan.sectors, .int .i64 head1.plan.size, .int .i64 head1.plan.regions, .int .i64 head1.plan.rs, .int .i64 head1.plan.log, .int .i64 head1.plan.depth, .int .i64 head1.plan.memory, .int .u64 (U head1.plan.seed), .int .i64 head1.gen, .int .i64 head1.page, .int .i64 head1.stamp, .int .i64 head1.depth, .int .i64 head1.log, .int .i64 head1.region, .int .i64 head1.time]] W (DidApart w Q D dA (.int .i64 0) W)) := HS1.out
  have HS2 : Hid (∀ Q D W, DevApart w Q D dA W → Calls Try.prog 13 #[.pointer (some ⟨D, 0, none⟩), .agg #[.int .i64 head2.plan.sectors, .int .i64 head2.plan.size, .int .i64 head2.plan.regions, .int .i64 head2.plan.rs, .int .i64 head2.plan.log, .int .i64 head2.plan.depth, .int .i64 head2.plan.memory, .int .u64 (U head2.plan.seed), .int .i64 head2.gen, .int .i64 head2.page, .int .i64 head2.stamp, .int .i64 head2.depth, .int .i64 head2.log, .int .i64 head2.region, .int .i64 head2.time]] W (DidApart w Q D dB (.int .i64 0) W)) := HS2.out
  have HG1 := Lib.hid hg1
  have HG2 := Lib.hid hg2
  have HSE := Lib.hid hse
  clear hb4 hx4 hPw hPw2 hg1 hg2 hse
  generalize head1 = x1 at *
  generalize head2 = x2 at *
  generalize w3.heap.size = P at *
  go_upto_region 4 with (go_at_call 13; (with_reducible refine (HS1.out _ _ _ HA4.out).mono ?_); rintro e w5 ⟨rfl, hd5, hs5⟩; have HA5 := Lib.hid hd5; have HX5 := Lib.hid ((hs5.2 P rfl).trans HX4.out); clear hd5 hs5)
  clear d0 d1 d2 d3 d4 d5 d6 d7 d8 d9 d10 d11 d12 d13 d14
  obtain ⟨d0, d1, d2, d3, d4, d5, d6, d7, d8, d9, d10, d11, d12, d13, d14⟩ := head_all HX5.out (Below.refl _ _)
  have fz := blk_frozen HX5.out 8
  go_upto_region 5 with (fail)
  change (Code.region _ _ _).wp _ _ _ (w5.setCell ⟨P, 8, none⟩ (.int .i64 2))
  have hx6 := blk_set HX5.out 8 (.int .i64 2)
  rw [HSE.out] at hx6
  have hd6 := HA5.out.put (p := ⟨P, 8, none⟩) rfl HPW.out (.int .i64 2)
  generalize w5.setCell ⟨P, 8, none⟩ (.int .i64 2) = w6 at hx6 hd6 ⊢
  have HX6 := Lib.hid hx6
  have HA6 := Lib.hid hd6
  clear d0 d1 d2 d3 d4 d5 d6 d7 d8 d9 d10 d11 d12 d13 d14 fz hx6 hd6
  obtain ⟨d0, d1, d2, d3, d4, d5, d6, d7, d8, d9, d10, d11, d12, d13, d14⟩ := head_all HX6.out (Below.refl _ _)
  go_upto_region 7 with (first
    | (go_at_call 13; (with_reducible refine (HS2.out _ _ _ HA6.out).mono ?_); rintro e w7 ⟨rfl, hd7, hs7⟩; have HD7 := Lib.hid hd7.here; clear hd7 hs7)
    | (go_at_call 19; (with_reducible refine (HLD.out _ _ HD7.out).mono ?_); rintro e w8 ⟨rfl, hb8⟩; have HB8 := Lib.hid hb8; have HD8 := Lib.hid (HD7.out.on hb8); clear hb8)
    | (refine wpList_store_row (o := ⟨none, _, _, _, _, _⟩) rfl 35 (.tmp 5) (.tmp 22) rfl w8.heap.size x2.cells rfl rfl 35 HeadP.zero.cells (heap_alloc_new _ _) (kh_sz _) rfl ?_ ?_; exact kh_one _))
  change (Code.region _ _ _).wp _ _ _ ((w8.alloc (.cells HeadP.zero.cells 35)).setRow w8.heap.size x2.cells)
  obtain ⟨hb9, hx9⟩ := row_put w8 x2
  generalize (w8.alloc (.cells HeadP.zero.cells 35)).setRow w8.heap.size x2.cells = w9 at hb9 hx9 ⊢
  have HD9 := Lib.hid (HD8.out.on hb9)
  have HX9 := Lib.hid hx9
  clear d0 d1 d2 d3 d4 d5 d6 d7 d8 d9 d10 d11 d12 d13 d14 hb9 hx9
  go_upto_region 8 with (go_at_call 16; (with_reducible refine (HHD.out _ _ HD9.out).mono ?_); rintro e wA ⟨g, c, rfl, hc, hb⟩; have HBA := Lib.hid hb; have d23 := hc; clear hc hb)
  have c8 : wA.cell? ⟨w8.heap.size, 8, none⟩ = some (.int .i64 2) := by
    rw [← HG2.out]
    exact blk_cell ((HBA.out.block _ (blk_lt HX9.out)).trans HX9.out) 8
  go_wp2
  go_ret
  exact ⟨rfl, HD9.out.below.trans (HBA.out.mono HD9.out.size)⟩
end Go.Proofs.Ytfdipeaddofjaaa

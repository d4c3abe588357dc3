/-
  Proved: of no device, of one that is down, an error is told.
  Conditions: none.
-/
import Derived.Test.YthdnpomfjhehkaaSup16
import Derived.Test.YthdnpomfjhehkaaSupNil2
namespace Go.Proofs.Ythdnpomfjhehkaa
open Go.ChangeShapes Go.WideShapes Go.ChangeAt Go.RowKit Go.Deep
attribute [-go_sem] Instr.build Instr.fill

def nilH (g : Int) : HeadP := ⟨smallP, max g 1, 0, 0, 0, 1, 0, 0⟩
theorem nilH_err (g : Int) : (nilH g).err = 0 := by
  have hf : smallP.fits = true := by decide +kernel
  have hok : (nilH g).Ok := ⟨by show 1 ≤ max g 1; omega, by show (0 : Int) ≤ 0; decide, by show (0 : Int) ≤ 2147483647; decide, by show (0 : Int) ≤ 0; decide, by show (0 : Int) ≤ 0; decide, by show (0 : Int) ≤ 2; decide, by show (1 : Int) ≤ 1; decide, by show (0 : Int) ≤ 0; decide, by show (0 : Int) ≤ 0; decide, by show (0 : Int) ≤ 281474976710656; decide⟩
  unfold HeadP.err
  rw [show (nilH g).plan = smallP from rfl, hf, if_pos rfl, if_pos hok]
theorem nilH_wf {g : Int} (hg : g ≤ 9223372036854775807) : (nilH g).Wf := ⟨by show max g 1 ≤ _; omega, by show (0 : Int) ≤ _; decide, by show (1 : Int) ≤ _; decide, by show (0 : Int) ≤ _; decide⟩
def nlA : Dev := { Dev.new 60 96 with armed := (1 : Int).toNat }
def nlB : Dev := nlA.sync
theorem nlA_small : nlA.Small 0 := (small_new 60 96).arm (n := 1) (by decide)
theorem nlB_small : nlB.Small 1 := nlA_small.sync
theorem nlB_down : nlB.down = true := rfl
theorem nlB_saved (x : HeadP) : nlB.saved x = nlB := by
  unfold Dev.saved
  split
  · unfold Dev.write
    rw [if_neg (by rintro ⟨h, _⟩; rw [show askErr nlB.sectors nlB.down (x.gen % 2) = 4 from by unfold askErr; rw [nlB_down]; rfl] at h; exact absurd h (by decide))]
  · rfl
theorem nlB_err (g : Int) : saveErr nlB (nilH g) = 4 := by
  unfold saveErr writeErr
  have e : askErr nlB.sectors nlB.down ((nilH g).gen % 2) = 4 := by unfold askErr; rw [nlB_down]; rfl
  rw [if_pos (nilH_err g), if_pos (show (nilH g).plan.ofDev nlB = true from (by decide : smallP.ofDev nlB = true)), e]
  rfl
theorem nlB_in (m : Nat) : inErr nlB m = 4 := by
  have e : inG nlB m = 4 := by
    unfold inG gotErr
    rw [show askErr nlB.sectors nlB.down (m : Int) = 4 from by unfold askErr; rw [nlB_down]; rfl]
    rfl
  unfold inErr
  rw [e, if_neg (by decide)]
theorem nlB_heads : headsTo nlB 2 = [] := by
  unfold headsTo
  rw [nlB_in, if_neg (by decide)]
  unfold headsTo
  rw [nlB_in, if_neg (by decide)]
  rfl
theorem wf_i64N {i : Int} (h : (Lit.int .i64 i).wf = true) : -9223372036854775808 ≤ i ∧ i ≤ 9223372036854775807 := by
  have := h; simp [Lit.wf, IntKind.min, IntKind.max, IntKind.bits, IntKind.signed] at this
  omega
theorem build_nil (g : Int) (W : World) : (Instr.build 26 #[(0, .agg smallP.cells), (1, .int .i64 (max g 1)), (5, .int .i64 1)]).run Try.prog W = .ok (.agg (nilH g).cells) W := run_build W _ _ _ (by kernel_rfl)

section
attribute [local go_sem] build_nil
set_option maxRecDepth 100000 in
set_option maxHeartbeats 8000000 in
theorem superNil_walk (g : Int) (w : World) (hg : -9223372036854775808 ≤ g ∧ g ≤ 9223372036854775807) : Calls Try.prog 4 #[.int .i64 g] w (Good w) := by
  have HLN := Lib.hid load_nil
  have HNEW : Hid (∀ W, Below w.heap.size w W → Calls Try.prog 11 #[.int .i64 60, .int .i64 96] W fun e W' => ∃ D, e = .returned (.pointer (some ⟨D, 0, none⟩)) ∧ DevHere w D (Dev.new 60 96) W' ∧ Below W.heap.size W W') := fun W hb => here_new 60 96 (by decide) hb
  have HAR : Hid (∀ D W, DevHere w D (Dev.new 60 96) W → Calls Try.prog 12 #[.pointer (some ⟨D, 0, none⟩), .int .i64 1] W (Did w D nlA (.tuple #[]))) := fun D W h => here_arm h 1
  have HSY : Hid (∀ D W, DevHere w D nlA W → Calls Try.prog 13 #[.pointer (some ⟨D, 0, none⟩)] W (Did w D nlB (.int .i64 4))) := fun D W h => here_sync h nlA_small (by decide)
  have HLD : Hid (∀ D W, DevHere w D nlB W → Calls Try.prog 10 #[.pointer (some ⟨D, 0, none⟩)] W (Loaded HeadP.zero 4 W)) := fun D W h => by
    have := load_here h
    rw [nlB_down] at this
    exact this
  have HSM := Lib.hid small_any
  have HOF := Lib.hid (of_any (nilH g))
  have HS0 : Hid (∀ W, Calls Try.prog 15 #[.pointer none, .agg (nilH g).cells] W fun e W' => e = .returned (.int .i64 1) ∧ Below W.heap.size W W') := fun W => save_nil (nilH g) W
  have HSD : Hid (∀ D W, DevHere w D nlB W → Calls Try.prog 15 #[.pointer (some ⟨D, 0, none⟩), .agg (nilH g).cells] W (Did w D nlB (.int .i64 4))) := fun D W h => by
    have := save_here h (nilH g) (nilH_wf hg.2) nlB_small (by decide)
    rw [nlB_saved, nlB_err] at this
    exact this
  have HHN : Hid (∀ W, Calls Try.prog 16 #[.pointer none] W fun e W' => ∃ a c, e = .returned (.slice a 0 c) ∧ Below W.heap.size W W') := fun W => (heads_nil W).mono fun e W' ⟨v, he, hr, hb⟩ => by
    obtain ⟨a, c, rfl⟩ := owns_slice hr
    exact ⟨a, c, he, hb⟩
  have HHD : Hid (∀ D W, DevHere w D nlB W → Calls Try.prog 16 #[.pointer (some ⟨D, 0, none⟩)] W fun e W' => ∃ a c, e = .returned (.slice a 0 c) ∧ Below W.heap.size W W') := fun D W h => (heads_here h).mono fun e W' ⟨v, he, hr, hb⟩ => by
    rw [nlB_heads] at hr
    obtain ⟨a, c, rfl⟩ := owns_slice hr
    exact ⟨a, c, he, hb⟩
  have HAW := Lib.hid awake10
  clear hg
  obtain ⟨x, hx⟩ : ∃ x, nilH g = x := ⟨_, rfl⟩
  generalize nlA = dA at *
  generalize nlB = dB at *
  go_enter Try.func4, Try.ntmps4
  go_upto_region 2 with (first
    | (go_at_call 10; (with_reducible refine (HLN.out _).mono ?_); rintro e w1 ⟨rfl, hb1⟩; have HB1 := Lib.hid hb1; clear hb1)
    | (refine wpList_store_row (o := ⟨none, _, _, _, _, _⟩) rfl 35 (.tmp 3) (.tmp 12) rfl w1.heap.size HeadP.zero.cells rfl rfl 35 HeadP.zero.cells (heap_alloc_new _ _) (kh_sz _) rfl ?_ ?_; exact kh_one _))
  change (Code.region _ _ _).wp _ _ _ ((w1.alloc (.cells HeadP.zero.cells 35)).setRow w1.heap.size HeadP.zero.cells)
  have hb2 := HB1.out.trans ((row_put w1 HeadP.zero).1.mono HB1.out.size)
  generalize (w1.alloc (.cells HeadP.zero.cells 35)).setRow w1.heap.size HeadP.zero.cells = w2 at hb2 ⊢
  have HB2 := Lib.hid hb2
  clear hb2
  go_upto_region 6 with (first
    | (go_at_call 11; (with_reducible refine (HNEW.out _ HB2.out).mono ?_); rintro e w3 ⟨D, rfl, hd3, hb3⟩; have HD3 := Lib.hid hd3; clear hd3 hb3)
    | (go_at_call 12; (with_reducible refine (HAR.out _ _ HD3.out).mono ?_); rintro e w4 ⟨rfl, hd4⟩; have HD4 := Lib.hid hd4; clear hd4)
    | (go_at_call 13; (with_reducible refine (HSY.out _ _ HD4.out).mono ?_); rintro e w5 ⟨rfl, hd5⟩; have HD5 := Lib.hid hd5; clear hd5)
    | (go_at_call 10; (with_reducible refine (HLD.out _ _ HD5.out).mono ?_); rintro e w6 ⟨rfl, hb6⟩; have HD6 := Lib.hid (HD5.out.on hb6); clear hb6)
    | (refine wpList_store_row (o := ⟨none, _, _, _, _, _⟩) rfl 35 (.tmp 7) (.tmp 22) rfl w6.heap.size HeadP.zero.cells rfl rfl 35 HeadP.zero.cells (heap_alloc_new _ _) (kh_sz _) rfl ?_ ?_; exact kh_one _))
  change (Code.region _ _ _).wp _ _ _ ((w6.alloc (.cells HeadP.zero.cells 35)).setRow w6.heap.size HeadP.zero.cells)
  have hd7 := HD6.out.on (row_put w6 HeadP.zero).1
  generalize (w6.alloc (.cells HeadP.zero.cells 35)).setRow w6.heap.size HeadP.zero.cells = w7 at hd7 ⊢
  have HD7 := Lib.hid hd7
  clear hd7
  rw [hx] at HOF HS0 HSD
  have HX := Lib.hid hx
  clear hx
  go_upto_region 7 with (first
    | (go_at_call 14; (with_reducible refine (HSM.out _).mono ?_); rintro e w8 ⟨rfl, hb8⟩; have HD8 := Lib.hid (HD7.out.on hb8); clear hb8)
    | (go_at_call 7; (rw [HX.out]); (with_reducible refine (HOF.out _).mono ?_); rintro e w9 ⟨rfl, hb9⟩; have HD9 := Lib.hid (HD8.out.on hb9); clear hb9)
    | (refine wpList_store_row (o := ⟨none, _, _, _, _, _⟩) rfl 35 (.tmp 9) (.tmp 28) rfl w9.heap.size x.cells rfl rfl 35 HeadP.zero.cells (heap_alloc_new _ _) (kh_sz _) rfl ?_ ?_; exact kh_one _))
  change (Code.region _ _ _).wp _ _ _ ((w9.alloc (.cells HeadP.zero.cells 35)).setRow w9.heap.size x.cells)
  obtain ⟨hbA, hxA⟩ := row_put w9 x
  generalize (w9.alloc (.cells HeadP.zero.cells 35)).setRow w9.heap.size x.cells = wA at hbA hxA ⊢
  have HDA := Lib.hid (HD9.out.on hbA)
  have HXA := Lib.hid hxA
  clear hbA hxA
  have HS0 : Hid (∀ W, Calls Try.prog 15 #[.pointer none, .agg #[.int .i64 x.plan.sectors, .int .i64 x.plan.size, .int .i64 x.plan.regions, .int .i64 x.plan.rs, .int .i64 x.plan.log, .int .i64 x.plan.depth, .int .i64 x.plan.memory, .int .u64 (U x.plan.seed), .int .i64 x.gen, .int .i64 x.page, .int .i64 x.stamp, .int .i64 x.depth, .int .i64 x.log, .int .i64 x.region, .int .i64 x.time]] W fun e W' => e = .returned (.int .i64 1) ∧ Below W.heap.size W W') := HS0.out
  have HSD : Hid (∀ D W, DevHere w D dB W → Calls Try.prog 15 #[.pointer (some ⟨D, 0, none⟩), .agg #[.int .i64 x.plan.sectors, .int .i64 x.plan.size, .int .i64 x.plan.regions, .int .i64 x.plan.rs, .int .i64 x.plan.log, .int .i64 x.plan.depth, .int .i64 x.plan.memory, .int .u64 (U x.plan.seed), .int .i64 x.gen, .int .i64 x.page, .int .i64 x.stamp, .int .i64 x.depth, .int .i64 x.log, .int .i64 x.region, .int .i64 x.time]] W (Did w D dB (.int .i64 4))) := HSD.out
  obtain ⟨d0, d1, d2, d3, d4, d5, d6, d7, d8, d9, d10, d11, d12, d13, d14⟩ := head_all HXA.out (Below.refl _ _)
  go_wp2_with (first
    | (go_at_call 15; (with_reducible refine (HS0.out _).mono ?_); rintro e wB ⟨rfl, hbB⟩; have HDB := Lib.hid (HDA.out.on hbB); have HXB := head_all ((hbB.block _ (blk_lt HXA.out)).trans HXA.out) (Below.refl _ _); clear hbB d0 d1 d2 d3 d4 d5 d6 d7 d8 d9 d10 d11 d12 d13 d14; obtain ⟨d0, d1, d2, d3, d4, d5, d6, d7, d8, d9, d10, d11, d12, d13, d14⟩ := HXB)
    | (go_at_call 15; (with_reducible refine (HSD.out _ _ HDB.out).mono ?_); rintro e wC ⟨rfl, hdC⟩; have HDC := Lib.hid hdC; clear hdC d0 d1 d2 d3 d4 d5 d6 d7 d8 d9 d10 d11 d12 d13 d14)
    | (go_at_call 16; (with_reducible refine (HHN.out _).mono ?_); rintro e wD ⟨a1, c1, rfl, hbD⟩; have HDD := Lib.hid (HDC.out.on hbD); clear hbD)
    | (go_at_call 16; (with_reducible refine (HHD.out _ _ HDD.out).mono ?_); rintro e wE ⟨a2, c2, rfl, hbE⟩; have HDE := Lib.hid (HDD.out.on hbE); clear hbE)
    | (go_at_call 8; (with_reducible refine (HAW.out _).mono ?_); rintro e wF ⟨rfl, hbF⟩; have HDF := Lib.hid (HDE.out.on hbF); clear hbF))
  go_ret
  exact ⟨rfl, HDF.out.below⟩
end

set_option maxRecDepth 100000 in
theorem superNil_lifted (os : Os) (started : os.Started) (H : Type) (enc : TypeId × Value → H) :
    ReturnsInHanded {} Try.checked os 4 .any (Rows.superNilSpec.pre6 enc Try.prog Try.f4 Rows.superNilRow.domain false) (Rows.superNilSpec.post enc Try.prog Try.f4 false true false false) :=
  law_lifted 4 Try.f4 Rows.superNilSpec Try.func4 (by kernel_rfl) rfl rfl
    (fun ds h => by match ds, h with | [_], _ => rfl) (by kernel_rfl) os started
    (ChangeSpec.witness6 (enc := enc) (C := Try.checked) false ⟨#[], #[.int .i64 0], []⟩ 8 (by kernel_rfl) (by kernel_rfl) (by kernel_rfl) (by kernel_rfl))
    fun W args ds ps hval hA => by
      rw [Try.params4] at hA hval
      obtain ⟨v0, vs0, d0, ds0, p0, q0, hargs, rfl, rfl, h0, r0⟩ := trodAll_cons hA
      obtain ⟨rfl, rfl, rfl⟩ := trodAll_nil r0
      obtain rfl : args = #[v0] := by cases args; simp_all
      obtain ⟨b0, o0⟩ := hval 0 _ v0 rfl rfl
      obtain ⟨a0, rfl, rfl, rfl, w0⟩ := open_int Try.underlying3 o0 h0
      exact superNil_walk a0 W (wf_i64N w0)

/-- The statement. -/
theorem superNil_holds : Rows.SuperNilSaid :=
  OpenClaim.holds_of_wide 4 Try.f4 rfl rfl rfl rfl rfl rfl rfl ⟨rfl, rfl, rfl, rfl, rfl⟩ rfl rfl rfl rfl rfl (by kernel_rfl) Try.func4 (by kernel_rfl)
    (of_decide_eq_true (by kernel_rfl)) (by unfold Func.isWrapper; first | (rw [if_pos (by decide +kernel)]; kernel_rfl) | (rw [if_neg (by decide +kernel)]; exact ⟨rfl, rfl⟩))
    (fun os started H enc _ => superNil_lifted os started H enc)
#print axioms superNil_holds

end Go.Proofs.Ythdnpomfjhehkaa

/-
  super.Save, headIn on a device.
  Conditions: none.
-/
import Derived.Test.YtfdipeaddofjaaaSup3
import Derived.Test.YtfdipeaddofjaaaLeafDev
namespace Go.Proofs.Ytfdipeaddofjaaa
open Go.RowKit
attribute [-go_sem] Instr.build Instr.fill

/-- What is written of a head. -/
def HeadP.sector (x : HeadP) (size : Nat) : List (BitVec 8) := buildB size 1 (x.gen % 2) x.gen x.bytes
def Dev.saved (d : Dev) (x : HeadP) : Dev := if x.err = 0 ∧ x.plan.ofDev d = true then d.write (x.gen % 2) (x.sector d.size) else d
def saveErr (d : Dev) (x : HeadP) : Int := if x.err = 0 then (if x.plan.ofDev d = true then writeErr d (x.gen % 2) (x.sector d.size).length else 12) else x.err
theorem head_gen {x : HeadP} (h : x.err = 0) : 1 ≤ x.gen ∧ x.plan.fits = true ∧ x.Ok := by
  unfold HeadP.err at h
  cases hf : x.plan.fits with
  | false => rw [hf, if_neg (by decide)] at h; exact absurd h (by decide)
  | true =>
    rw [hf] at h
    by_cases ho : x.Ok
    · exact ⟨ho.1, rfl, ho⟩
    · rw [if_pos rfl, if_neg ho] at h; exact absurd h (by decide)
theorem save_build {x : HeadP} (h : x.err = 0) {S : Nat} (h1 : 96 ≤ S) (h2 : S ≤ 512) : buildErr S 1 (x.gen % 2) x.gen x.bytes.length = 0 := by
  have hg := (head_gen h).1
  have hs : sizeB (S : Int) = true := by simp [sizeB]; omega
  have hk : kindB 1 = true := by decide
  unfold buildErr
  rw [if_pos hs, if_pos ⟨hk, by omega, by omega, by omega⟩, if_neg (by rw [x.bytes_len]; omega)]
@[local go_sem] theorem build_leaf (p g : Int) (a : Option Addr) (n c : Nat) (W : World) : (Instr.build 96 #[(0, .int .i64 1), (1, .int .i64 p), (2, .int .i64 g), (3, .slice a n c)]).run Try.prog W = .ok (.agg #[.int .i64 1, .int .i64 p, .int .i64 g, .slice a n c]) W := run_build W _ _ _ (by kernel_rfl)

theorem save_nil (x : HeadP) (W : World) : Calls Try.prog 13 #[.pointer none, .agg x.cells] W fun e W' => e = .returned (.int .i64 1) ∧ Below W.heap.size W W' := by
  obtain ⟨Y, hY⟩ : ∃ Y, x.cells = Y := ⟨_, rfl⟩
  rw [hY]
  go_enter Try.func13, Try.ntmps13
  go_wp2
  go_ret
  exact ⟨rfl, (Below.refl _ _).alloc (Nat.le_refl _) _⟩

set_option maxRecDepth 100000 in
set_option maxHeartbeats 4000000 in
theorem save_here {w W : World} {D : Nat} {d : Dev} (h : DevHere w D d W) (x : HeadP) (hx : x.Wf) {k : Nat} (hs : d.Small k) (hk : k ≤ 65536) :
    Calls Try.prog 13 #[.pointer (some ⟨D, 0, none⟩), .agg x.cells] W (Did w D (d.saved x) (.int .i64 (saveErr d x))) := by
  have hX : (W.alloc (.cells x.cells 35)).heap[W.heap.size]? = some (.cells x.cells 35 (0, 0)) := heap_alloc_new _ _
  have HB := Lib.hid (show Below W.heap.size W (W.alloc (.cells x.cells 35)) from (Below.refl _ _).alloc (Nat.le_refl _) _)
  obtain ⟨W1, hW1⟩ : ∃ W1, W.alloc (.cells x.cells 35) = W1 := ⟨_, rfl⟩
  rw [hW1] at hX HB
  obtain ⟨X, hXe⟩ : ∃ X, W.heap.size = X := ⟨_, rfl⟩
  have HXE := Lib.hid hXe
  rw [hXe] at hX
  have HX := Lib.hid hX
  have HD1 := Lib.hid (h.on HB.out)
  obtain ⟨d0, d1, d2, d3, d4, d5, d6, d7, d8, d9, d10, d11, d12, d13, d14⟩ := head_all hX (Below.refl _ _)
  have HPK : Hid (Calls Try.prog 5 #[.agg #[.int .i64 x.plan.sectors, .int .i64 x.plan.size, .int .i64 x.plan.regions, .int .i64 x.plan.rs, .int .i64 x.plan.log, .int .i64 x.plan.depth, .int .i64 x.plan.memory, .int .u64 (U x.plan.seed), .int .i64 x.gen, .int .i64 x.page, .int .i64 x.stamp, .int .i64 x.depth, .int .i64 x.log, .int .i64 x.region, .int .i64 x.time]] W1 (SPacked x.load x.err W1)) := spack_any x hx W1
  have HC := Lib.hid (fun V (hb : Below W1.heap.size W1 V) => head_all HX.out hb)
  have hgen := hx.gen
  clear hX hXe h
  by_cases he : x.err = 0
  · obtain ⟨g1, hfit, hok⟩ := head_gen he
    have hlo : x.load = x.bytes := by unfold HeadP.load; rw [if_pos he]
    rw [he, hlo] at HPK
    have HIO : Hid (∀ V, DevHere w D d V → Calls Try.prog 37 #[.agg #[.int .i64 x.plan.sectors, .int .i64 x.plan.size, .int .i64 x.plan.regions, .int .i64 x.plan.rs, .int .i64 x.plan.log, .int .i64 x.plan.depth, .int .i64 x.plan.memory, .int .u64 (U x.plan.seed)], .pointer (some ⟨D, 0, none⟩)] V fun e W' => e = .returned (.bool (x.plan.ofDev d)) ∧ Below V.heap.size V W') := fun V hv => isOf_any hv x.plan
    cases hof : x.plan.ofDev d with
    | false =>
      have HE : Hid (d.saved x = d ∧ saveErr d x = 12) := by
        unfold Hid Dev.saved saveErr
        rw [if_neg (by rw [hof]; simp), if_pos he, if_neg (by rw [hof]; decide)]
        exact ⟨rfl, rfl⟩
      rw [hof] at HIO
      clear hof hfit hok hlo he
      go_enter Try.func13, Try.ntmps13
      go_upto_region 1 with (fail)
      rw [HXE.out]
      clear hW1
      go_upto_region 6 with (go_at_call 5; (with_reducible refine HPK.out.mono ?_); rintro e w2 ⟨u, rfl, _, hb2⟩; have HB2 := Lib.hid hb2; clear hb2)
      clear d0 d1 d2 d3 d4 d5 d6 d7 d8 d9 d10 d11 d12 d13 d14
      obtain ⟨d0, d1, d2, d3, d4, d5, d6, d7, d8, _⟩ := HC.out _ HB2.out
      have HD2 := Lib.hid (HD1.out.on HB2.out)
      go_wp2_with (go_at_call 37; (with_reducible refine (HIO.out _ HD2.out).mono ?_); rintro e w3 ⟨rfl, hb3⟩; have HD3 := Lib.hid (HD2.out.on hb3); clear hb3)
      go_ret
      rw [HE.out.1, HE.out.2]
      exact ⟨rfl, HD3.out⟩
    | true =>
      obtain ⟨sz1, sz2⟩ := HD1.out.right.2
      have hbe := save_build he sz1 sz2
      have HE : Hid (d.saved x = d.write (x.gen % 2) (x.sector d.size) ∧ saveErr d x = writeErr d (x.gen % 2) (x.sector d.size).length) := by
        unfold Hid Dev.saved saveErr
        rw [if_pos ⟨he, hof⟩, if_pos he, if_pos hof]
        exact ⟨rfl, rfl⟩
      rw [hof] at HIO
      have HTU := Lib.hid (fun V => turn_any x.gen (by omega) V)
      have HPU : Hid (∀ V a n c, DevHere w D d V → BytesAt V.heap.size V (.slice a n c) x.bytes → Calls Try.prog 39 #[.pointer (some ⟨D, 0, none⟩), .int .i64 (x.gen % 2), .agg #[.int .i64 1, .int .i64 (x.gen % 2), .int .i64 x.gen, .slice a n c]] V (Did w D (d.write (x.gen % 2) (x.sector d.size)) (.int .i64 (writeErr d (x.gen % 2) (x.sector d.size).length)))) := fun V a n c hv hu => by
        refine (put_here hv (x.gen % 2) ⟨1, x.gen % 2, x.gen, x.bytes⟩ _ hu hgen hs hk).mono ?_
        intro e W' hp
        rcases hp with ⟨_, hp⟩ | ⟨hp, _⟩
        · exact hp
        · exact absurd hbe hp
      have hg2 : (0 : Int) ≤ x.gen % 2 := by omega
      clear hof hfit hok hlo he hbe
      go_enter Try.func13, Try.ntmps13
      go_upto_region 1 with (fail)
      rw [HXE.out]
      clear hW1
      go_upto_region 6 with (go_at_call 5; (with_reducible refine HPK.out.mono ?_); rintro e w2 ⟨u, rfl, hu, hb2⟩; have HB2 := Lib.hid hb2; have HU2 := Lib.hid hu; clear hb2 hu)
      clear d0 d1 d2 d3 d4 d5 d6 d7 d8 d9 d10 d11 d12 d13 d14
      obtain ⟨d0, d1, d2, d3, d4, d5, d6, d7, d8, _⟩ := HC.out _ HB2.out
      have HD2 := Lib.hid (HD1.out.on HB2.out)
      obtain ⟨au, cu, rfl⟩ := owns_slice HU2.out
      go_upto_region 8 with (go_at_call 37; (with_reducible refine (HIO.out _ HD2.out).mono ?_); rintro e w3 ⟨rfl, hb3⟩; have HD3 := Lib.hid (HD2.out.on hb3); have HB3 := Lib.hid hb3; clear hb3)
      clear d0 d1 d2 d3 d4 d5 d6 d7 d8
      obtain ⟨_, _, _, _, _, _, _, _, d8, _⟩ := HC.out _ (HB2.out.trans (HB3.out.mono HB2.out.size))
      have HW := Lib.hid (HPU.out w3 au x.bytes.length cu HD3.out ((BytesAt.of_owns HU2.out).below HB3.out |>.mono HB3.out.size))
      obtain ⟨er, her⟩ : ∃ er, writeErr d (x.gen % 2) (x.sector d.size).length = er := ⟨_, rfl⟩
      rw [her] at HW HE
      obtain ⟨gm, hgm⟩ : ∃ gm, x.gen % 2 = gm := ⟨_, rfl⟩
      rw [hgm] at HW HTU
      clear her hg2
      go_wp2_with (first
        | (go_at_call 38; (with_reducible refine (HTU.out _).mono ?_); rintro e w4 ⟨rfl, rfl⟩)
        | (go_at_call 39; (with_reducible refine HW.out.mono ?_); rintro e w5 ⟨rfl, hd5⟩; have HD5 := Lib.hid hd5; clear hd5))
      go_ret
      rw [HE.out.1, HE.out.2, hgm]
      exact ⟨rfl, HD5.out⟩
  · have HE : Hid (d.saved x = d ∧ saveErr d x = x.err) := by
      unfold Hid Dev.saved saveErr
      rw [if_neg (fun hh => he hh.1), if_neg he]
      exact ⟨rfl, rfl⟩
    have e1 : (x.err != 0) = true := by simpa using he
    clear he
    generalize x.err = er at *
    go_enter Try.func13, Try.ntmps13
    go_upto_region 1 with (fail)
    rw [HXE.out]
    clear hW1
    go_wp2_with (go_at_call 5; (with_reducible refine HPK.out.mono ?_); rintro e w2 ⟨u, rfl, _, hb2⟩; have HB2 := Lib.hid hb2; clear hb2)
    go_ret
    rw [HE.out.1, HE.out.2]
    exact ⟨rfl, HD1.out.on HB2.out⟩

end Go.Proofs.Ytfdipeaddofjaaa

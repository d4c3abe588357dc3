/-
  region: Format.
  Conditions: none.
-/
import Derived.Test.YtiddfilhfdkogaaReg10
import Derived.Test.YtiddfilhfdkogaaReg3
import Derived.Test.YtiddfilhfdkogaaJP2
namespace Go.Proofs.Ytiddfilhfdkogaa
open Go.RowKit

/-- A log without regions. -/
def PlanP.log0 (p : PlanP) : LogS := ⟨p.lay.region.toNat, p.regions.toNat, p.rs.toNat, (p.size - 19).toNat, 0, p.rs.toNat, []⟩
theorem log0_ok {p : PlanP} (h : p.fits = true) : p.log0.Ok := by
  obtain ⟨ha, _, hc⟩ := (fits_iff p).1 h
  have h1 := ha.regions
  have h2 := ha.rs
  have h3 := ha.size
  have h4 := ha.log
  have h5 := ha.sectors
  have hl := lay_bound ha
  have htr := hl.2.2.1
  obtain ⟨a, ea⟩ : ∃ a : Nat, p.regions = a := ⟨p.regions.toNat, by omega⟩
  obtain ⟨b, eb⟩ : ∃ b : Nat, p.rs = b := ⟨p.rs.toNat, by omega⟩
  have hpg : p.lay.pages = p.sectors - (2 + p.log + p.regions * p.rs) := rfl
  have hrg : p.lay.region = 2 + p.log := rfl
  have hm : p.regions * p.rs = ((a * b : Nat) : Int) := by rw [ea, eb]; push_cast; rfl
  unfold PlanP.log0
  refine ⟨by show 1 ≤ p.regions.toNat; omega, by show 1 ≤ p.rs.toNat; omega, by show 1 ≤ (p.size - 19).toNat; omega, by show (p.size - 19).toNat ≤ 493; omega, ?_, Nat.zero_le _, Nat.le_refl _, Nat.zero_le _, fun _ => rfl⟩
  show p.lay.region.toNat + p.regions.toNat * p.rs.toNat ≤ 16384
  have e1 : p.regions.toNat = a := by omega
  have e2 : p.rs.toNat = b := by omega
  rw [e1, e2, hrg]
  rw [hm] at hpg
  generalize a * b = m at *
  omega
theorem log0_on {p : PlanP} (h : p.fits = true) {d : Dev} (hd : p.sectors = d.sectors ∧ p.size = d.size) : p.log0.On d := by
  obtain ⟨ha, _, hc⟩ := (fits_iff p).1 h
  have h1 := ha.regions
  have h2 := ha.rs
  have h3 := ha.size
  have h4 := ha.log
  have hl := lay_bound ha
  have htr := hl.2.2.1
  obtain ⟨a, ea⟩ : ∃ a : Nat, p.regions = a := ⟨p.regions.toNat, by omega⟩
  obtain ⟨b, eb⟩ : ∃ b : Nat, p.rs = b := ⟨p.rs.toNat, by omega⟩
  have hpg : p.lay.pages = p.sectors - (2 + p.log + p.regions * p.rs) := rfl
  have hrg : p.lay.region = 2 + p.log := rfl
  have hm : p.regions * p.rs = ((a * b : Nat) : Int) := by rw [ea, eb]; push_cast; rfl
  refine ⟨by show d.size = (p.size - 19).toNat + 19; omega, ?_⟩
  show p.lay.region.toNat + p.regions.toNat * p.rs.toNat ≤ d.sectors
  have e1 : p.regions.toNat = a := by omega
  have e2 : p.rs.toNat = b := by omega
  rw [e1, e2, hrg]
  rw [hm] at hpg
  generalize a * b = m at *
  omega
/-- What Format tells that tells none. -/
def FormatNot (n : Int) (w : World) (e : Ending) (w' : World) : Prop := e = .returned (.tuple #[.pointer none, .int .i64 n]) ∧ Below w.heap.size w w'
set_option maxRecDepth 100000 in
set_option maxHeartbeats 4000000 in
/-- Of a plan that lies on no device, or not on this one. -/
theorem format_not (p : PlanP) (D : Value) (x : LayP) (n : Int) (hn : n ≠ 0) (w : World) (h : ∀ W, Below w.heap.size w W → Calls Try.prog 24 #[D, .agg p.cells] W (LaidDid x n W)) : Calls Try.prog 8 #[D, .agg p.cells] w (FormatNot n w) := by
  have HB : Hid (Below w.heap.size w (w.alloc (.cells p.cells 31))) := (Below.refl _ _).alloc (Nat.le_refl _) _
  have HG := Lib.hid (h _ HB.out)
  have HP := Lib.hid (heap_alloc_new w (.cells p.cells 31))
  unfold PlanP.cells at HB HG HP
  clear h
  go_enter Try.func8, Try.ntmps8
  unfold PlanP.cells
  go_upto_region 1 with (fail)
  generalize w.alloc (.cells #[.int .i64 p.sectors, .int .i64 p.size, .int .i64 p.regions, .int .i64 p.rs, .int .i64 p.log, .int .i64 p.depth, .int .i64 p.memory, .int .u64 (U p.seed)] 31) = W at HB HG HP ⊢
  have p0 : W.cell? ⟨w.heap.size, 0, none⟩ = some (.int .i64 p.sectors) := blk_cell HP.out 0
  have p1 : W.cell? ⟨w.heap.size, 1, none⟩ = some (.int .i64 p.size) := blk_cell HP.out 1
  have p2 : W.cell? ⟨w.heap.size, 2, none⟩ = some (.int .i64 p.regions) := blk_cell HP.out 2
  have p3 : W.cell? ⟨w.heap.size, 3, none⟩ = some (.int .i64 p.rs) := blk_cell HP.out 3
  have p4 : W.cell? ⟨w.heap.size, 4, none⟩ = some (.int .i64 p.log) := blk_cell HP.out 4
  have p5 : W.cell? ⟨w.heap.size, 5, none⟩ = some (.int .i64 p.depth) := blk_cell HP.out 5
  have p6 : W.cell? ⟨w.heap.size, 6, none⟩ = some (.int .i64 p.memory) := blk_cell HP.out 6
  have p7 : W.cell? ⟨w.heap.size, 7, none⟩ = some (.int .u64 (U p.seed)) := blk_cell HP.out 7
  unfold LaidDid LayP.cells at HG
  go_wp2_with (go_at_call 24; (with_reducible refine HG.out.mono ?_); rintro e w2 ⟨rfl, hb2⟩; have HB2 := Lib.hid hb2; clear hb2)
  go_ret2
  exact ⟨rfl, (HB.out.trans (HB2.out.mono HB.out.size)).alloc (Nat.le_trans HB.out.size HB2.out.size) _⟩
set_option maxRecDepth 100000 in
set_option maxHeartbeats 8000000 in
theorem format_any (p : PlanP) {w w0 : World} {E : Foot} {D : Nat} {d : Dev} (hd : DevApart w0 E D d w) (hE : ∀ k, E k → w0.heap.size ≤ k) (hf : p.fits = true) (hm : p.sectors = d.sectors ∧ p.size = d.size) :
    Calls Try.prog 8 #[.pointer (some ⟨D, 0, none⟩), .agg p.cells] w fun e w' => ∃ R, w.heap.size ≤ R ∧ e = .returned (.tuple #[.pointer (some ⟨R, 0, none⟩), .int .i64 0]) ∧ LogApart w0 E R D p.log0 d w' ∧ Below w.heap.size w w' := by
  have HB : Hid (Below w.heap.size w (w.alloc (.cells p.cells 31))) := (Below.refl _ _).alloc (Nat.le_refl _) _
  obtain ⟨O, hda, hbw, hoff, hin⟩ := id hd
  obtain ⟨ha, _, _⟩ := (fits_iff p).1 hf
  have hda1 := hda.keep (Same.of_below HB.out hda.inn)
  have HG : Hid (Calls Try.prog 24 #[.pointer (some ⟨D, 0, none⟩), .agg p.cells] (w.alloc (.cells p.cells 31)) (LaidDid p.lay 0 (w.alloc (.cells p.cells 31)))) := by
    obtain ⟨F, P, L, lv, fm, pm, lm, hp⟩ := hda1
    have c0 : (w.alloc (.cells p.cells 31)).cell? ⟨D, 0, none⟩ = some (.int .i64 p.sectors) := by rw [hm.1]; exact blk_cell hp.blk 0
    have c1 : (w.alloc (.cells p.cells 31)).cell? ⟨D, 1, none⟩ = some (.int .i64 p.size) := by rw [hm.2]; exact blk_cell hp.blk 1
    have := glay_fit p c0 c1
    rwa [(fit_yes hf).1, (fit_yes hf).2] at this
  have HP := Lib.hid (heap_alloc_new w (.cells p.cells 31))
  have HOK := Lib.hid (log0_ok hf)
  have HD := Lib.hid hd
  have HE := Lib.hid hE
  have h1 := ha.regions
  have h2 := ha.rs
  have h3 := ha.size
  have h4 := ha.log
  obtain ⟨a, ea⟩ : ∃ a : Nat, p.regions = a := ⟨p.regions.toNat, by omega⟩
  obtain ⟨b, eb⟩ : ∃ b : Nat, p.rs = b := ⟨p.rs.toNat, by omega⟩
  obtain ⟨m, em⟩ : ∃ m : Nat, p.size - 19 = m := ⟨(p.size - 19).toNat, by omega⟩
  have hq : p.lay.room / p.rs = (m : Int) := by
    show p.rs * (p.size - 19) / p.rs = m
    rw [Int.mul_ediv_cancel_left _ (by omega), em]
  obtain ⟨f, ef⟩ : ∃ f : Nat, p.lay.region = f := ⟨p.lay.region.toNat, by have : p.lay.region = 2 + p.log := rfl; omega⟩
  have HX : Hid (p.log0 = ⟨f, a, b, m, 0, b, []⟩) := by
    unfold Hid PlanP.log0
    rw [ef, ea, eb, em]
    rfl
  have hr0 : 0 ≤ p.lay.room := by
    show 0 ≤ p.rs * (p.size - 19)
    exact Int.mul_nonneg (by omega) (by omega)
  unfold PlanP.cells LaidDid LayP.cells at HG
  unfold PlanP.cells at HP HB
  rw [ea, eb, ef] at HG
  rw [ea, eb] at HP HB
  rw [eb] at hq
  have b1 : (1 : Int) ≤ b := by omega
  have b2 : (b : Int) ≤ 32 := by omega
  generalize p.lay.room = rm at HG hq hr0
  have HQ : Hid (wrap64 (rm.tdiv (b : Int)) = (m : Int)) := by
    unfold Hid
    rw [Int.tdiv_eq_ediv_of_nonneg hr0, hq]
    exact IntWalk.wrap64_in _ ⟨by omega, by omega⟩
  clear hd hE hf hm hda hbw hoff hin ha hda1 h1 h2 h3 h4 ef
  go_enter Try.func8, Try.ntmps8
  unfold PlanP.cells
  rw [ea, eb]
  go_upto_region 1 with (fail)
  generalize w.alloc (.cells #[.int .i64 p.sectors, .int .i64 p.size, .int .i64 a, .int .i64 b, .int .i64 p.log, .int .i64 p.depth, .int .i64 p.memory, .int .u64 (U p.seed)] 31) = W at HB HG HP ⊢
  have p0 : W.cell? ⟨w.heap.size, 0, none⟩ = some (.int .i64 p.sectors) := blk_cell HP.out 0
  have p1 : W.cell? ⟨w.heap.size, 1, none⟩ = some (.int .i64 p.size) := blk_cell HP.out 1
  have p2 : W.cell? ⟨w.heap.size, 2, none⟩ = some (.int .i64 a) := blk_cell HP.out 2
  have p3 : W.cell? ⟨w.heap.size, 3, none⟩ = some (.int .i64 b) := blk_cell HP.out 3
  have p4 : W.cell? ⟨w.heap.size, 4, none⟩ = some (.int .i64 p.log) := blk_cell HP.out 4
  have p5 : W.cell? ⟨w.heap.size, 5, none⟩ = some (.int .i64 p.depth) := blk_cell HP.out 5
  have p6 : W.cell? ⟨w.heap.size, 6, none⟩ = some (.int .i64 p.memory) := blk_cell HP.out 6
  have p7 : W.cell? ⟨w.heap.size, 7, none⟩ = some (.int .u64 (U p.seed)) := blk_cell HP.out 7
  clear ea eb em
  go_upto_region 4 with (go_at_call 24; (with_reducible refine HG.out.mono ?_); rintro e w2 ⟨rfl, hb2⟩; have HB2 := Lib.hid hb2; clear hb2)
  have hl := heap_alloc_new w2 (.cells #[.int .i64 p.lay.log, .int .i64 f, .int .i64 p.lay.page, .int .i64 p.lay.pages, .int .i64 p.lay.per, .int .i64 p.lay.slots, .int .i64 p.lay.tree, .int .i64 rm] 67)
  have hp := blk_alloc ((HB2.out.block _ (blk_lt HP.out)).trans HP.out) (.cells #[.int .i64 p.lay.log, .int .i64 f, .int .i64 p.lay.page, .int .i64 p.lay.pages, .int .i64 p.lay.per, .int .i64 p.lay.slots, .int .i64 p.lay.tree, .int .i64 rm] 67)
  have hb := (HB.out.trans (HB2.out.mono HB.out.size)).alloc (Nat.le_trans HB.out.size HB2.out.size) (.cells #[.int .i64 p.lay.log, .int .i64 f, .int .i64 p.lay.page, .int .i64 p.lay.pages, .int .i64 p.lay.per, .int .i64 p.lay.slots, .int .i64 p.lay.tree, .int .i64 rm] 67)
  change (Code.region _ _ _).wp _ _ _ (w2.alloc (.cells #[.int .i64 p.lay.log, .int .i64 f, .int .i64 p.lay.page, .int .i64 p.lay.pages, .int .i64 p.lay.per, .int .i64 p.lay.slots, .int .i64 p.lay.tree, .int .i64 rm] 67))
  generalize w2.alloc (.cells #[.int .i64 p.lay.log, .int .i64 f, .int .i64 p.lay.page, .int .i64 p.lay.pages, .int .i64 p.lay.per, .int .i64 p.lay.slots, .int .i64 p.lay.tree, .int .i64 rm] 67) = V at hl hp hb ⊢
  have q1 : V.cell? ⟨w2.heap.size, 1, none⟩ = some (.int .i64 f) := blk_cell hl 1
  have q7 : V.cell? ⟨w2.heap.size, 7, none⟩ = some (.int .i64 rm) := blk_cell hl 7
  have r2 : V.cell? ⟨w.heap.size, 2, none⟩ = some (.int .i64 a) := blk_cell hp 2
  have r3 : V.cell? ⟨w.heap.size, 3, none⟩ = some (.int .i64 b) := blk_cell hp 3
  have HV := Lib.hid hb
  clear hl hp hb p0 p1 p2 p3 p4 p5 p6 p7
  go_region
  go_wp2
  go_ret2
  rw [HQ.out]
  have hsz : w.heap.size ≤ V.heap.size := HV.out.size
  have hw0 : w0.heap.size ≤ w.heap.size := (HD.out.here).below.size
  obtain ⟨U2, hU2⟩ : ∃ U2, (V.alloc (.cells #[.pointer (some ⟨D, 0, none⟩), .int .i64 f, .int .i64 a, .int .i64 b, .int .i64 m, .int .i64 0, .int .i64 b, .slice none 0 0] 71)).drew = U2 := ⟨_, rfl⟩
  have hbl : U2.heap[V.heap.size]? = some (.cells #[.pointer (some ⟨D, 0, none⟩), .int .i64 f, .int .i64 a, .int .i64 b, .int .i64 m, .int .i64 0, .int .i64 b, .slice none 0 0] 71 (0, 0)) := by
    rw [← hU2]; exact heap_alloc_new V _
  have hnow : Below w.heap.size w U2 := by rw [← hU2]; exact (HV.out.alloc hsz _).drew
  have hus : V.heap.size < U2.heap.size := blk_lt hbl
  obtain ⟨O, hda, hbw, hoff, hin⟩ := HD.out
  have hnr : ¬ E V.heap.size := fun e => by have := hin _ e; omega
  have hL : LogApart w0 E V.heap.size D p.log0 d U2 := by
    rw [HX.out]
    have hok := HOK.out
    rw [HX.out] at hok
    refine ⟨.slice none 0 0, ⟨hok, hbl, World.ownsRow_nil _ _ _ _, by omega⟩, ⟨O, hda.keep (Same.of_below hnow hda.inn), hbw.trans (hnow.mono hw0), fun k ho hq => ?_, fun k hq => ?_⟩, hnr, fun k e => by simp [Value.ownBlock] at e, HE.out⟩
    · rcases hq with hq | rfl | hq
      · exact hoff k ho hq
      · have := hda.inn _ ho; omega
      · simp [Value.ownBlock] at hq
    · rcases hq with hq | rfl | hq
      · exact Nat.lt_of_lt_of_le (hin k hq) hnow.size
      · exact hus
      · simp [Value.ownBlock] at hq
  rw [← hU2] at hL hnow
  exact ⟨V.heap.size, hsz, rfl, hL, hnow⟩
end Go.Proofs.Ytiddfilhfdkogaa

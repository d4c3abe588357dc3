/-
  region: write, Flush, begin, writeIfFull.
  Conditions: none.
-/
import Derived.Test.YtiddfilhfdkogaaReg3
import Derived.Test.YtiddfilhfdkogaaLeafApart
import Derived.StillTailTactics
namespace Go.Proofs.Ytiddfilhfdkogaa
open Go.RowKit
attribute [-go_sem] Instr.build Instr.fill

@[local go_sem] theorem build_loc1 (q : Int) (W : World) : (Instr.build 42 #[(0, .int .i64 q)]).run Try.prog W = .ok (.agg #[.int .i64 q, .int .i64 0, .int .i64 0]) W := run_build W _ _ _ (by kernel_rfl)
@[local go_sem] theorem build_piece (q p n s : Int) (W : World) : (Instr.build 88 #[(0, .agg #[.int .i64 q, .int .i64 p, .int .i64 n]), (1, .int .i64 s)]).run Try.prog W = .ok (.agg #[.int .i64 q, .int .i64 p, .int .i64 n, .int .i64 s]) W := run_build W _ _ _ (by kernel_rfl)
@[local go_sem] theorem build_leaf3 (p g : Int) (a : Option Addr) (n c : Nat) (W : World) : (Instr.build 104 #[(0, .int .i64 3), (1, .int .i64 p), (2, .int .i64 g), (3, .slice a n c)]).run Try.prog W = .ok (.agg #[.int .i64 3, .int .i64 p, .int .i64 g, .slice a n c]) W := run_build W _ _ _ (by kernel_rfl)
section
variable {w W W' : World} {E : Foot} {R D : Nat} {x : LogS} {d : Dev}
/-- The log's cells turned: the sector behind the one that is written. -/
theorem wrote_blk {W : World} {n₀ : Nat} {rv : Value} (h : LogBlk W n₀ R D x rv) (hs : x.sector < x.sectors) :
    LogBlk ((W.setCell ⟨R, 6, none⟩ (.int .i64 ((x.sector + 1 : Nat) : Int))).setCell ⟨R, 7, none⟩ (.slice none 0 0)) n₀ R D x.wrote (.slice none 0 0) := by
  refine ⟨LogS.wrote_ok h.ok hs, ?_, World.ownsRow_nil _ _ _ _, h.lo⟩
  have := blk_set (blk_set h.blk 6 (.int .i64 ((x.sector + 1 : Nat) : Int))) 7 (.slice none 0 0)
  simpa [LogS.cells, LogS.wrote] using this
theorem LogApart.right (h : LogApart w E R D x d W) : 96 ≤ d.size := by
  obtain ⟨rv, _, h2, _⟩ := h
  exact h2.here.right.2.1
set_option maxRecDepth 100000 in
set_option maxHeartbeats 4000000 in
theorem rwrite_any (h : LogApart w E R D x d W) (hon : x.On d) (hs : x.sector < x.sectors) {k : Nat} (hsm : d.Small k) (hk : k ≤ 65536) :
    Calls Try.prog 38 #[.pointer (some ⟨R, 0, none⟩)] W (LogDid w E R D x.wrote (d.logged x) (.int .i64 (x.writeE d)) W) := by
  have HSE := Lib.hid (fun W' (hb : Below W.heap.size W W') => h.same hb)
  have HSH := Lib.hid (sheet_err h.ok hs hon h.right)
  obtain ⟨rv, hL, hA, hE1, hE2, hE3⟩ := h
  have hok := hL.ok
  obtain ⟨a, c, rfl⟩ := hL.slice
  have HPL := Lib.hid (fun W' (hb : Below W.heap.size W W') => place_any (hL.below hb) x.last x.sector 0 0 (Nat.le_of_lt hs))
  have HFI := Lib.hid (fun W' (hb : Below W.heap.size W W') => filled_any (hL.below hb) _ x.row ((BytesAt.of_owns hL.row).below hb |>.mono hb.size) hok.rlt)
  have HL := Lib.hid hL
  have HA := Lib.hid hA
  have HE := Lib.hid (And.intro hE1 (And.intro hE2 hE3))
  obtain ⟨c0, c1, c2, c3, c4, c5, c6, c7⟩ := hL.cells
  have HC := Lib.hid (fun W' (hb : Below W.heap.size W W') => (hL.below hb).cells)
  have hfr := fun (W' : World) (hb : Below W.heap.size W W') (i : Nat) => blk_frozen (hL.below hb).blk i
  have HFR := Lib.hid hfr
  have hpl := (hok.place_le x.last hok.sec).2
  have hf1 := hok.tot
  have hs2 := hok.s2
  have hm1 : IntKind.i64.wrap ((x.first : Int) + (x.place x.last x.sector : Int)) = (x.spot : Int) := by
    rw [show ((x.first : Int) + (x.place x.last x.sector : Int)) = ((x.spot : Nat) : Int) by unfold LogS.spot; push_cast; rfl]
    exact IntWalk.i64_in _ (by unfold LogS.spot; omega)
  have sb : (x.sector : Int) ≤ 16384 := by have := hok.sec; omega
  have HM1 := Lib.hid hm1
  have HFL := Lib.hid (fillTo_len (n := x.room) (bs := x.row) hok.rlt)
  have HSL := Lib.hid hs
  have HL2 := Lib.hid hok.l2
  have HSM := Lib.hid (And.intro hsm hk)
  clear hL hA hE1 hE2 hE3 hok hs hpl hf1 hs2 hm1 hfr hsm hk
  go_enter Try.func38, Try.ntmps38
  go_upto_region 1 with (fail)
  have q5 := after_cell c5
  have q6 := after_cell c6
  refine wp_region_after (by kernel_rfl) (by kernel_rfl) ?_
  repeat (go_big_quiet_step ((go_at_call 54; with_reducible exact after_call (HPL.out _ (After.h _)))))
  refine wpQuiet_nil ?_
  rintro _ ⟨p1, rfl⟩
  have HB1 := Lib.hid p1.h
  generalize p1.v = W1 at HB1 ⊢
  have HFI1 := Lib.hid (HFI.out _ HB1.out)
  clear q5 q6 p1 c0 c1 c2 c3 c4 c5 c6 c7
  obtain ⟨_, _, _, _, _, _, _, c7⟩ := HC.out _ HB1.out
  go_upto_region 3 with (go_at_call 55; (with_reducible refine HFI1.out.mono ?_); rintro e W2 ⟨g, cc, rfl, hr2, hb2⟩; have HR2 := Lib.hid hr2; have HB2 := Lib.hid (HB1.out.trans (hb2.mono HB1.out.size)); have HG2 := Lib.hid (hr2.lt g rfl); have HB12 := Lib.hid hb2; clear hr2 hb2)
  obtain ⟨_, _, _, _, _, _, c6, _⟩ := HC.out _ HB2.out
  have f6 := HFR.out _ HB2.out 6
  have f7 := HFR.out _ HB2.out 7
  clear c7
  go_upto_region 4 with (fail)
  have HW3 := Lib.hid (wrote_blk (HL.out.below HB2.out) HSL.out)
  have hm3 : Moves (fun k => k = R) W2 ((W2.setCell ⟨R, 6, none⟩ (.int .i64 ((x.sector + 1 : Nat) : Int))).setCell ⟨R, 7, none⟩ (.slice none 0 0)) := ((Moves.refl (fun k => k = R) W2).setCell (p := ⟨R, 6, none⟩) (fun _ => rfl) _).setCell (p := ⟨R, 7, none⟩) (fun _ => rfl) _
  have HM3 := Lib.hid hm3
  have e6 : ((x.sector + 1 : Nat) : Int) = (x.sector : Int) + 1 := by push_cast; rfl
  rw [e6] at HW3 HM3
  clear hm3 e6 c6 f6 f7
  change (Code.region _ _ _).wp _ _ _ ((W2.setCell ⟨R, 6, none⟩ (.int .i64 ((x.sector : Int) + 1))).setCell ⟨R, 7, none⟩ (.slice none 0 0))
  generalize (W2.setCell ⟨R, 6, none⟩ (.int .i64 ((x.sector : Int) + 1))).setCell ⟨R, 7, none⟩ (.slice none 0 0) = W3 at HW3 HM3 ⊢
  have HA3 : Hid (DevApart w (LogFoot E R (.slice none 0 0)) D d W3) := by
    have h1 := (HA.out.on HB2.out).turn HM3.out (fun k hk => by subst hk; exact ⟨.inr (.inl rfl), HL.out.lo⟩)
    exact h1.less fun k hk => by
      rcases hk with h | h | h
      · exact .inl h
      · exact .inr (.inl h)
      · cases h
  have HU3 : Hid (BytesAt W3.drew.heap.size W3.drew (.slice (some ⟨g, 0, none⟩) x.room cc) (fillTo x.room x.row)) := by
    have hR : R < W1.heap.size := Nat.lt_of_lt_of_le HL.out.lt HB1.out.size
    have h1 := HM3.out.row HR2.out (fun k e hk => by
      have e : g = k := by simpa [Value.ownBlock] using e
      have := HG2.out
      omega)
    have h2 := HFL.out
    refine BytesAt.of_owns (base := W1.heap.size) ?_
    rw [h2]
    exact h1
  have HPU0 := (put_apart (HA3.out.on (Below.refl _ W3).drew) (x.spot : Int) ⟨3, x.place x.last x.sector, x.last, fillTo x.room x.row⟩ _ HU3.out (by show (x.last : Int) ≤ _; have := HL2.out; omega) HSM.out.1 HSM.out.2)
  have c0 := HW3.out.cells.1
  have c1 : W3.cell? ⟨R, 1, none⟩ = some (.int .i64 x.first) := HW3.out.cells.2.1
  have c5 : W3.cell? ⟨R, 5, none⟩ = some (.int .i64 x.last) := HW3.out.cells.2.2.2.2.2.1
  have hm1 := HM1.out
  have HRES : Hid (d.logged x = d.write (x.spot : Int) (buildB d.size 3 (x.place x.last x.sector) x.last (fillTo x.room x.row)) ∧ x.writeE d = writeErr d (x.spot : Int) (buildB d.size 3 (x.place x.last x.sector) x.last (fillTo x.room x.row)).length) := ⟨rfl, rfl⟩
  clear HU3
  have HPU : Hid (Calls Try.prog 56 #[.pointer (some ⟨D, 0, none⟩), .int .i64 (x.spot : Int), .agg #[.int .i64 3, .int .i64 (x.place x.last x.sector : Int), .int .i64 (x.last : Int), .slice (some ⟨g, 0, none⟩) x.room cc]] W3.drew fun e W' => e = .returned (.int .i64 (x.writeE d)) ∧ DevApart w (LogFoot E R (.slice none 0 0)) D (d.logged x) W' ∧ Same (LogFoot E R (.slice none 0 0)) W3.drew W') := HPU0.mono fun e W' ⟨h1, h2⟩ => by
    rcases h1 with ⟨_, he, hd⟩ | ⟨hne, _, _⟩
    · exact ⟨he, hd, h2⟩
    · exact absurd HSH.out.1 hne
  clear HPU0 HRES
  obtain ⟨d2, hd2⟩ : ∃ d2, d.logged x = d2 := ⟨_, rfl⟩
  obtain ⟨er, her⟩ : ∃ er, x.writeE d = er := ⟨_, rfl⟩
  rw [hd2, her] at HPU
  have HD2 := Lib.hid (And.intro hd2 her)
  clear hd2 her
  generalize x.place x.last x.sector = pl at *
  generalize x.spot = sp at *
  go_still_tail 17, (by kernel_rfl)
  change wpList _ _ _ _ _ W3.drew
  go_wp2_with (go_at_call 56; (with_reducible refine HPU.out.mono ?_); rintro e W4 ⟨rfl, hd4, hs4⟩; have HD4 := Lib.hid hd4; have HS4 := Lib.hid hs4; clear hd4 hs4)
  go_ret
  have hs4 := HS4.out
  rw [HD2.out.1, HD2.out.2]
  refine ⟨rfl, ⟨.slice none 0 0, HW3.out.same (hs4.2 R (.inr (.inl rfl))) (fun k e => by cases e), HD4.out, HE.out.1, (fun k e => by cases e), HE.out.2.2⟩, ?_, fun k hk => ?_⟩
  · have h1 := HB2.out.size
    have h2 := HM3.out.size
    have h3 := hs4.1
    have h4 : W3.drew.heap.size = W3.heap.size := rfl
    omega
  · refine (hs4.2 k (.inl hk)).trans ?_
    have hk2 : k < W.heap.size := by
      obtain ⟨O, _, _, _, h4⟩ := HA.out
      exact h4 k (.inl hk)
    have hk3 := HB2.out.size
    refine (HM3.out.block k (by omega) (fun e => HE.out.1 (e ▸ hk))).trans ?_
    exact (HSE.out _ HB2.out).2 k hk
end
end Go.Proofs.Ytiddfilhfdkogaa

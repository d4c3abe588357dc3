/-
  region: Flush, begin, writeIfFull.
  Conditions: none.
-/
import Derived.Test.YtiddfilhfdkogaaReg4
namespace Go.Proofs.Ytiddfilhfdkogaa
open Go.RowKit

/-- The log, its device, behind a flush. -/
def LogS.flushed (x : LogS) : LogS := if x.row = [] then x else x.wrote
def Dev.flushed (d : Dev) (x : LogS) : Dev := if x.row = [] then d else d.logged x
def LogS.flushE (x : LogS) (d : Dev) : Int := if x.row = [] then 0 else x.writeE d
section
variable {w W W' : World} {E : Foot} {R D : Nat} {x : LogS} {d : Dev}
theorem LogS.Ok.room_left (h : x.Ok) (hr : x.row ≠ []) : x.sector < x.sectors := by
  have h1 := h.sec
  have h2 := h.full
  rcases Nat.lt_or_eq_of_le h1 with h | h
  · exact h
  · exact absurd (h2 h) hr
theorem LogS.flushed_ok (h : x.Ok) : x.flushed.Ok := by
  unfold LogS.flushed
  split
  · exact h
  · next hr => exact LogS.wrote_ok h (h.room_left hr)
theorem LogS.flushed_row : x.flushed.row = [] := by
  unfold LogS.flushed
  split
  · next h => exact h
  · rfl
theorem LogS.flushed_last : x.flushed.last = x.last := by unfold LogS.flushed; split <;> rfl
set_option maxHeartbeats 2000000 in
theorem rflush_any (h : LogApart w E R D x d W) (hon : x.On d) {k : Nat} (hsm : d.Small k) (hk : k ≤ 65536) :
    Calls Try.prog 13 #[.pointer (some ⟨R, 0, none⟩)] W (LogDid w E R D x.flushed (d.flushed x) (.int .i64 (x.flushE d)) W) := by
  have HS := Lib.hid (h.same (Below.refl _ W))
  obtain ⟨rv, hL, _⟩ := id h
  obtain ⟨a, c, rfl⟩ := hL.slice
  have c7 := hL.cells.2.2.2.2.2.2.2
  by_cases hr : x.row = []
  · have e1 : x.flushed = x := by unfold LogS.flushed; rw [if_pos hr]
    have e2 : d.flushed x = d := by unfold Dev.flushed; rw [if_pos hr]
    have e3 : x.flushE d = 0 := by unfold LogS.flushE; rw [if_pos hr]
    rw [e1, e2, e3]
    rw [hr] at c7
    have HH := Lib.hid h
    clear h hL hr e1 e2 e3 hon hsm hk
    go_enter Try.func13, Try.ntmps13
    go_wp2
    go_ret
    exact ⟨rfl, HH.out, HS.out⟩
  · have e1 : x.flushed = x.wrote := by unfold LogS.flushed; rw [if_neg hr]
    have e2 : d.flushed x = d.logged x := by unfold Dev.flushed; rw [if_neg hr]
    have e3 : x.flushE d = x.writeE d := by unfold LogS.flushE; rw [if_neg hr]
    rw [e1, e2, e3]
    have HW := Lib.hid (rwrite_any h hon (hL.ok.room_left hr) hsm hk)
    have l1 : (x.row.length == 0) = false := by
      have : x.row.length ≠ 0 := fun e => hr (List.eq_nil_of_length_eq_zero e)
      simpa using this
    have l2 : ((x.row.length : Int) == 0) = false := beq_eq_false_iff_ne.2 (by
      have : x.row.length ≠ 0 := fun e => hr (List.eq_nil_of_length_eq_zero e)
      omega)
    generalize x.row.length = n at c7 l1 l2
    clear h hL hr e1 e2 e3 hon hsm hk
    go_enter Try.func13, Try.ntmps13
    go_wp2_with (go_at_call 38; (with_reducible refine HW.out.mono ?_); rintro e w1 ⟨rfl, h1, h2⟩; have H1 := Lib.hid h1; have H2 := Lib.hid h2; clear h1 h2)
    go_ret
    exact ⟨rfl, H1.out, H2.out⟩
set_option maxHeartbeats 2000000 in
theorem rfull_any (h : LogApart w E R D x d W) (hon : x.On d) (hf : x.row.length = x.room) (hr : 1 ≤ x.room) {k : Nat} (hsm : d.Small k) (hk : k ≤ 65536) :
    Calls Try.prog 37 #[.pointer (some ⟨R, 0, none⟩)] W (LogDid w E R D x.wrote (d.logged x) (.int .i64 (x.writeE d)) W) := by
  obtain ⟨rv, hL, _⟩ := id h
  obtain ⟨a, c, rfl⟩ := hL.slice
  have c7 := hL.cells.2.2.2.2.2.2.2
  have c4 := hL.cells.2.2.2.2.1
  have hne : x.row ≠ [] := fun e => by rw [e] at hf; simp at hf; omega
  have HW := Lib.hid (fun q => rwrite_any (h.on (below_drewN W q)) hon (hL.ok.room_left hne) hsm hk)
  have HSS := Lib.hid (fun q => h.same (below_drewN W q))
  rw [hf] at c7
  generalize x.room = n at c4 c7
  clear h hL hne hon hsm hk hf hr
  go_enter Try.func37, Try.ntmps37
  go_upto_region 1 with (fail)
  go_quiet (fail)
  go_wp2_with (go_at_call 38; (with_reducible refine (HW.out _).mono ?_); rintro e w1 ⟨rfl, h1, h2⟩; have H1 := Lib.hid h1; have H2 := Lib.hid h2; clear h1 h2)
  go_ret
  exact ⟨rfl, H1.out, (HSS.out _).tr H2.out⟩
set_option maxHeartbeats 2000000 in
theorem rpart_any (h : LogApart w E R D x d W) (hf : x.row.length < x.room) :
    Calls Try.prog 37 #[.pointer (some ⟨R, 0, none⟩)] W (LogDid w E R D x d (.int .i64 0) W) := by
  obtain ⟨rv, hL, _⟩ := id h
  obtain ⟨a, c, rfl⟩ := hL.slice
  have c7 := hL.cells.2.2.2.2.2.2.2
  have c4 := hL.cells.2.2.2.2.1
  have hlt : decide ((x.row.length : Int) < x.room) = true := by simp; exact hf
  have hlt2 : (x.row.length : Int) < x.room := by omega
  have HH := Lib.hid (fun q => h.on (below_drewN W q))
  have HSS := Lib.hid (fun q => h.same (below_drewN W q))
  generalize x.room = n at c4 hlt hlt2
  generalize x.row.length = m at c7 hlt hlt2
  clear h hL hf
  go_enter Try.func37, Try.ntmps37
  go_upto_region 1 with (fail)
  go_quiet (fail)
  go_wp2
  go_ret
  exact ⟨rfl, HH.out _, HSS.out _⟩
/-- The next region begun. -/
def LogS.begun (x : LogS) : LogS := { x.flushed with last := x.last + 1, sector := 0 }
theorem LogS.begun_ok (h : x.Ok) (hl : x.last < 1099511627776 * 2) : x.begun.Ok := by
  have h1 := LogS.flushed_ok h
  have e : x.flushed.first = x.first ∧ x.flushed.regions = x.regions ∧ x.flushed.sectors = x.sectors ∧ x.flushed.room = x.room := by unfold LogS.flushed; split <;> exact ⟨rfl, rfl, rfl, rfl⟩
  exact ⟨h1.r1, h1.s1, h1.m1, h1.m2, h1.tot, hl, Nat.zero_le _, h1.rlt, fun _ => LogS.flushed_row⟩
set_option maxHeartbeats 2000000 in
theorem begin_any (h : LogApart w E R D x d W) (hon : x.On d) (he : x.flushE d = 0) (hl : x.last < 1099511627776 * 2) {k : Nat} (hsm : d.Small k) (hk : k ≤ 65536) :
    Calls Try.prog 35 #[.pointer (some ⟨R, 0, none⟩)] W (LogDid w E R D x.begun (d.flushed x) (.int .i64 0) W) := by
  have HF := rflush_any h hon hsm hk
  rw [he] at HF
  have HF := Lib.hid HF
  have HB := Lib.hid (LogS.begun_ok h.ok hl)
  have HLAST : Hid (x.flushed.last = x.last) := LogS.flushed_last
  have hl2 : (x.last : Int) ≤ 2199023255552 := by omega
  clear h hon he hl hsm hk
  go_enter Try.func35, Try.ntmps35
  go_upto_region 2 with (go_at_call 13; (with_reducible refine HF.out.mono ?_); rintro e w1 ⟨rfl, h1, h2⟩; have H1 := Lib.hid h1; have H2 := Lib.hid h2; clear h1 h2)
  obtain ⟨rv, hL, hA, hE1, hE2, hE3⟩ := H1.out
  have c5 := hL.cells.2.2.2.2.2.1
  have c6 := hL.cells.2.2.2.2.2.2.1
  rw [HLAST.out] at c5
  have f5 := blk_frozen hL.blk 5
  have f6 := blk_frozen hL.blk 6
  have HM : Hid (Moves (fun k => k = R) w1 ((w1.setCell ⟨R, 5, none⟩ (.int .i64 ((x.last : Int) + 1))).setCell ⟨R, 6, none⟩ (.int .i64 0))) := ((Moves.refl (fun k => k = R) w1).setCell (p := ⟨R, 5, none⟩) (fun _ => rfl) _).setCell (p := ⟨R, 6, none⟩) (fun _ => rfl) _
  have HBK : Hid (((w1.setCell ⟨R, 5, none⟩ (.int .i64 ((x.last : Int) + 1))).setCell ⟨R, 6, none⟩ (.int .i64 0)).heap[R]? = some (.cells (x.begun.cells D rv) 71 (0, 0))) := by
    have := blk_set (blk_set hL.blk 5 (.int .i64 ((x.last : Int) + 1))) 6 (.int .i64 0)
    unfold Hid
    rw [this]
    simp [LogS.cells, LogS.begun]
  have HL := Lib.hid hL
  have HA := Lib.hid hA
  have HE := Lib.hid (And.intro hE1 (And.intro hE2 hE3))
  clear hL hA hE1 hE2 hE3
  go_wp2
  go_ret
  have hm := HM.out
  refine ⟨rfl, ⟨rv, ⟨HB.out, HBK.out, hm.row HL.out.row (fun k e => HL.out.ne e), HL.out.lo⟩, HA.out.turn hm (fun k hk => by subst hk; exact ⟨.inr (.inl rfl), HL.out.lo⟩), HE.out.1, HE.out.2.1, HE.out.2.2⟩, H2.out.tr ⟨hm.size, fun k hk => ?_⟩⟩
  have hk2 : k < w1.heap.size := by
    obtain ⟨O, _, _, _, h4⟩ := HA.out
    exact h4 k (.inl hk)
  exact hm.block k hk2 (fun e => HE.out.1 (e ▸ hk))
end
end Go.Proofs.Ytiddfilhfdkogaa

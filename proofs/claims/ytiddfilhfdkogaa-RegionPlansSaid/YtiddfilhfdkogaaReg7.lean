/-
  region: what an append does to a log and its device, step by step, as plain mathematics; a device that is up.
  Conditions: none.
-/
import Derived.Test.YtiddfilhfdkogaaReg5
namespace Go.Proofs.Ytiddfilhfdkogaa
open Go.RowKit

/-- A device that is up, and not armed. -/
structure Dev.Up (d : Dev) : Prop where
  down : d.down = false
  armed : d.armed = 0
theorem up_new (s z : Nat) : (Dev.new s z).Up := ⟨rfl, rfl⟩
theorem up_write {d : Dev} (h : d.Up) {at_ : Nat} {bs : List (BitVec 8)} (h2 : at_ < d.sectors) (h3 : bs.length = d.size) : writeErr d at_ bs.length = 0 ∧ d.write at_ bs = (d.give at_ bs).act := by
  have ha : askErr d.sectors d.down at_ = 0 := by simp [askErr, h.down]; omega
  refine ⟨?_, ?_⟩
  · unfold writeErr
    rw [if_neg (by simpa using ha), if_neg (by simpa using h3), if_neg (by rw [h.armed]; decide)]
  · unfold Dev.write
    rw [if_pos ⟨ha, h3⟩]
    rfl
theorem Dev.Up.write {d : Dev} (h : d.Up) (at_ : Int) (bs : List (BitVec 8)) : (d.write at_ bs).Up := by
  unfold Dev.write
  split
  · refine ⟨?_, ?_⟩
    · simp [Dev.act, Dev.give, h.down, h.armed]
    · simp [Dev.act, Dev.give, h.armed]
  · exact h
theorem Dev.size_write (d : Dev) (at_ : Int) (bs : List (BitVec 8)) : (d.write at_ bs).size = d.size ∧ (d.write at_ bs).sectors = d.sectors := by
  unfold Dev.write
  split <;> exact ⟨rfl, rfl⟩
theorem LogS.On.write {x y : LogS} {d : Dev} (h : x.On d) (he : y.room = x.room ∧ y.first = x.first ∧ y.regions = x.regions ∧ y.sectors = x.sectors) (at_ : Int) (bs : List (BitVec 8)) : y.On (d.write at_ bs) := by
  obtain ⟨h1, h2⟩ := d.size_write at_ bs
  obtain ⟨e1, e2, e3, e4⟩ := he
  exact ⟨by rw [h1, e1]; exact h.size, by rw [h2, e2, e3, e4]; exact h.sectors⟩
theorem LogS.On.with_ {x y : LogS} {d : Dev} (h : x.On d) (he : y.room = x.room ∧ y.first = x.first ∧ y.regions = x.regions ∧ y.sectors = x.sectors) : y.On d := by
  obtain ⟨e1, e2, e3, e4⟩ := he
  exact ⟨by rw [e1]; exact h.size, by rw [e2, e3, e4]; exact h.sectors⟩
/-- Of a device that is up a sector is written. -/
theorem logged_up {x : LogS} {d : Dev} (h : x.Ok) (hs : x.sector < x.sectors) (hon : x.On d) (hz : 96 ≤ d.size) (hup : d.Up) : x.writeE d = 0 ∧ d.logged x = (d.give x.spot (x.sheet d)).act := by
  have h1 := (sheet_err h hs hon hz).2.1
  have h2 := h.place_lt x.last hs
  have h3 := hon.sectors
  exact up_write hup (by unfold LogS.spot; omega) h1
theorem flush_up {x : LogS} {d : Dev} (h : x.Ok) (hon : x.On d) (hz : 96 ≤ d.size) (hup : d.Up) : x.flushE d = 0 := by
  unfold LogS.flushE
  split
  · rfl
  · next hr => exact (logged_up h (h.room_left hr) hon hz hup).1
/-- As much as goes into the sector under way. -/
def LogS.took (x : LogS) (b : List (BitVec 8)) : LogS := { x with row := x.row ++ b.take (x.room - x.row.length) }
theorem LogS.took_len (x : LogS) (b : List (BitVec 8)) : (x.took b).row.length = x.row.length + min (x.room - x.row.length) b.length := by simp [LogS.took]
/-- What an append comes to. -/
inductive AppTo (x0 : LogS) (d0 : Dev) (b0 : List (BitVec 8)) : LogS → Dev → List (BitVec 8) → Prop
  | start : AppTo x0 d0 b0 x0 d0 b0
  | part {x : LogS} {d : Dev} {b : List (BitVec 8)} : AppTo x0 d0 b0 x d b → b ≠ [] → (x.took b).row.length < x.room → AppTo x0 d0 b0 (x.took b) d (b.drop (x.room - x.row.length))
  | full {x : LogS} {d : Dev} {b : List (BitVec 8)} : AppTo x0 d0 b0 x d b → b ≠ [] → (x.took b).row.length = x.room → AppTo x0 d0 b0 (x.took b).wrote (d.logged (x.took b)) (b.drop (x.room - x.row.length))
/-- What holds all the while. -/
structure AppInv (x0 : LogS) (k fin : Nat) (x : LogS) (d : Dev) (b : List (BitVec 8)) : Prop where
  ok : x.Ok
  on : x.On d
  up : d.Up
  sz : 96 ≤ d.size
  lt : x.row.length < x.room
  fit : x.pos + b.length = fin
  end_ : fin ≤ x.rr
  small : ∃ j, d.Small j ∧ j + b.length ≤ k
  same : x.room = x0.room ∧ x.first = x0.first ∧ x.regions = x0.regions ∧ x.sectors = x0.sectors ∧ x.last = x0.last
theorem LogS.pos_div {x : LogS} (h : x.row.length < x.room) : x.pos / x.room = x.sector ∧ x.pos % x.room = x.row.length := by
  unfold LogS.pos
  have hr : 0 < x.room := by omega
  refine ⟨?_, ?_⟩
  · rw [Nat.mul_comm, Nat.mul_add_div hr, Nat.div_eq_of_lt h, Nat.add_zero]
  · rw [Nat.mul_comm, Nat.mul_add_mod, Nat.mod_eq_of_lt h]
section
variable {x0 : LogS} {k fin : Nat} {x : LogS} {d : Dev} {b : List (BitVec 8)}
/-- There is room in the sector. -/
theorem AppInv.sec_lt (h : AppInv x0 k fin x d b) (hb : b ≠ []) : x.sector < x.sectors := by
  have hl : 1 ≤ b.length := by
    cases b with
    | nil => exact absurd rfl hb
    | cons _ _ => simp
  rcases Nat.lt_or_eq_of_le h.ok.sec with h1 | h1
  · exact h1
  · have h2 := h.ok.full h1
    have h3 := h.fit
    have h4 := h.end_
    unfold LogS.pos at h3
    rw [h2, h1] at h3
    unfold LogS.rr at h4
    simp at h3
    omega
theorem AppInv.took_ok (h : AppInv x0 k fin x d b) (hb : b ≠ []) : (x.took b).Ok := by
  have h1 := h.sec_lt hb
  have h2 := x.took_len b
  have h3 := h.lt
  exact ⟨h.ok.r1, h.ok.s1, h.ok.m1, h.ok.m2, h.ok.tot, h.ok.l2, h.ok.sec, by rw [h2]; show _ ≤ x.room; omega, fun e => absurd e (by show ¬ x.sector = x.sectors; omega)⟩
theorem AppInv.part (h : AppInv x0 k fin x d b) (hb : b ≠ []) (hl : (x.took b).row.length < x.room) : AppInv x0 k fin (x.took b) d (b.drop (x.room - x.row.length)) := by
  have h2 := x.took_len b
  have h3 := h.lt
  have h4 := h.fit
  obtain ⟨j, s1, s2⟩ := h.small
  refine ⟨h.took_ok hb, h.on.with_ ⟨rfl, rfl, rfl, rfl⟩, h.up, h.sz, hl, ?_, h.end_, ⟨j, s1, by rw [List.length_drop]; omega⟩, h.same⟩
  rw [List.length_drop]
  unfold LogS.pos at *
  show x.sector * x.room + (x.took b).row.length + _ = fin
  omega
theorem AppInv.full (h : AppInv x0 k fin x d b) (hb : b ≠ []) (hl : (x.took b).row.length = x.room) : AppInv x0 k fin (x.took b).wrote (d.logged (x.took b)) (b.drop (x.room - x.row.length)) ∧ (x.took b).writeE d = 0 := by
  have h1 := h.sec_lt hb
  have h2 := x.took_len b
  have h3 := h.lt
  have h4 := h.fit
  have hok := h.took_ok hb
  have hon : (x.took b).On d := h.on.with_ ⟨rfl, rfl, rfl, rfl⟩
  obtain ⟨e1, e2⟩ := logged_up hok (show (x.took b).sector < (x.took b).sectors from h1) hon h.sz h.up
  obtain ⟨j, s1, s2⟩ := h.small
  have hbl : 1 ≤ b.length := by
    cases b with
    | nil => exact absurd rfl hb
    | cons _ _ => simp
  refine ⟨⟨LogS.wrote_ok hok h1, LogS.On.write (y := (x.took b).wrote) hon ⟨rfl, rfl, rfl, rfl⟩ _ _, h.up.write _ _, ?_, ?_, ?_, h.end_, ⟨j + 1, s1.write _ _, by rw [List.length_drop]; omega⟩, h.same⟩, e1⟩
  · show 96 ≤ (d.write _ _).size
    rw [(d.size_write _ _).1]; exact h.sz
  · show 0 < x.room; omega
  · rw [List.length_drop]
    unfold LogS.pos at *
    show (x.sector + 1) * x.room + 0 + _ = fin
    rw [Nat.add_mul, Nat.one_mul]
    omega
theorem AppInv.of_to (h0 : AppInv x0 k fin x d b) {x' : LogS} {d' : Dev} {b' : List (BitVec 8)} (ht : AppTo x d b x' d' b') : AppInv x0 k fin x' d' b' := by
  induction ht with
  | start => exact h0
  | part _ hb hl ih => exact ih.part hb hl
  | full _ hb hl ih => exact (ih.full hb hl).1
end
end Go.Proofs.Ytiddfilhfdkogaa

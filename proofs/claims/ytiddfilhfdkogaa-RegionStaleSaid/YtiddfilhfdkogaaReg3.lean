/-
  region: filled; a log on a device, beside other new memory; write.
  Conditions: none.
-/
import Derived.Test.YtiddfilhfdkogaaReg2
import Derived.Test.YtiddfilhfdkogaaCopyB
import Derived.Test.YtiddfilhfdkogaaJL2
import Derived.StillTailTactics
namespace Go.Proofs.Ytiddfilhfdkogaa
open Go.RowKit

/-- Bytes with 0 behind, n in all. -/
def fillTo (n : Nat) (bs : List (BitVec 8)) : List (BitVec 8) := bs ++ zeros (n - bs.length)
theorem fillTo_len {n : Nat} {bs : List (BitVec 8)} (h : bs.length ≤ n) : (fillTo n bs).length = n := by
  unfold fillTo
  rw [List.length_append, zeros_len]; omega
theorem zeros_drop (n k : Nat) : (zeros n).drop k = zeros (n - k) := by simp [zeros]
section
variable {W : World} {n₀ R D : Nat} {x : LogS} {rv : Value}
/-- What filled leaves. -/
def FilledAt (n : Nat) (bs : List (BitVec 8)) (W : World) (e : Ending) (w' : World) : Prop := ∃ g c, e = .returned (.slice (some ⟨g, 0, none⟩) n c) ∧ w'.ownsRow W.heap.size 5 1 (.slice (some ⟨g, 0, none⟩) n c) n (cellsOf (fillTo n bs)) ∧ Below W.heap.size W w'
set_option maxHeartbeats 1000000 in
theorem filled_any (h : LogBlk W n₀ R D x rv) (u : Value) (bs : List (BitVec 8)) (hu : BytesAt W.heap.size W u bs) (hl : bs.length ≤ x.room) : Calls Try.prog 55 #[.pointer (some ⟨R, 0, none⟩), u] W (FilledAt x.room bs W) := by
  obtain ⟨c0, c1, c2, c3, c4, c5, c6, c7⟩ := h.cells
  have hr := h.ok.m2
  have hmk := makeBytes x.room (by omega) W
  have hz := own_zeros W W.heap.size x.room (Nat.le_refl _) (by omega)
  have hb1 : Below W.heap.size W (W.alloc (.cells (madeCells #[.int .u8 0] x.room) 5)) := (Below.refl _ W).alloc (Nat.le_refl _) _
  obtain ⟨a, c, rfl, _⟩ := id hu
  have HU := Lib.hid (hu.below hb1)
  obtain ⟨W1, hW1⟩ : ∃ W1, W.alloc (.cells (madeCells #[.int .u8 0] x.room) 5) = W1 := ⟨_, rfl⟩
  rw [hW1] at hmk hz hb1 HU
  have r0 : (1 : Int) ≤ x.room := by have := h.ok.m1; omega
  have HZ := Lib.hid hz
  have HB1 := Lib.hid hb1
  have HL := Lib.hid hl
  have HF : Hid (∀ n, bs ++ List.drop n (zeros x.room) = bs ++ zeros (x.room - n)) := fun n => by rw [zeros_drop]
  clear h hu hl hz hb1 hW1 hr
  generalize x.room = n at *
  go_enter Try.func55, Try.ntmps55
  go_upto_region 2 with (fail)
  clear hmk c0 c1 c2 c3 c4 c5 c6 c7 r0
  go_wp2_with (refine wpList_copy_bytes (o := ⟨some 13, _, _, _, _, _⟩) rfl (.tmp 11) (.tmp 12) rfl rfl HZ.out rfl HU.out HL.out ?_; intro w3 hr3 hm3; have HR3 := Lib.hid hr3; have HB3 := Lib.hid (HB1.out.trans (hm3.below (B := W.heap.size) (fun i e => by omega) HB1.out.size)); clear hr3 hm3)
  go_ret
  refine ⟨_, _, rfl, ?_, HB3.out⟩
  have := HR3.out
  rw [HF.out] at this
  exact this
end

section
variable {w W W' : World} {Q Q' : Foot} {D : Nat} {d : Dev}
/-- What is beside the device turns. -/
theorem DevApart.turn {S : Nat → Prop} (h : DevApart w Q D d W) (hm : Moves S W W') (hS : ∀ k, S k → Q k ∧ w.heap.size ≤ k) : DevApart w Q D d W' := by
  obtain ⟨O, h1, h2, h3, h4⟩ := h
  exact ⟨O, h1.keep ⟨hm.size, fun k hk => hm.block k (h1.inn k hk) (fun hs => h3 k hk (hS k hs).1)⟩, h2.trans (hm.below (fun i hi => (hS i hi).2) h2.size), h3, fun k hk => Nat.lt_of_lt_of_le (h4 k hk) hm.size⟩
theorem DevApart.less (h : DevApart w Q D d W) (hQ : ∀ k, Q' k → Q k) : DevApart w Q' D d W := by
  obtain ⟨O, h1, h2, h3, h4⟩ := h
  exact ⟨O, h1, h2, fun k ho hq => h3 k ho (hQ k hq), fun k hk => h4 k (hQ k hk)⟩
theorem DevApart.more (h : DevApart w Q D d W) (hb : Below W.heap.size W W') (hQ : ∀ k, Q' k → Q k ∨ W.heap.size ≤ k) (hi : Foot.In Q' W') : DevApart w Q' D d W' := by
  obtain ⟨O, h1, h2, h3, h4⟩ := h
  exact ⟨O, h1.keep (Same.of_below hb h1.inn), h2.trans (hb.mono h2.size), fun k ho hq => by
    rcases hQ k hq with h | h
    · exact h3 k ho h
    · have := h1.inn k ho; omega, hi⟩
end

/-- The blocks of a log, and others. -/
def LogFoot (E : Foot) (R : Nat) (rv : Value) : Foot := fun k => E k ∨ k = R ∨ rv.ownBlock = some k
/-- A log on a device, both made since w, beside the blocks E. -/
def LogApart (w : World) (E : Foot) (R D : Nat) (x : LogS) (d : Dev) (W : World) : Prop :=
  ∃ rv, LogBlk W w.heap.size R D x rv ∧ DevApart w (LogFoot E R rv) D d W ∧ ¬ E R ∧ (∀ k, rv.ownBlock = some k → ¬ E k) ∧ (∀ k, E k → w.heap.size ≤ k)
/-- A log's device is as its plan has it. -/
structure LogS.On (x : LogS) (d : Dev) : Prop where
  size : d.size = x.room + 19
  sectors : x.first + x.regions * x.sectors ≤ d.sectors
/-- What a call on a log leaves. -/
def LogDid (w : World) (E : Foot) (R D : Nat) (x : LogS) (d : Dev) (r : Value) (W : World) (e : Ending) (W' : World) : Prop := e = .returned r ∧ LogApart w E R D x d W' ∧ Same E W W'
section
variable {w W W' : World} {E : Foot} {R D : Nat} {x : LogS} {d : Dev}
theorem LogApart.on (h : LogApart w E R D x d W) (hb : Below W.heap.size W W') : LogApart w E R D x d W' := by
  obtain ⟨rv, h1, h2, h3⟩ := h
  exact ⟨rv, h1.below hb, h2.on hb, h3⟩
theorem LogApart.ok (h : LogApart w E R D x d W) : x.Ok := by obtain ⟨rv, h1, _⟩ := h; exact h1.ok
theorem LogApart.inE (h : LogApart w E R D x d W) : Foot.In E W := by
  obtain ⟨rv, _, ⟨O, _, _, _, h4⟩, _⟩ := h
  exact fun k hk => h4 k (.inl hk)
theorem LogApart.same (h : LogApart w E R D x d W) (hb : Below W.heap.size W W') : Same E W W' := Same.of_below hb h.inE
theorem LogApart.size (h : LogApart w E R D x d W) : w.heap.size ≤ W.heap.size := by
  obtain ⟨rv, _, ⟨O, _, h2, _⟩, _⟩ := h
  exact h2.size
theorem LogApart.since (h : LogApart w E R D x d W) : Below w.heap.size w W := by
  obtain ⟨rv, _, ⟨O, _, h2, _⟩, _⟩ := h
  exact h2
/-- What is written of the sector under way; the log, the device behind it. -/
def LogS.sheet (x : LogS) (d : Dev) : List (BitVec 8) := buildB d.size 3 (x.place x.last x.sector) x.last (fillTo x.room x.row)
def LogS.wrote (x : LogS) : LogS := { x with sector := x.sector + 1, row := [] }
def LogS.spot (x : LogS) : Nat := x.first + x.place x.last x.sector
def Dev.logged (d : Dev) (x : LogS) : Dev := d.write x.spot (x.sheet d)
def LogS.writeE (x : LogS) (d : Dev) : Int := writeErr d x.spot (x.sheet d).length
theorem LogS.wrote_ok (h : x.Ok) (hs : x.sector < x.sectors) : x.wrote.Ok :=
  ⟨h.r1, h.s1, h.m1, h.m2, h.tot, h.l2, hs, Nat.zero_le _, fun _ => rfl⟩
theorem sheet_err (h : x.Ok) (hs : x.sector < x.sectors) (hon : x.On d) (hz : 96 ≤ d.size) : buildErr d.size 3 (x.place x.last x.sector) x.last (fillTo x.room x.row).length = 0 ∧ ((x.sheet d).length = d.size ∧ x.sheet d = leafB d.size 3 (x.place x.last x.sector) x.last (fillTo x.room x.row)) := by
  have h1 := h.place_lt x.last hs
  have h2 := fillTo_len (n := x.room) (bs := x.row) h.rlt
  have h3 := hon.size
  have h4 := h.m2
  have h5 := h.l2
  have h6 := h.tot
  have e : buildErr d.size 3 (x.place x.last x.sector) x.last (fillTo x.room x.row).length = 0 := by
    unfold buildErr
    rw [h2]
    have hs : sizeB (d.size : Int) = true := by simp [sizeB]; omega
    rw [if_pos hs, if_pos ⟨by decide, by omega, by omega, by omega⟩, if_neg (by omega)]
  have e2 : x.sheet d = leafB d.size 3 (x.place x.last x.sector) x.last (fillTo x.room x.row) := by unfold LogS.sheet buildB; rw [if_pos e]
  refine ⟨e, ?_, e2⟩
  have := (read_built e (by omega)).2.2
  rw [e2]
  exact_mod_cast this
end
end Go.Proofs.Ytiddfilhfdkogaa

/-
  A writer, a reader that were made behind a world: what their calls leave, as long as there is room.
  Conditions: none.
-/
import Derived.Test.YtgaabclgoolalaaWire6
namespace Go.Proofs.Ytgaabclgoolalaa
open Go.RowKit

theorem base_own {w : World} {b b' : Nat} {e : TypeId} {size n : Nat} {v : Value} {xs : List Value} (h : w.ownsRow b e size v n xs) (hb : b' ≤ b) : w.ownsRow b' e size v n xs := by
  obtain ⟨h1, h2⟩ := h
  refine ⟨h1, ?_⟩
  rcases h2 with h2 | ⟨g, cap, cur, hv, hg, r⟩
  · exact .inl h2
  · exact .inr ⟨g, cap, cur, hv, Nat.le_trans hb hg, r⟩

/-- A writer that was made at w lies ahead, with these bytes, not full; nothing that was there has turned. -/
def WrAt (w : World) (row : List (BitVec 8)) (limit : Int) (W : World) : Prop := ∃ v, WriterAt w.heap.size W w.heap.size v row limit false ∧ Below w.heap.size w W ∧ row.length ≤ limit
theorem WrAt.new (w : World) (limit : Int) (h : 0 ≤ limit) : WrAt w [] limit (w.alloc (.cells #[.slice none 0 0, .int .i64 limit, .bool false] 81)) :=
  ⟨.slice none 0 0, ⟨heap_alloc_new _ _, World.ownsRow_nil _ _ _ _⟩, (Below.refl _ _).alloc (Nat.le_refl _) _, by simpa using h⟩
theorem WrAt.behind {w W W' : World} {row : List (BitVec 8)} {limit : Int} (h : WrAt w row limit W) (hb : Below W.heap.size W W') : WrAt w row limit W' := by
  obtain ⟨v, h1, h2, h3⟩ := h
  exact ⟨v, h1.below hb, h2.trans (hb.mono h2.size), h3⟩
theorem WrAt.drewN {w W : World} {row : List (BitVec 8)} {limit : Int} (h : WrAt w row limit W) (k : Nat) : WrAt w row limit (W.drewN k) := by
  obtain ⟨v, h1, h2, h3⟩ := h
  exact ⟨v, h1.drewN k, ⟨h2.os, h2.tape, h2.output, h2.size, h2.block⟩, h3⟩
theorem WrAt.wrote {w W W' : World} {v v' : Value} {row row' : List (BitVec 8)} {limit : Int} (h : WriterAt w.heap.size W w.heap.size v row limit false) (hb : Below w.heap.size w W) (h' : WriterAt w.heap.size W' w.heap.size v' row' limit false) (hs : WStep w.heap.size v v' W W') (hl : row'.length ≤ limit) : WrAt w row' limit W' :=
  ⟨v', h', hb.trans (hs.moves.below (fun i hi => by
    rcases hi with rfl | hi
    · exact Nat.le_refl _
    · exact (h.own.lt i hi).1) hb.size), hl⟩
/-- What a call of a writer with room leaves. -/
def Wrt (w : World) (row : List (BitVec 8)) (limit : Int) (e : Ending) (W : World) : Prop := e = .returned (.tuple #[]) ∧ WrAt w row limit W
theorem WrAt.put {w W W' : World} {v : Value} {row bs : List (BitVec 8)} {limit : Int} {e : Ending} (h : WriterAt w.heap.size W w.heap.size v row limit false) (hb : Below w.heap.size w W) (hl : (row ++ bs).length ≤ limit) (hw : Wrote w.heap.size w.heap.size v row limit false (some bs) W e W') : Wrt w (row ++ bs) limit e W' := by
  obtain ⟨he, v', h1, h2⟩ := hw
  have hl' := hl
  rw [List.length_append] at hl
  have e2 : wRow row limit false (some bs) = row ++ bs := by
    show (if false = true ∨ limit < row.length + bs.length then row else row ++ bs) = _
    rw [if_neg (by simp; omega)]
  have e3 : wFull row limit false (some bs) = false := by
    show (false || decide (limit < row.length + bs.length)) = _
    rw [Bool.false_or, decide_eq_false_iff_not]; omega
  rw [e2, e3] at h1
  exact ⟨he, WrAt.wrote h hb h1 h2 hl'⟩
theorem WrAt.num {w W : World} {row : List (BitVec 8)} {limit : Int} (h : WrAt w row limit W) (x : BitVec 64) (k : Nat) (hk : mayB k = true) (hl : (row.length : Int) + k ≤ limit) (hL : limit ≤ 549755813888) :
    Calls Try.prog 26 #[.pointer (some ⟨w.heap.size, 0, none⟩), .int .u64 (U x), .int .i64 k] W (Wrt w (row ++ leB k x) limit) := by
  obtain ⟨v, h1, h2, h3⟩ := h
  refine (number_any w.heap.size w.heap.size v row limit false x k W h1 (by omega) (by omega) (by omega) h2.size).mono ?_
  intro e w' hw
  have e1 : numB x k = some (leB k x) := by unfold numB; rw [if_pos hk]; rfl
  rw [e1] at hw
  exact WrAt.put h1 h2 (by rw [List.length_append, leB_len]; omega) hw
/-- The bytes of a number, the lowest first. -/
def leI (k i : Int) : List (BitVec 8) := leB k.toNat (BitVec.ofInt 64 i)
theorem leI_len (k i : Int) : (leI k i).length = k.toNat := leB_len _ _
theorem WrAt.numI {w W : World} {row : List (BitVec 8)} {limit : Int} (h : WrAt w row limit W) (i k : Int) (h0 : 0 ≤ i) (h1 : i < 18446744073709551616) (hk : mayB k = true) (hl : (row.length : Int) + k ≤ limit) (hL : limit ≤ 549755813888) :
    Calls Try.prog 26 #[.pointer (some ⟨w.heap.size, 0, none⟩), .int .u64 i, .int .i64 k] W (Wrt w (row ++ leI k i) limit) := by
  have hk0 : 0 ≤ k := by
    have : k = 1 ∨ k = 2 ∨ k = 4 ∨ k = 8 := by simpa [mayB] using hk
    omega
  obtain ⟨n, rfl⟩ := Int.eq_ofNat_of_zero_le hk0
  obtain ⟨x, rfl⟩ : ∃ x : BitVec 64, i = U x := U_mk h0 h1
  have := h.num x n hk hl hL
  unfold leI
  rw [ofInt_U]
  exact this
/-- What Bytes leaves: the bytes, in a block of their own. -/
def WBy (w : World) (row : List (BitVec 8)) (limit : Int) (W : World) (e : Ending) (W' : World) : Prop := ∃ u, e = .returned u ∧ W'.ownsRow W.heap.size 5 1 u row.length (cellsOf row) ∧ Below W.heap.size W W' ∧ WrAt w row limit W'
theorem WrAt.take {w W : World} {row : List (BitVec 8)} {limit : Int} (h : WrAt w row limit W) (hL : limit ≤ 549755813888) :
    Calls Try.prog 29 #[.pointer (some ⟨w.heap.size, 0, none⟩)] W (WBy w row limit W) := by
  have h0 := h
  obtain ⟨v, h1, h2, h3⟩ := h
  refine (bytes_any _ _ _ _ _ _ _ h1 (by omega)).mono ?_
  rintro e w' ⟨u, he, hu, hb⟩
  exact ⟨u, he, hu, hb, h0.behind hb⟩
theorem WrAt.size {w W : World} {row : List (BitVec 8)} {limit : Int} (h : WrAt w row limit W) : Below w.heap.size w W := by obtain ⟨_, _, h, _⟩ := h; exact h

/-- A reader that was made behind w: what is left, whether it is bad; nothing that was there has turned. -/
def RdAt (w : World) (R : Nat) (left : List (BitVec 8)) (bad : Bool) (W : World) : Prop := ∃ v, ReaderAt W R v left bad ∧ Below w.heap.size w W ∧ w.heap.size ≤ R
theorem RdAt.behind {w W W' : World} {R : Nat} {left : List (BitVec 8)} {bad : Bool} (h : RdAt w R left bad W) (hb : Below W.heap.size W W') : RdAt w R left bad W' := by
  obtain ⟨v, h1, h2, h3⟩ := h
  exact ⟨v, h1.below hb, h2.trans (hb.mono h2.size), h3⟩
theorem RdAt.size {w W : World} {R : Nat} {left : List (BitVec 8)} {bad : Bool} (h : RdAt w R left bad W) : Below w.heap.size w W := by obtain ⟨_, _, h, _⟩ := h; exact h
/-- What a new reader is. -/
def NewRd (w : World) (bs : List (BitVec 8)) (e : Ending) (W : World) : Prop := ∃ R, e = .returned (.pointer (some ⟨R, 0, none⟩)) ∧ RdAt w R bs false W
theorem newRd_any (u : Value) (bs : List (BitVec 8)) (w : World) (hu : BytesAt w.heap.size w u bs) (hl : bs.length ≤ 1099511627776) : Calls Try.prog 13 #[u] w (NewRd w bs) :=
  (newReader_any u bs w hu hl).mono fun _ _ ⟨R, v, he, hR, hr, hb, _⟩ => ⟨R, he, v, hr, hb, hR⟩
theorem ReaderAt.keeps {R : Nat} {W W' : World} {v : Value} {left : List (BitVec 8)} {bad : Bool} (hr : ReaderAt W R v left bad) (hm : Moves (rS R) W W') {n : Nat} {u : Value} {bs : List (BitVec 8)} (hu : BytesAt n W u bs) (hn : n ≤ W.heap.size) : BytesAt n W' u bs := by
  refine hm.bytes hu hn fun hne k hk hR => ?_
  obtain rfl : k = R := hR
  obtain ⟨a, cap, rfl, _⟩ := hr.bytes
  obtain ⟨a', cap', rfl, hl, h0, h⟩ := hu
  rcases h with h | ⟨g, off, rfl, hg, hc⟩
  · exact hne h
  · obtain rfl : g = k := by simpa [Value.ownBlock] using hk
    have h1 := hc 0 (by cases bs with
      | nil => exact absurd rfl hne
      | cons b bs => simp)
    rw [blk_cell hr.blk] at h1
    match hm : off + 0 with
    | 0 => rw [hm] at h1; simp at h1
    | 1 => rw [hm] at h1; simp at h1
    | k + 2 => rw [hm] at h1; simp at h1
/-- All bytes that were there are there still. -/
def Keeps (W W' : World) : Prop := ∀ n u bs, BytesAt n W u bs → n ≤ W.heap.size → BytesAt n W' u bs
theorem Keeps.of_below {W W' : World} (hb : Below W.heap.size W W') : Keeps W W' := fun _ _ _ h hn => h.below (hb.mono hn)
/-- What is read, left, bad behind k bytes were asked for. -/
def rdN (left : List (BitVec 8)) (k : Int) : BitVec 64 := leOf (takenB left (tookN left (mayB k) k))
def rdL (left : List (BitVec 8)) (k : Int) : List (BitVec 8) := leftB left (tookN left (mayB k) k)
def rdB (left : List (BitVec 8)) (bad : Bool) (k : Int) : Bool := badB bad (tookN left (mayB k) k)
def Rdn (w : World) (R : Nat) (x : BitVec 64) (left : List (BitVec 8)) (bad : Bool) (W : World) (e : Ending) (W' : World) : Prop := e = .returned (.int .u64 (U x)) ∧ RdAt w R left bad W' ∧ Keeps W W'
theorem RdAt.num {w W : World} {R : Nat} {left : List (BitVec 8)} {bad : Bool} (h : RdAt w R left bad W) (k : Int) (hl : left.length ≤ 1099511627776) :
    Calls Try.prog 14 #[.pointer (some ⟨R, 0, none⟩), .int .i64 k] W (Rdn w R (rdN left k) (rdL left k) (rdB left bad k) W) := by
  obtain ⟨v, h1, h2, h3⟩ := h
  refine (rnumber_any R v left bad k W h1 hl).mono ?_
  rintro e w' ⟨he, v', h4, h5⟩
  exact ⟨he, ⟨v', h4, h2.trans (h5.below (fun i hi => by rw [show i = R from hi]; exact h3) h2.size), h3⟩, fun n u bs hu hn => h1.keeps h5 hu hn⟩
def Rdw (w : World) (R : Nat) (bs left : List (BitVec 8)) (bad : Bool) (W : World) (e : Ending) (W' : World) : Prop := ∃ u, e = .returned u ∧ BytesAt W'.heap.size W' u bs ∧ RdAt w R left bad W' ∧ Keeps W W'
theorem RdAt.raw {w W : World} {R : Nat} {left : List (BitVec 8)} {bad : Bool} (h : RdAt w R left bad W) (n : Int) (hl : left.length ≤ 1099511627776) :
    Calls Try.prog 44 #[.pointer (some ⟨R, 0, none⟩), .int .i64 n] W (Rdw w R (takenB left (tookN left true n)) (leftB left (tookN left true n)) (badB bad (tookN left true n)) W) := by
  obtain ⟨v, h1, h2, h3⟩ := h
  refine (rraw_any R v left bad n W h1 hl).mono ?_
  rintro e w' ⟨u, he, hu, v', h4, h5⟩
  exact ⟨u, he, hu, ⟨v', h4, h2.trans (h5.below (fun i hi => by rw [show i = R from hi]; exact h3) h2.size), h3⟩, fun n u bs hu hn => h1.keeps h5 hu hn⟩
end Go.Proofs.Ytgaabclgoolalaa

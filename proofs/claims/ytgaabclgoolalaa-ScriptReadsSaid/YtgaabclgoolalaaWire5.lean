/-
  What a reader's take does.
  Conditions: none.
-/
import Derived.Test.YtgaabclgoolalaaWire4
namespace Go.Proofs.Ytgaabclgoolalaa
open Go.RowKit

/-- A reader lies in block R: what is left, whether it is bad. -/
structure ReaderAt (w : World) (R : Nat) (v : Value) (left : List (BitVec 8)) (bad : Bool) : Prop where
  blk : w.heap[R]? = some (.cells #[v, .bool bad] 74 (0, 0))
  bytes : BytesAt w.heap.size w v left
/-- What a reader's calls may write. -/
def rS (R : Nat) : Nat → Prop := fun k => k = R

theorem BytesAt.beside {n₀ R i : Nat} {w : World} {u x : Value} {bs : List (BitVec 8)} {a : Option Addr} {l c : Nat} {b : Bool} {t : TypeId} (h : BytesAt n₀ w u bs) (hR : w.heap[R]? = some (.cells #[.slice a l c, .bool b] t (0, 0))) : BytesAt n₀ (w.setCell ⟨R, i, none⟩ x) u bs := by
  obtain ⟨a', cap, rfl, hl, h0, h⟩ := h
  refine ⟨a', cap, rfl, hl, h0, ?_⟩
  rcases h with h | ⟨g, off, rfl, hg, hc⟩
  · exact .inl h
  · refine .inr ⟨g, off, rfl, hg, fun j hj => ?_⟩
    have hne : g ≠ R := by
      rintro rfl
      have h1 := hc j hj
      rw [blk_cell hR] at h1
      match hm : off + j with
      | 0 => rw [hm] at h1; simp at h1
      | 1 => rw [hm] at h1; simp at h1
      | k + 2 => rw [hm] at h1; simp at h1
    exact (World.cell?_of_block (Below.heap_setCell w ⟨R, i, none⟩ x g hne)).trans (hc j hj)

/-- What is taken, what is left, whether the reader is bad ('none': it may not be asked for). -/
def takenB (left : List (BitVec 8)) (n : Option Nat) : List (BitVec 8) := match n with | none => [] | some k => left.take k
def leftB (left : List (BitVec 8)) (n : Option Nat) : List (BitVec 8) := match n with | none => [] | some k => left.drop k
def badB (bad : Bool) (n : Option Nat) : Bool := match n with | none => true | some _ => bad
/-- What take leaves: what was taken, what is left. -/
def Took (R : Nat) (left : List (BitVec 8)) (bad : Bool) (n : Option Nat) (w : World) (e : Ending) (w' : World) : Prop :=
  ∃ u v', e = .returned u ∧ Moves (rS R) w w' ∧ w'.heap.size = w.heap.size ∧
    BytesAt w'.heap.size w' u (takenB left n) ∧ ReaderAt w' R v' (leftB left n) (badB bad n)

theorem took_no {R : Nat} {w : World} {a : Option Addr} {l c : Nat} {left : List (BitVec 8)} {bad : Bool} (h : w.heap[R]? = some (.cells #[.slice a l c, .bool bad] 74 (0, 0)))  :
    Took R left bad none w (.returned (.slice none 0 0)) ((w.setCell ⟨R, 0, none⟩ (.slice none 0 0)).setCell ⟨R, 1, none⟩ (.bool true)) := by
  refine ⟨_, .slice none 0 0, rfl, ((Moves.refl (rS R) w).setCell (p := ⟨R, 0, none⟩) (fun _ => (rfl : R = R)) _).setCell (p := ⟨R, 1, none⟩) (fun _ => (rfl : R = R)) _, by simp [World.setCell], BytesAt.nil _ _, ⟨?_, BytesAt.nil _ _⟩⟩
  exact blk_set (blk_set h 0 _) 1 _

set_option maxHeartbeats 1000000 in
theorem take_wrong (R : Nat) (v : Value) (left : List (BitVec 8)) (bad : Bool) (n : Int) (w : World) (hr : ReaderAt w R v left bad) :
    Calls Try.prog 31 #[.pointer (some ⟨R, 0, none⟩), .bool false, .int .i64 n] w (Took R left bad none w) := by
  obtain ⟨hblk, a, cap, rfl, _⟩ := hr
  have c0 : w.cell? ⟨R, 0, none⟩ = some (.slice a left.length cap) := blk_cell hblk 0
  have c1 : w.cell? ⟨R, 1, none⟩ = some (.bool bad) := blk_cell hblk 1
  have f0 : w.frozen? ⟨R, 0, none⟩ = false := blk_frozen hblk 0
  have f1 : w.frozen? ⟨R, 1, none⟩ = false := blk_frozen hblk 1
  have HF := Lib.hid (took_no (left := left) (bad := bad) hblk)
  clear hblk
  go_enter Try.func31, Try.ntmps31
  go_wp2
  go_ret
  exact HF.out

set_option maxHeartbeats 1000000 in
theorem take_much (R : Nat) (v : Value) (left : List (BitVec 8)) (bad : Bool) (n : Int) (w : World) (hr : ReaderAt w R v left bad) (hn : left.length < n) :
    Calls Try.prog 31 #[.pointer (some ⟨R, 0, none⟩), .bool true, .int .i64 n] w (Took R left bad none w) := by
  obtain ⟨hblk, a, cap, rfl, _⟩ := hr
  have c0 : w.cell? ⟨R, 0, none⟩ = some (.slice a left.length cap) := blk_cell hblk 0
  have c1 : w.cell? ⟨R, 1, none⟩ = some (.bool bad) := blk_cell hblk 1
  have f0 : w.frozen? ⟨R, 0, none⟩ = false := blk_frozen hblk 0
  have f1 : w.frozen? ⟨R, 1, none⟩ = false := blk_frozen hblk 1
  have HF := Lib.hid (took_no (left := left) (bad := bad) hblk)
  have d : decide ((left.length : Int) < n) = true := by simp; omega
  clear hblk
  go_enter Try.func31, Try.ntmps31
  go_wp2
  go_ret
  exact HF.out

theorem take_nil (right : Bool) (n : Int) (w : World) :
    Calls Try.prog 31 #[.pointer none, .bool right, .int .i64 n] w fun e w' => e = .returned (.slice none 0 0) ∧ w = w' := by
  go_enter Try.func31, Try.ntmps31
  go_wp2
  go_ret
  exact ⟨rfl, rfl⟩

theorem took_yes {R n : Nat} {w : World} {a : Option Addr} {l c : Nat} {left : List (BitVec 8)} {bad : Bool} (h : w.heap[R]? = some (.cells #[.slice a l c, .bool bad] 74 (0, 0))) {u v' : Value} (hu : BytesAt w.heap.size w u (left.take n)) (hv : BytesAt w.heap.size w v' (left.drop n)) :
    Took R left bad (some n) w (.returned u) (w.setCell ⟨R, 0, none⟩ v') := by
  refine ⟨u, v', rfl, (Moves.refl (rS R) w).setCell (p := ⟨R, 0, none⟩) (fun _ => (rfl : R = R)) _, by simp [World.setCell], ?_, ⟨blk_set h 0 _, ?_⟩⟩
  · have := hu.beside (i := 0) (x := v') h
    exact this.mono (by simp [World.setCell])
  · have := hv.beside (i := 0) (x := v') h
    exact this.mono (by simp [World.setCell])

set_option maxHeartbeats 1000000 in
theorem take_mid (R : Nat) (ad : Addr) (cap : Nat) (left : List (BitVec 8)) (bad : Bool) (n : Nat) (w : World) (hr : ReaderAt w R (.slice (some ad) left.length cap) left bad) (hn : n ≤ left.length) (hc : n < cap) (hl : left.length ≤ 1099511627776) :
    Calls Try.prog 31 #[.pointer (some ⟨R, 0, none⟩), .bool true, .int .i64 n] w (Took R left bad (some n) w) := by
  obtain ⟨hblk, hbytes⟩ := hr
  have c0 : w.cell? ⟨R, 0, none⟩ = some (.slice (some ad) left.length cap) := blk_cell hblk 0
  have f0 : w.frozen? ⟨R, 0, none⟩ = false := blk_frozen hblk 0
  have HF := Lib.hid (took_yes (bad := bad) hblk (hbytes.pre n hn) (hbytes.suf n hn))
  have d : decide ((left.length : Int) < n) = false := by simp; omega
  have lc : left.length ≤ cap := by obtain ⟨_, _, e, h, _⟩ := hbytes; simp only [Value.slice.injEq] at e; omega
  have l1 : (left.length : Int) ≤ 1099511627776 := by omega
  have l2 : (left.length : Int) ≤ cap := by omega
  have n1 : (n : Int) ≤ left.length := by omega
  have n2 : (n : Int) < cap := by omega
  clear hblk hbytes
  go_enter Try.func31, Try.ntmps31
  go_wp2
  go_ret
  exact HF.out

set_option maxHeartbeats 1000000 in
theorem take_all (R : Nat) (ad : Addr) (left : List (BitVec 8)) (bad : Bool) (w : World) (hr : ReaderAt w R (.slice (some ad) left.length left.length) left bad) (hl : left.length ≤ 1099511627776) :
    Calls Try.prog 31 #[.pointer (some ⟨R, 0, none⟩), .bool true, .int .i64 left.length] w (Took R left bad (some left.length) w) := by
  obtain ⟨hblk, hbytes⟩ := hr
  have c0 : w.cell? ⟨R, 0, none⟩ = some (.slice (some ad) left.length left.length) := blk_cell hblk 0
  have f0 : w.frozen? ⟨R, 0, none⟩ = false := blk_frozen hblk 0
  have HF := Lib.hid (took_yes (bad := bad) (n := left.length) (v' := .slice (some ad) 0 0) hblk (by rw [List.take_length]; exact hbytes) (by rw [List.drop_length]; exact ⟨_, _, rfl, Nat.le_refl _, fun h => (by cases h), .inl rfl⟩))
  have l1 : (left.length : Int) ≤ 1099511627776 := by omega
  clear hblk hbytes
  go_enter Try.func31, Try.ntmps31
  go_wp2
  go_ret
  exact HF.out

set_option maxHeartbeats 1000000 in
theorem take_none (R : Nat) (bad : Bool) (w : World) (hr : ReaderAt w R (.slice none 0 0) [] bad) :
    Calls Try.prog 31 #[.pointer (some ⟨R, 0, none⟩), .bool true, .int .i64 0] w (Took R [] bad (some 0) w) := by
  obtain ⟨hblk, hbytes⟩ := hr
  have c0 : w.cell? ⟨R, 0, none⟩ = some (.slice none 0 0) := blk_cell hblk 0
  have f0 : w.frozen? ⟨R, 0, none⟩ = false := blk_frozen hblk 0
  have HF := Lib.hid (took_yes (bad := bad) (n := 0) (left := []) (u := .slice none 0 0) (v' := .slice none 0 0) hblk (BytesAt.nil _ _) (BytesAt.nil _ _))
  clear hblk hbytes
  go_enter Try.func31, Try.ntmps31
  go_wp2
  go_ret
  exact HF.out

/-- How much is taken: nothing, if it may not be asked for, or there is not so much. -/
def tookN (left : List (BitVec 8)) (right : Bool) (n : Int) : Option Nat := if right = true ∧ 0 ≤ n ∧ n ≤ left.length then some n.toNat else none
theorem take_any (R : Nat) (v : Value) (left : List (BitVec 8)) (bad right : Bool) (n : Int) (w : World) (hr : ReaderAt w R v left bad) (hn : right = true → 0 ≤ n) (hl : left.length ≤ 1099511627776) :
    Calls Try.prog 31 #[.pointer (some ⟨R, 0, none⟩), .bool right, .int .i64 n] w (Took R left bad (tookN left right n) w) := by
  cases right with
  | false => simpa [tookN] using take_wrong R v left bad n w hr
  | true =>
    have h0 := hn rfl
    by_cases hm : n ≤ left.length
    · obtain ⟨k, rfl⟩ := Int.eq_ofNat_of_zero_le h0
      have hk : k ≤ left.length := by omega
      have e : tookN left true k = some k := by simp [tookN]; omega
      rw [e]
      have hb := hr.bytes
      obtain ⟨a, cap, rfl, hc, h0', _⟩ := hb
      cases a with
      | none =>
        obtain ⟨h1, h2, h3⟩ := hr.bytes.none_nil
        subst h3 h2
        obtain rfl : k = 0 := by simpa using hk
        exact take_none R bad w hr
      | some ad =>
        by_cases hkc : k < cap
        · exact take_mid R ad cap left bad k w hr hk hkc hl
        · obtain rfl : cap = left.length := by omega
          obtain rfl : k = left.length := by omega
          exact take_all R ad left bad w hr hl
    · have e : tookN left true n = none := by simp [tookN]; omega
      rw [e]
      exact take_much R v left bad n w hr (by omega)

end Go.Proofs.Ytgaabclgoolalaa

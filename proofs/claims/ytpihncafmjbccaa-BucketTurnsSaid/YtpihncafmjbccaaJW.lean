/-
  Joined: Wire1, WireMath, Wire2, Clone, Wire3, Wire4, Wire5, Wire6, Wr, WrS, Nums1.
  Conditions: none.
-/
import Derived.Test.YtpihncafmjbccaaMem
import Derived.WalkKit
import Derived.Deep.QuietTactic
import Derived.BigQuiet
import Derived.Test.YtpihncafmjbccaaBase
import Derived.IntWalk
import Derived.OneCell
import Derived.Outline
namespace Go.Proofs.Ytpihncafmjbccaa
open Go.RowKit

/-- How many bytes a number may have. -/
def MayHave (k : Int) : Prop := k = 1 ∨ k = 2 ∨ k = 4 ∨ k = 8
instance (k : Int) : Decidable (MayHave k) := by unfold MayHave; infer_instance

/-- Is it among these? -/
def amongB (x : Int) (l : List Int) : Bool := l.any (· == x)

def mayB (k : Int) : Bool := decide (k = 1 ∨ k = 2 ∨ k = 4 ∨ k = 8)
theorem among_may (k : Int) : amongB k [1, 2, 4, 8] = mayB k := by
  unfold amongB mayB
  rw [Bool.eq_iff_iff]
  simp
  omega

end Go.Proofs.Ytpihncafmjbccaa
namespace Go.Proofs.Ytpihncafmjbccaa

/-- A number's bytes, the lowest first. -/
def leB (k : Nat) (x : BitVec 64) : List (BitVec 8) := (List.range k).map fun i => (x >>> (8 * i)).setWidth 8
theorem leB_succ (k : Nat) (x : BitVec 64) : leB (k + 1) x = leB k x ++ [(x >>> (8 * k)).setWidth 8] := by simp [leB, List.range_succ]
theorem leB_len (k : Nat) (x : BitVec 64) : (leB k x).length = k := by simp [leB]

/-- The number of the first j of bytes, the lowest first. -/
def leAcc (bs : List (BitVec 8)) (j : Nat) : BitVec 64 := (List.range j).foldl (fun a i => a ||| ((bs[i]?.getD 0).setWidth 64) <<< (8 * i)) 0#64
theorem leAcc_succ (bs : List (BitVec 8)) (j : Nat) : leAcc bs (j + 1) = leAcc bs j ||| ((bs[j]?.getD 0).setWidth 64) <<< (8 * j) := by simp [leAcc, List.range_succ]
def leOf (bs : List (BitVec 8)) : BitVec 64 := leAcc bs bs.length


/-- The number of bytes, as a plain number. -/
def leNat : List (BitVec 8) → Nat
  | [] => 0
  | b :: bs => b.toNat + 256 * leNat bs
theorem leNat_append (xs ys : List (BitVec 8)) : leNat (xs ++ ys) = leNat xs + 256 ^ xs.length * leNat ys := by
  induction xs with
  | nil => simp [leNat]
  | cons b xs ih =>
    rw [List.cons_append, leNat, ih, leNat, List.length_cons, Nat.pow_succ, Nat.mul_add, Nat.mul_comm (256 ^ xs.length) 256, Nat.mul_assoc, Nat.add_assoc]
theorem leNat_lt (xs : List (BitVec 8)) : leNat xs < 256 ^ xs.length := by
  induction xs with
  | nil => simp [leNat]
  | cons b xs ih =>
    rw [leNat, List.length_cons, Nat.pow_succ]
    have := b.isLt
    omega
theorem leAcc_toNat (bs : List (BitVec 8)) (j : Nat) (hj : j ≤ bs.length) (h8 : j ≤ 8) : (leAcc bs j).toNat = leNat (bs.take j) := by
  induction j with
  | zero => simp [leAcc, leNat]
  | succ j ih =>
    have hlt : j < bs.length := by omega
    have e : bs.take (j + 1) = bs.take j ++ [bs[j]?.getD 0] := by
      rw [List.take_succ_eq_append_getElem hlt]
      simp [hlt]
    have hb := leNat_lt (bs.take j)
    have hlen : (bs.take j).length = j := by rw [List.length_take]; omega
    rw [hlen] at hb
    rw [leAcc_succ, e, leNat_append, BitVec.toNat_or, ih (by omega) (by omega), hlen]
    generalize bs[j]?.getD 0 = b
    have hb8 := b.isLt
    have hp : (256 : Nat) ^ j = 2 ^ (8 * j) := by rw [Nat.pow_mul]
    have hsh : ((b.setWidth 64) <<< (8 * j)).toNat = b.toNat <<< (8 * j) := by
      have hb64 : b.toNat % 2 ^ 64 = b.toNat := Nat.mod_eq_of_lt (by omega)
      rw [BitVec.toNat_shiftLeft, BitVec.toNat_setWidth, hb64, Nat.shiftLeft_eq]
      refine Nat.mod_eq_of_lt ?_
      calc b.toNat * 2 ^ (8 * j) < 2 ^ 8 * 2 ^ (8 * j) := Nat.mul_lt_mul_of_pos_right hb8 (Nat.two_pow_pos _)
        _ = 2 ^ (8 + 8 * j) := by rw [Nat.pow_add]
        _ ≤ 2 ^ 64 := Nat.pow_le_pow_right (by decide) (by omega)
    rw [hp] at hb ⊢
    rw [hsh, Nat.or_comm, ← Nat.shiftLeft_add_eq_or_of_lt hb, Nat.shiftLeft_eq]
    simp only [leNat, Nat.mul_zero, Nat.add_zero]
    rw [Nat.mul_comm, Nat.add_comm]
theorem leOf_toNat (bs : List (BitVec 8)) (h : bs.length ≤ 8) : (leOf bs).toNat = leNat bs := by
  unfold leOf
  rw [leAcc_toNat bs _ (Nat.le_refl _) h, List.take_length]
theorem leNat_leB (k : Nat) (x : BitVec 64) : leNat (leB k x) = x.toNat % 256 ^ k := by
  induction k with
  | zero => simp [leB, leNat, Nat.mod_one]
  | succ k ih =>
    rw [leB_succ, leNat_append, ih, leB_len]
    simp only [leNat, Nat.mul_zero, Nat.add_zero]
    have e : (256 : Nat) ^ k = 2 ^ (8 * k) := by rw [Nat.pow_mul]
    have e2 : (256 : Nat) ^ (k + 1) = 2 ^ (8 * k) * 256 := by rw [Nat.pow_succ, e]
    rw [BitVec.toNat_setWidth, BitVec.toNat_ushiftRight, Nat.shiftRight_eq_div_pow, e2, e, Nat.mod_mul]

/-- The number of bytes, from the last one on. -/
def refOf : List (BitVec 8) → BitVec 64
  | [] => 0#64
  | b :: bs => 256#64 * refOf bs + b.setWidth 64
theorem refOf_toNat (bs : List (BitVec 8)) : (refOf bs).toNat = leNat bs % 2 ^ 64 := by
  induction bs with
  | nil => simp [refOf, leNat]
  | cons b bs ih =>
    rw [refOf, leNat, BitVec.toNat_add, BitVec.toNat_mul, ih, BitVec.toNat_setWidth]
    have := b.isLt
    simp only [BitVec.toNat_ofNat]
    omega
theorem refOf_eq (bs : List (BitVec 8)) (h : bs.length ≤ 8) : refOf bs = leOf bs := by
  apply BitVec.eq_of_toNat_eq
  rw [refOf_toNat, leOf_toNat bs h]
  have h1 := leNat_lt bs
  have h2 : 256 ^ bs.length ≤ 256 ^ 8 := Nat.pow_le_pow_right (by decide) h
  exact Nat.mod_eq_of_lt (by omega)

end Go.Proofs.Ytpihncafmjbccaa
namespace Go.Proofs.Ytpihncafmjbccaa
open Go.RowKit

/-- What a writer's calls may write. -/
def wS (B : Nat) (v : Value) : Nat → Prop := fun k => k = B ∨ v.ownBlock = some k
/-- What a writer's call leaves: no other block that was there has turned; its row is where it was, or new. -/
structure WStep (B : Nat) (v v' : Value) (w w' : World) : Prop where
  moves : Moves (wS B v) w w'
  own : ∀ k, v'.ownBlock = some k → v.ownBlock = some k ∨ w.heap.size ≤ k
theorem WStep.refl (B : Nat) (v : Value) (w : World) : WStep B v v w w := ⟨Moves.refl _ _, fun _ h => .inl h⟩
theorem WStep.trans {B : Nat} {v v1 v2 : Value} {a b c : World} (h : WStep B v v1 a b) (k : WStep B v1 v2 b c) : WStep B v v2 a c := by
  refine ⟨h.moves.trans k.moves fun i hi hT => ?_, fun j hj => ?_⟩
  · rcases hT with rfl | hT
    · exact .inl rfl
    · rcases h.own i hT with h1 | h1
      · exact .inr h1
      · omega
  · rcases k.own j hj with h1 | h1
    · exact h.own j h1
    · exact .inr (Nat.le_trans h.moves.size h1)

theorem wrap8_64 (x : BitVec 64) : IntKind.u8.wrap (U x) = U (x.setWidth 8) := by
  unfold U
  rw [BitVec.toNat_setWidth]
  simp [IntKind.wrap, IntKind.bits, IntKind.signed]

end Go.Proofs.Ytpihncafmjbccaa
namespace Go.Proofs.Ytpihncafmjbccaa
open Go.RowKit

end Go.Proofs.Ytpihncafmjbccaa
namespace Go.Proofs.Ytpihncafmjbccaa
open Go.RowKit

/-- What a writer has behind bytes that are to be written ('none': what may not be). -/
def wRow (row : List (BitVec 8)) (limit : Int) (full : Bool) : Option (List (BitVec 8)) → List (BitVec 8)
  | none => row
  | some bs => if full = true ∨ limit < row.length + bs.length then row else row ++ bs
def wFull (row : List (BitVec 8)) (limit : Int) (full : Bool) : Option (List (BitVec 8)) → Bool
  | none => true
  | some bs => full || decide (limit < row.length + bs.length)
theorem WStep.before {B k : Nat} {v v' : Value} {w w' : World} (h : WStep B v v' (w.drewN k) w') : WStep B v v' w w' := ⟨⟨h.moves.os, h.moves.tape, h.moves.output, h.moves.size, h.moves.block⟩, h.own⟩

/-- A text ahead of which its length stands. -/
def textB (bs : List (BitVec 8)) : Option (List (BitVec 8)) := if bs.length ≤ 65535 then some (leB 2 (BitVec.ofNat 64 bs.length) ++ bs) else none
def numB (x : BitVec 64) (k : Int) : Option (List (BitVec 8)) := if mayB k = true then some (leB k.toNat x) else none

theorem WStep.behind {B : Nat} {v v' : Value} {w w0 w' : World} (hb : Below w.heap.size w w0) (h : WStep B v v' w0 w') : WStep B v v' w w' :=
  ⟨(Moves.of_below hb).trans h.moves (fun _ _ h => h), fun i hi => by
    rcases h.own i hi with e | e
    · exact .inl e
    · right; have := hb.size; omega⟩
end Go.Proofs.Ytpihncafmjbccaa
namespace Go.Proofs.Ytpihncafmjbccaa
open Go.RowKit

/-! No writer -/
end Go.Proofs.Ytpihncafmjbccaa
namespace Go.Proofs.Ytpihncafmjbccaa
open Go.RowKit

/-- What a reader's calls may write. -/
def rS (R : Nat) : Nat → Prop := fun k => k = R

theorem BytesAt.beside {n₀ R i : Nat} {w : World} {u x : Value} {bs : List (BitVec 8)} {a : Option Addr} {l c : Nat} {b : Bool} {t : TypeId} (h : BytesAt n₀ w u bs) (hR : w.heap[R]? = some (.cells #[.slice a l c, .bool b] t (0, 0))) : BytesAt n₀ (w.setCell ⟨R, i, none⟩ x) u bs := by
  obtain ⟨a', cap, rfl, hl, h0, h⟩ := h
  refine ⟨a', cap, rfl, hl, h0, ?_⟩
  rcases h with h | ⟨g, off, rfl, hg, hc⟩
  · exact .inl h
  · refine .inr ⟨g, off, rfl, hg, fun j hj => ?_⟩
    have hne : g ≠ R := by
      rintro rfl
      have h1 := hc j hj
      rw [blk_cell hR] at h1
      match hm : off + j with
      | 0 => rw [hm] at h1; simp at h1
      | 1 => rw [hm] at h1; simp at h1
      | k + 2 => rw [hm] at h1; simp at h1
    exact (World.cell?_of_block (Below.heap_setCell w ⟨R, i, none⟩ x g hne)).trans (hc j hj)

/-- What is taken, what is left, whether the reader is bad ('none': it may not be asked for). -/
def takenB (left : List (BitVec 8)) (n : Option Nat) : List (BitVec 8) := match n with | none => [] | some k => left.take k
def leftB (left : List (BitVec 8)) (n : Option Nat) : List (BitVec 8) := match n with | none => [] | some k => left.drop k
def badB (bad : Bool) (n : Option Nat) : Bool := match n with | none => true | some _ => bad
/-- How much is taken: nothing, if it may not be asked for, or there is not so much. -/
def tookN (left : List (BitVec 8)) (right : Bool) (n : Int) : Option Nat := if right = true ∧ 0 ≤ n ∧ n ≤ left.length then some n.toNat else none
end Go.Proofs.Ytpihncafmjbccaa
namespace Go.Proofs.Ytpihncafmjbccaa
open Go.RowKit

theorem or_u64 (x y : BitVec 64) : bits .or .u64 (U x) (U y) = U (x ||| y) := by
  show IntKind.u64.wrap (((BitVec.ofInt 64 (U x)) ||| (BitVec.ofInt 64 (U y))).toNat : Int) = _
  rw [ofInt_U, ofInt_U]; exact wrap_u64_U (x ||| y)
theorem shl_u64 (x : BitVec 64) (k : Nat) : IntKind.u64.wrap (U x * 2 ^ k) = U (x <<< k) := by
  unfold U
  rw [BitVec.toNat_shiftLeft, Nat.shiftLeft_eq]
  have : ((x.toNat : Int) * 2 ^ k) = ((x.toNat * 2 ^ k : Nat) : Int) := by simp
  rw [this]
  generalize x.toNat * 2 ^ k = m
  simp [IntKind.wrap, IntKind.bits, IntKind.signed]
theorem u8_in64 (b : BitVec 8) : U b = U (b.setWidth 64) := by
  unfold U
  rw [BitVec.toNat_setWidth, Nat.mod_eq_of_lt (by have := b.isLt; omega)]

/-- How many bytes a text has whose length stands ahead. -/
def textLen (left : List (BitVec 8)) : Int := U (leOf (takenB left (tookN left true 2)))
theorem leOf_lt (bs : List (BitVec 8)) (h : bs.length ≤ 2) : U (leOf bs) < 65536 := by
  have h1 := leOf_toNat bs (by omega)
  have h2 := leNat_lt bs
  have h3 : 256 ^ bs.length ≤ 256 ^ 2 := Nat.pow_le_pow_right (by decide) h
  unfold U
  omega

theorem leftB_len (left : List (BitVec 8)) (n : Option Nat) : (leftB left n).length ≤ left.length := by
  cases n <;> simp [leftB]
/-! No reader -/
end Go.Proofs.Ytpihncafmjbccaa
namespace Go.Proofs.Ytpihncafmjbccaa
open Go.RowKit

theorem base_own {w : World} {b b' : Nat} {e : TypeId} {size n : Nat} {v : Value} {xs : List Value} (h : w.ownsRow b e size v n xs) (hb : b' ≤ b) : w.ownsRow b' e size v n xs := by
  obtain ⟨h1, h2⟩ := h
  refine ⟨h1, ?_⟩
  rcases h2 with h2 | ⟨g, cap, cur, hv, hg, r⟩
  · exact .inl h2
  · exact .inr ⟨g, cap, cur, hv, Nat.le_trans hb hg, r⟩

/-- The bytes of a number, the lowest first. -/
def leI (k i : Int) : List (BitVec 8) := leB k.toNat (BitVec.ofInt 64 i)
theorem leI_len (k i : Int) : (leI k i).length = k.toNat := leB_len _ _
/-- All bytes that were there are there still. -/
def Keeps (W W' : World) : Prop := ∀ n u bs, BytesAt n W u bs → n ≤ W.heap.size → BytesAt n W' u bs
theorem Keeps.of_below {W W' : World} (hb : Below W.heap.size W W') : Keeps W W' := fun _ _ _ h hn => h.below (hb.mono hn)
/-- What is read, left, bad behind k bytes were asked for. -/
def rdN (left : List (BitVec 8)) (k : Int) : BitVec 64 := leOf (takenB left (tookN left (mayB k) k))
def rdL (left : List (BitVec 8)) (k : Int) : List (BitVec 8) := leftB left (tookN left (mayB k) k)
def rdB (left : List (BitVec 8)) (bad : Bool) (k : Int) : Bool := badB bad (tookN left (mayB k) k)
end Go.Proofs.Ytpihncafmjbccaa
namespace Go.Proofs.Ytpihncafmjbccaa
open Go.RowKit

/-- All but a writer, and rows of bytes, stays. -/
def WStay (R : Nat) (W W' : World) : Prop := W.heap.size ≤ W'.heap.size ∧ ∀ (k : Nat) (o : Obj), W.heap[k]? = some o → k ≠ R → (∀ cs sp, o ≠ .cells cs 5 sp) → W'.heap[k]? = some o
theorem WStay.refl (R : Nat) (W : World) : WStay R W W := ⟨Nat.le_refl _, fun _ _ h _ _ => h⟩
theorem WStay.trans {R : Nat} {A B C : World} (h : WStay R A B) (h' : WStay R B C) : WStay R A C := ⟨Nat.le_trans h.1 h'.1, fun k o ho hk hc => h'.2 k o (h.2 k o ho hk hc) hk hc⟩
theorem WStay.of_below {R : Nat} {A B : World} (h : Below A.heap.size A B) : WStay R A B := ⟨h.size, fun k _ ho _ _ => (h.block k (Array.getElem?_eq_some_iff.1 ho).1).trans ho⟩
theorem WStay.blk {R : Nat} {A B : World} (h : WStay R A B) {k : Nat} {cs : Array Value} {t : TypeId} {sp : Nat × Nat} (hk : A.heap[k]? = some (.cells cs t sp)) (hr : k ≠ R) (ht : t ≠ 5) : B.heap[k]? = some (.cells cs t sp) :=
  h.2 k _ hk hr (fun _ _ e => by cases e; exact ht rfl)
theorem own_cellsW {W : World} {b : Nat} {e : TypeId} {sz : Nat} {v : Value} {n : Nat} {xs : List Value} (h : W.ownsRow b e sz v n xs) {k : Nat} (hk : v.ownBlock = some k) : ∃ cs sp, W.heap[k]? = some (.cells cs e sp) := by
  rcases h.2 with ⟨rfl, _⟩ | ⟨g, cap, cur, rfl, _, hg, _⟩
  · simp [Value.ownBlock] at hk
  · obtain rfl : g = k := by simpa [Value.ownBlock] using hk
    exact ⟨_, _, hg⟩
theorem wrapU64 {i : Int} (h0 : 0 ≤ i) (h1 : i < 18446744073709551616) : IntKind.u64.wrap i = i := by
  simp [IntKind.wrap, IntKind.bits, IntKind.signed]; omega
end Go.Proofs.Ytpihncafmjbccaa
namespace Go.Proofs.Ytpihncafmjbccaa
open Go.RowKit

end Go.Proofs.Ytpihncafmjbccaa

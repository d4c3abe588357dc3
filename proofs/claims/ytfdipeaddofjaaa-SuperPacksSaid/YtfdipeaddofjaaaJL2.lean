/-
  Joined: LeafMath, Leaf6, LeafLaw.
  Conditions: none.
-/
import Derived.Test.YtfdipeaddofjaaaLeaf5
import Derived.Lib.SlBytesConst
import Derived.Test.YtfdipeaddofjaaaJS
namespace Go.Proofs.Ytfdipeaddofjaaa
open Go.RowKit

theorem num_back (k : Nat) (i : Int) (hk : k ≤ 8) (h0 : 0 ≤ i) (h1 : i < ((256 ^ k : Nat) : Int)) (h2 : i < 9223372036854775808) : wrap64 (U (leOf (leI k i))) = i := by
  obtain ⟨n, rfl⟩ := Int.eq_ofNat_of_zero_le h0
  have e : (leOf (leI k n)).toNat = n := by
    rw [leOf_toNat _ (by rw [leI_len]; simpa using hk)]
    unfold leI
    rw [leNat_leB, BitVec.toNat_ofInt]
    simp only [Int.toNat_natCast]
    have h1' : n < 256 ^ k := by exact_mod_cast h1
    have h2' : n < 9223372036854775808 := by omega
    have e2 : ((n : Int) % ((2 ^ 64 : Nat) : Int)).toNat = n := by omega
    rw [e2, Nat.mod_eq_of_lt h1']
  unfold U
  rw [e]
  unfold wrap64
  omega
theorem leaf_form (size kd pl st : Int) (ld : List (BitVec 8)) : leafB size kd pl st ld = leI 1 kd ++ (leI 2 ld.length ++ (leI 4 pl ++ (leI 8 st ++ (ld ++ (List.replicate (size - 19 - ld.length).toNat 0#8 ++ leI 4 (U (Crc.crcAdd 0#32 (leafBody size kd pl st ld)))))))) := by
  unfold leafB leafBody
  simp only [List.append_assoc, List.nil_append]
theorem drop_app {α : Type} {xs ys : List α} (n k : Nat) (h : xs.length = n) : (xs ++ ys).drop (n + k) = ys.drop k := by
  subst h; rw [← List.drop_drop, List.drop_left]
theorem seem_built {size kd pl st : Int} {ld : List (BitVec 8)} (h : buildErr size kd pl st ld.length = 0) (hst : st ≤ 9223372036854775807) : seem (leafB size kd pl st ld) = ⟨kd, pl, st, ld⟩ := by
  have hs : sizeB size = true := by
    cases hs : sizeB size with
    | true => rfl
    | false => exact absurd h (by unfold buildErr; rw [hs, if_neg (by decide)]; decide)
  have hp : kindB kd = true ∧ 0 ≤ pl ∧ pl ≤ 2147483647 ∧ 0 ≤ st := by
    by_cases hp : kindB kd = true ∧ 0 ≤ pl ∧ pl ≤ 2147483647 ∧ 0 ≤ st
    · exact hp
    · exact absurd h (by unfold buildErr; rw [hs, if_pos rfl, if_neg hp]; decide)
  have hm : (ld.length : Int) ≤ size - 19 := by
    by_cases hm : size - 19 < ld.length
    · exact absurd h (by unfold buildErr; rw [hs, if_pos rfl, if_pos hp, if_pos hm]; decide)
    · omega
  obtain ⟨hk, p1, p2, p3⟩ := hp
  obtain ⟨s1, s2⟩ : 96 ≤ size ∧ size ≤ 512 := by simpa [sizeB] using hs
  obtain ⟨k1, k2⟩ : 1 ≤ kd ∧ kd ≤ 4 := by simpa [kindB] using hk
  have b1 : wrap64 (U (leOf (leI 1 kd))) = kd := num_back 1 kd (by omega) (by omega) (by omega) (by omega)
  have b2 : wrap64 (U (leOf (leI 2 ld.length))) = ld.length := num_back 2 ld.length (by omega) (by omega) (by omega) (by omega)
  have b3 : wrap64 (U (leOf (leI 4 pl))) = pl := num_back 4 pl (by omega) p1 (by omega) (by omega)
  have b4 : wrap64 (U (leOf (leI 8 st))) = st := num_back 8 st (by omega) p3 (by omega) (by omega)
  obtain ⟨tl, htl⟩ : ∃ tl, (List.replicate (size - 19 - ld.length).toNat 0#8 ++ leI 4 (U (Crc.crcAdd 0#32 (leafBody size kd pl st ld)))) = tl := ⟨_, rfl⟩
  have l1 : (leI 1 kd).length = 1 := leI_len _ _
  have l2 : (leI 2 (ld.length : Int)).length = 2 := leI_len _ _
  have l3 : (leI 4 pl).length = 4 := leI_len _ _
  have l4 : (leI 8 st).length = 8 := leI_len _ _
  have e := leaf_form size kd pl st ld
  rw [htl] at e
  unfold seem
  rw [e]
  have t1 : (leI 1 kd ++ (leI 2 ld.length ++ (leI 4 pl ++ (leI 8 st ++ (ld ++ tl))))).take 1 = leI 1 kd := List.take_left' l1
  have t2 : ((leI 1 kd ++ (leI 2 ld.length ++ (leI 4 pl ++ (leI 8 st ++ (ld ++ tl))))).drop 1).take 2 = leI 2 ld.length := by
    rw [List.drop_left' l1, List.take_left' l2]
  have t3 : ((leI 1 kd ++ (leI 2 ld.length ++ (leI 4 pl ++ (leI 8 st ++ (ld ++ tl))))).drop 3).take 4 = leI 4 pl := by
    rw [show (3 : Nat) = 1 + 2 from rfl, drop_app 1 2 l1, List.drop_left' l2, List.take_left' l3]
  have t4 : ((leI 1 kd ++ (leI 2 ld.length ++ (leI 4 pl ++ (leI 8 st ++ (ld ++ tl))))).drop 7).take 8 = leI 8 st := by
    rw [show (7 : Nat) = 1 + (2 + 4) from rfl, drop_app 1 (2 + 4) l1, drop_app 2 4 l2, List.drop_left' l3, List.take_left' l4]
  have t5 : (leI 1 kd ++ (leI 2 ld.length ++ (leI 4 pl ++ (leI 8 st ++ (ld ++ tl))))).drop 15 = ld ++ tl := by
    rw [show (15 : Nat) = 1 + (2 + (4 + 8)) from rfl, drop_app 1 (2 + (4 + 8)) l1, drop_app 2 (4 + 8) l2, drop_app 4 8 l3, List.drop_left' l4]
  rw [t1, t2, t3, t4, t5, b1, b2, b3, b4]
  have t6 : tookN (ld ++ tl) true ld.length = some ld.length := by simp [tookN]; omega
  rw [t6]
  show LeafP.mk kd pl st ((ld ++ tl).take ld.length) = _
  rw [List.take_left]
theorem read_built {size kd pl st : Int} {ld : List (BitVec 8)} (h : buildErr size kd pl st ld.length = 0) (hst : st ≤ 9223372036854775807) : readErr (leafB size kd pl st ld) = 0 ∧ readL (leafB size kd pl st ld) = ⟨kd, pl, st, ld⟩ ∧ ((leafB size kd pl st ld).length : Int) = size := by
  have hs : sizeB size = true := by
    cases hs : sizeB size with
    | true => rfl
    | false => exact absurd h (by unfold buildErr; rw [hs, if_neg (by decide)]; decide)
  have hm : (ld.length : Int) ≤ size - 19 := by
    by_cases hp : kindB kd = true ∧ 0 ≤ pl ∧ pl ≤ 2147483647 ∧ 0 ≤ st
    · by_cases hm : size - 19 < ld.length
      · exact absurd h (by unfold buildErr; rw [hs, if_pos rfl, if_pos hp, if_pos hm]; decide)
      · omega
    · exact absurd h (by unfold buildErr; rw [hs, if_pos rfl, if_neg hp]; decide)
  have hl := leafB_len kd pl st hm
  have e := seem_built h hst
  have hr : readErr (leafB size kd pl st ld) = 0 := by
    unfold readErr
    rw [hl, hs, e, if_pos rfl, if_pos ⟨h, rfl⟩]
  refine ⟨hr, ?_, hl⟩
  unfold readL
  rw [hr, if_pos rfl, e]
end Go.Proofs.Ytfdipeaddofjaaa
namespace Go.Proofs.Ytfdipeaddofjaaa
open Go.RowKit

def hi05 : List (BitVec 8) := leafB 96 2 5 7 [104#8, 105#8]
theorem hi05_at : hi05[0]? = some 2#8 ∧ hi05[1]? = some 2#8 ∧ hi05[3]? = some 5#8 ∧ hi05[7]? = some 7#8 ∧ hi05[15]? = some 104#8 ∧ hi05.length = 96 := by decide +kernel
theorem hi05_err : buildErr 96 2 5 7 ([104#8, 105#8] : List (BitVec 8)).length = 0 := by decide
theorem own_cell {w : World} {base g n cap : Nat} {bs : List (BitVec 8)} (h : w.ownsRow base 5 1 (.slice (some ⟨g, 0, none⟩) n cap) bs.length (cellsOf bs)) (j : Nat) (b : BitVec 8) (hb : bs[j]? = some b) : w.cell? ⟨g, j, none⟩ = some (.int .u8 (U b)) := by
  have := h.cells (g := g) rfl j (.int .u8 (U b)) (by simp [cellsOf, hb])
  rwa [add_plain, Nat.zero_add] at this

theorem own_hi {w : World} {base : Nat} {u : Value} (h : w.ownsRow base 5 1 u hi05.length (cellsOf hi05)) : ∃ g cap, u = .slice (some ⟨g, 0, none⟩) 96 cap ∧ ∀ W, Below w.heap.size w W →
    W.cell? ⟨g, 0, none⟩ = some (.int .u8 2) ∧ W.cell? ⟨g, 1, none⟩ = some (.int .u8 2) ∧ W.cell? ⟨g, 3, none⟩ = some (.int .u8 5) ∧ W.cell? ⟨g, 7, none⟩ = some (.int .u8 7) ∧ W.cell? ⟨g, 15, none⟩ = some (.int .u8 104) := by
  have h0 := h
  obtain ⟨h1, h2, h3, h4, h5, h6⟩ := hi05_at
  rcases h.2 with ⟨rfl, e⟩ | ⟨g, cap, cur, rfl, _, hg, _⟩
  · rw [h6] at e; exact absurd e (by decide)
  · have hlt := blk_lt hg
    refine ⟨g, cap, by rw [h6], fun W hb => ⟨?_, ?_, ?_, ?_, ?_⟩⟩
    · exact (hb.cell (p := ⟨g, 0, none⟩) hlt).trans (own_cell h0 0 _ h1)
    · exact (hb.cell (p := ⟨g, 1, none⟩) hlt).trans (own_cell h0 1 _ h2)
    · exact (hb.cell (p := ⟨g, 3, none⟩) hlt).trans (own_cell h0 3 _ h3)
    · exact (hb.cell (p := ⟨g, 7, none⟩) hlt).trans (own_cell h0 7 _ h4)
    · exact (hb.cell (p := ⟨g, 15, none⟩) hlt).trans (own_cell h0 15 _ h5)

end Go.Proofs.Ytfdipeaddofjaaa
namespace Go.Proofs.Ytfdipeaddofjaaa
open Go.ChangeShapes Go.WideShapes Go.ChangeAt Go.RowKit Go.Deep

/-- A document's leaf. -/
def LeafP.doc (x : LeafP) : Array Value := #[.int .i64 x.kind, .int .i64 x.place, .int .i64 x.stamp, .string (strB x.load)]
structure LeafP.wf (x : LeafP) : Prop where
  kind : N64 x.kind
  place : N64 x.place
  stamp : N64 x.stamp
  load : x.load.length ≤ maxLen
section
variable {H : Type} {enc : TypeId × Value → H}
end

end Go.Proofs.Ytfdipeaddofjaaa

/-
  Plain mathematics of a set of numbers, kept as words of 64 bits.
  Conditions: none.
-/
import Derived.Test.YtpljbjceokoeiaaDoorBase
namespace Go.Proofs.YtpljbjceokoeiaaDoor
open Go.RowKit

/-- A number's bit in its word. -/
def bitOf (i : Nat) : BitVec 64 := BitVec.twoPow 64 (i % 64)
theorem bitOf_get (i k : Nat) : (bitOf i).getLsbD k = decide (k = i % 64) := by
  unfold bitOf
  rw [BitVec.getLsbD_twoPow]
  have h : i % 64 < 64 := Nat.mod_lt _ (by decide)
  rw [Bool.eq_iff_iff]
  simp only [Bool.and_eq_true, decide_eq_true_eq]
  omega
theorem and_bitOf (x : BitVec 64) (i : Nat) : (x &&& bitOf i = 0#64) ↔ x.getLsbD (i % 64) = false := by
  have h : i % 64 < 64 := Nat.mod_lt _ (by decide)
  constructor
  · intro e
    have := congrArg (fun y => y.getLsbD (i % 64)) e
    simpa [BitVec.getLsbD_and, bitOf_get] using this
  · intro e
    apply BitVec.eq_of_getLsbD_eq
    intro k hk
    rw [BitVec.getLsbD_and, bitOf_get]
    by_cases hki : k = i % 64
    · subst hki; simp [e]
    · simp [hki]

/-- A set of numbers: how many there are, the hand, the words. -/
structure BSet where
  n : Nat
  hand : Nat
  ws : List (BitVec 64)
def BSet.has (s : BSet) (i : Nat) : Bool := (s.ws[i / 64]?.getD 0#64).getLsbD (i % 64)
def BSet.mark (s : BSet) (i : Nat) : BSet := { s with ws := s.ws.set (i / 64) (s.ws[i / 64]?.getD 0#64 ||| bitOf i) }
def BSet.clear (s : BSet) (i : Nat) : BSet := { s with ws := s.ws.set (i / 64) (s.ws[i / 64]?.getD 0#64 &&& ~~~ bitOf i) }
/-- What a set's parts are. -/
structure BSet.Ok (s : BSet) : Prop where
  n1 : 1 ≤ s.n
  n2 : s.n ≤ 65536
  hand : s.hand < s.n
  len : s.ws.length = (s.n + 63) / 64
  above : ∀ i, s.n ≤ i → s.has i = false
def BSet.new (n : Nat) : BSet := ⟨n, 0, List.replicate ((n + 63) / 64) 0#64⟩
theorem has_new (n i : Nat) : (BSet.new n).has i = false := by
  unfold BSet.has BSet.new
  simp only [List.getElem?_replicate]
  split <;> simp
theorem ok_new {n : Nat} (h : 1 ≤ n ∧ n ≤ 65536) : (BSet.new n).Ok := ⟨h.1, h.2, by show 0 < n; omega, by simp [BSet.new], fun i _ => has_new n i⟩
theorem has_put (s : BSet) (i j : Nat) (x : BitVec 64) (hi : i / 64 < s.ws.length) : ({ s with ws := s.ws.set (i / 64) x } : BSet).has j = if j / 64 = i / 64 then x.getLsbD (j % 64) else s.has j := by
  unfold BSet.has
  simp only [List.getElem?_set]
  by_cases h : i / 64 = j / 64
  · rw [if_pos h, if_pos h.symm, if_pos hi]; rfl
  · rw [if_neg h, if_neg (fun e => h e.symm)]
theorem has_mark (s : BSet) (i j : Nat) (hi : i / 64 < s.ws.length) : (s.mark i).has j = (s.has j || decide (j = i)) := by
  unfold BSet.mark
  rw [has_put s i j _ hi]
  by_cases h : j / 64 = i / 64
  · rw [if_pos h, BitVec.getLsbD_or, bitOf_get, ← h]
    unfold BSet.has
    congr 1
    rw [Bool.eq_iff_iff]; simp only [decide_eq_true_eq]; omega
  · rw [if_neg h]
    have : ¬ j = i := fun e => h (by rw [e])
    simp [this]
theorem has_clear (s : BSet) (i j : Nat) (hi : i / 64 < s.ws.length) : (s.clear i).has j = (s.has j && !decide (j = i)) := by
  unfold BSet.clear
  rw [has_put s i j _ hi]
  by_cases h : j / 64 = i / 64
  · rw [if_pos h, BitVec.getLsbD_and, BitVec.getLsbD_not, bitOf_get, ← h]
    unfold BSet.has
    have hm : j % 64 < 64 := Nat.mod_lt _ (by decide)
    congr 1
    rw [Bool.eq_iff_iff]; simp only [hm, decide_true, Bool.true_and, Bool.not_eq_true', decide_eq_false_iff_not]; omega
  · rw [if_neg h]
    have : ¬ j = i := fun e => h (by rw [e])
    simp [this]
theorem BSet.Ok.div {s : BSet} (h : s.Ok) {i : Nat} (hi : i < s.n) : i / 64 < s.ws.length := by rw [h.len]; omega
theorem ok_mark {s : BSet} (h : s.Ok) {i : Nat} (hi : i < s.n) : (s.mark i).Ok :=
  ⟨h.n1, h.n2, h.hand, by show (s.ws.set _ _).length = _; rw [List.length_set]; exact h.len, fun j hj => by
    have hj : s.n ≤ j := hj
    rw [has_mark s i j (h.div hi), h.above j hj]; simp; omega⟩
theorem ok_clear {s : BSet} (h : s.Ok) {i : Nat} (hi : i < s.n) : (s.clear i).Ok :=
  ⟨h.n1, h.n2, h.hand, by show (s.ws.set _ _).length = _; rw [List.length_set]; exact h.len, fun j hj => by
    have hj : s.n ≤ j := hj
    rw [has_clear s i j (h.div hi), h.above j hj]; simp⟩

/-- The first number from a number on that is free; all of them: none is. -/
def BSet.free (s : BSet) (a : Nat) : Nat := ((List.range (s.n - a)).find? fun k => !s.has (a + k)).elim s.n (a + ·)
theorem free_spec (s : BSet) (a : Nat) (ha : a ≤ s.n) {m : Nat} (hm : a ≤ m ∧ m ≤ s.n) (hno : ∀ k, a ≤ k → k < m → s.has k = true) (hyes : m < s.n → s.has m = false) : s.free a = m := by
  unfold BSet.free
  by_cases h : m < s.n
  · have e : (List.range (s.n - a)).find? (fun k => !s.has (a + k)) = some (m - a) := by
      rw [List.find?_range_eq_some]
      refine ⟨by rw [show a + (m - a) = m by omega]; simp [hyes h], by simp; omega, fun j hj => ?_⟩
      simp [hno (a + j) (by omega) (by omega)]
    rw [e]
    show a + (m - a) = m
    omega
  · have e : (List.range (s.n - a)).find? (fun k => !s.has (a + k)) = none := by
      rw [List.find?_eq_none]
      intro k hk
      have := List.mem_range.1 hk
      simp [hno (a + k) (by omega) (by omega)]
    rw [e]
    show s.n = m
    omega
theorem free_is (s : BSet) (a : Nat) (ha : a ≤ s.n) : (a ≤ s.free a ∧ s.free a ≤ s.n) ∧ (∀ k, a ≤ k → k < s.free a → s.has k = true) ∧ (s.free a < s.n → s.has (s.free a) = false) := by
  unfold BSet.free
  cases h : (List.range (s.n - a)).find? (fun k => !s.has (a + k)) with
  | none =>
    rw [List.find?_eq_none] at h
    refine ⟨⟨ha, Nat.le_refl _⟩, fun k h1 h2 => ?_, fun h => absurd h (Nat.lt_irrefl _)⟩
    have h2 : k < s.n := h2
    have := h (k - a) (List.mem_range.2 (by omega))
    rw [show a + (k - a) = k by omega] at this
    simpa using this
  | some m =>
    rw [List.find?_range_eq_some] at h
    obtain ⟨h1, h2, h3⟩ := h
    have h2 := List.mem_range.1 h2
    refine ⟨⟨by show a ≤ a + m; omega, by show a + m ≤ s.n; omega⟩, fun k h4 h5 => ?_, fun _ => by simpa using h1⟩
    have h5 : k < a + m := h5
    have := h3 (k - a) (by omega)
    rw [show a + (k - a) = k by omega] at this
    simpa using this
/-- The number that is taken next: all of them, if none is free. -/
def BSet.next (s : BSet) : Nat := if s.free s.hand = s.n then s.free 0 else s.free s.hand
def BSet.take (s : BSet) : BSet := if s.next < s.n then { (s.mark s.next) with hand := (s.next + 1) % s.n } else s
theorem ok_take {s : BSet} (h : s.Ok) : s.take.Ok := by
  unfold BSet.take
  split
  · next hlt =>
    have := ok_mark h hlt
    exact ⟨this.n1, this.n2, Nat.mod_lt _ h.n1, this.len, this.above⟩
  · exact h

end Go.Proofs.YtpljbjceokoeiaaDoor

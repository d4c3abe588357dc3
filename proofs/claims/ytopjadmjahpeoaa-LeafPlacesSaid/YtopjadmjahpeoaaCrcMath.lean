/-
  Plain mathematics of the check CRC-32C: a number going down places, the table's rows, the order in which the program fills its table.
  Conditions: none.
-/
import Derived.Test.YtopjadmjahpeoaaRange
namespace Go.Proofs.Ytopjadmjahpeoaa
open Go.RowKit

/-- A number one place down. -/
def dn (x : BitVec 32) : BitVec 32 := if x &&& 1#32 = 1#32 then x >>> 1 ^^^ 2197175160#32 else x >>> 1
def dnN : Nat → BitVec 32 → BitVec 32
  | 0, x => x
  | k + 1, x => dnN k (dn x)
theorem dnN_succ (k : Nat) (x : BitVec 32) : dnN (k + 1) x = dn (dnN k x) := by
  induction k generalizing x with
  | zero => rfl
  | succ k ih => rw [dnN, ih, dnN]
/-- A byte's row. -/
def tab (b : BitVec 8) : BitVec 32 := dnN 8 (b.setWidth 32)
def tabN (i : Nat) : BitVec 32 := tab (BitVec.ofNat 8 i)

def tz (i : Nat) : Nat :=
  if i % 2 = 1 then 0 else if i % 4 = 2 then 1 else if i % 8 = 4 then 2 else if i % 16 = 8 then 3 else if i % 32 = 16 then 4 else if i % 64 = 32 then 5 else if i % 128 = 64 then 6 else 7
/-- When the row i is made. -/
def ord (i : Nat) : Nat := 2 ^ (7 - tz i) - 1 + i / 2 ^ (tz i + 1)
/-- Which row is made then. -/
def idx (s : Nat) : Nat := (s + 1 - 2 ^ Nat.log2 (s + 1)) * 2 ^ (8 - Nat.log2 (s + 1)) + 2 ^ (7 - Nat.log2 (s + 1))

theorem chk1 : ∀ s < 255, ord (idx s) = s ∧ 1 ≤ idx s ∧ idx s < 256 := by decide +kernel
theorem chk2 : ∀ i < 256, i ≠ 0 → idx (ord i) = i ∧ ord i < 255 := by decide +kernel
theorem chk3 : ∀ j < 8, ∀ m < 128, m < 2 ^ j →
    idx (2 ^ j - 1 + m) = m * (2 * (128 / 2 ^ j)) + 128 / 2 ^ j ∧ tabN (m * (2 * (128 / 2 ^ j)) + 128 / 2 ^ j) = tabN (m * (2 * (128 / 2 ^ j))) ^^^ dnN (j + 1) 1#32 ∧
    (m = 0 ∨ ord (m * (2 * (128 / 2 ^ j))) < 2 ^ j - 1 + m) ∧ m * (2 * (128 / 2 ^ j)) < 256 := by decide +kernel
theorem tabN_zero : tabN 0 = 0#32 := by decide +kernel

/-- The table when s rows are made. -/
def tabAt (s i : Nat) : BitVec 32 := if i ≠ 0 ∧ ord i < s then tabN i else 0#32
theorem tabAt_step (s i : Nat) (hs : s < 255) (hi : i < 256) : tabAt (s + 1) i = if i = idx s then tabN i else tabAt s i := by
  unfold tabAt
  by_cases h0 : i = 0
  · subst h0
    have := (chk1 s hs).2.1
    rw [if_neg (by simp), if_neg (by omega), if_neg (by simp)]
  · by_cases h : i = idx s
    · have := (chk1 s hs).1
      rw [← h] at this
      rw [if_pos ⟨h0, by omega⟩, if_pos h]
    · have h2 : ord i ≠ s := by
        intro e
        have := (chk2 i hi h0).1
        rw [e] at this
        exact h this.symm
      rw [if_neg h]
      by_cases h3 : ord i < s
      · rw [if_pos ⟨h0, by omega⟩, if_pos ⟨h0, h3⟩]
      · rw [if_neg (by omega), if_neg (by omega)]
theorem tabAt_all (i : Nat) (hi : i < 256) : tabAt 255 i = tabN i := by
  unfold tabAt
  by_cases h0 : i = 0
  · subst h0; rw [if_neg (by simp), tabN_zero]
  · rw [if_pos ⟨h0, (chk2 i hi h0).2⟩]
/-- Its cells. -/
def Arr (s : Nat) : Array Value := ((List.range 256).map fun i => Value.int .u32 (U (tabAt s i))).toArray
theorem Arr_size (s : Nat) : (Arr s).size = 256 := by simp [Arr]
theorem Arr_one (s : Nat) : ∀ v ∈ (Arr s).toList, v.oneCell' = true := by
  intro v hv
  simp only [Arr, List.mem_map] at hv
  obtain ⟨i, _, rfl⟩ := hv
  rfl
theorem Arr_get (s i : Nat) (hi : i < 256) : (Arr s)[i]? = some (.int .u32 (U (tabAt s i))) := by
  simp [Arr, hi]
theorem Arr_set (s : Nat) (hs : s < 255) : (Arr s).setIfInBounds (idx s) (.int .u32 (U (tabN (idx s)))) = Arr (s + 1) := by
  apply Array.ext
  · simp [Arr]
  · intro i h1 h2
    have hi : i < 256 := by rw [Arr_size] at h2; exact h2
    rw [Array.getElem_setIfInBounds]
    · simp only [Arr, List.getElem_toArray, List.getElem_map, List.getElem_range]
      rw [tabAt_step s i hs hi]
      by_cases h : idx s = i
      · rw [if_pos h, if_pos h.symm, h]
      · rw [if_neg h, if_neg (fun e => h e.symm)]
    · rw [Arr_size]; exact hi
theorem Arr_zero : Arr 0 = (Array.replicate 256 (Value.int .u32 0)) := by
  apply Array.ext
  · simp [Arr]
  · intro i h1 h2
    simp [Arr, tabAt]
    rfl
theorem Arr_read (j m : Nat) (hj : j < 8) (hm : m < 2 ^ j) : (Arr (2 ^ j - 1 + m))[m * (2 * (128 / 2 ^ j))]? = some (.int .u32 (U (tabN (m * (2 * (128 / 2 ^ j)))))) := by
  have hm2 : m < 128 := by
    have : 2 ^ j ≤ 2 ^ 7 := Nat.pow_le_pow_right (by omega) (by omega)
    have : (2 : Nat) ^ 7 = 128 := by decide
    omega
  obtain ⟨_, _, h3, h4⟩ := chk3 j hj m hm2 hm
  rw [Arr_get _ _ h4]
  rcases h3 with h3 | h3
  · subst h3
    simp [tabAt, tabN_zero]
  · unfold tabAt
    by_cases h0 : m * (2 * (128 / 2 ^ j)) = 0
    · rw [if_neg (by omega), h0, tabN_zero]
    · rw [if_pos ⟨h0, h3⟩]
theorem Arr_write (j m : Nat) (hj : j < 8) (hm : m < 2 ^ j) :
    (Arr (2 ^ j - 1 + m)).setIfInBounds (m * (2 * (128 / 2 ^ j)) + 128 / 2 ^ j) (.int .u32 (U (tabN (m * (2 * (128 / 2 ^ j))) ^^^ dnN (j + 1) 1#32))) = Arr (2 ^ j - 1 + (m + 1)) := by
  have hp : 2 ^ j ≤ 2 ^ 7 := Nat.pow_le_pow_right (by omega) (by omega)
  have h7 : (2 : Nat) ^ 7 = 128 := by decide
  obtain ⟨h1, h2, _, _⟩ := chk3 j hj m (by omega) hm
  rw [← h2, ← h1]
  exact Arr_set _ (by omega)

end Go.Proofs.Ytopjadmjahpeoaa

/-
  Plain mathematics of Read: a region's bytes, sector by sector.
  Conditions: none.
-/
import Derived.Test.YtiddfilhfdkogaaReg13
namespace Go.Proofs.Ytiddfilhfdkogaa
open Go.RowKit

theorem flat_len {α : Type} (f : Nat → List α) (m : Nat) : ∀ k, (∀ s, s < k → (f s).length = m) → ((List.range k).flatMap f).length = k * m
  | 0, _ => by simp
  | k + 1, h => by
    rw [List.range_succ, List.flatMap_append, List.length_append, flat_len f m k (fun s hs => h s (by omega))]
    simp only [List.flatMap_singleton]
    rw [h k (by omega), Nat.add_mul, Nat.one_mul]
theorem flat_get {α : Type} (f : Nat → List α) (m : Nat) (hm : 1 ≤ m) : ∀ k, (∀ s, s < k → (f s).length = m) → ∀ i, i < k * m → ((List.range k).flatMap f)[i]? = (f (i / m))[i % m]?
  | 0, _, i, hi => by omega
  | k + 1, h, i, hi => by
    have hl := flat_len f m k (fun s hs => h s (by omega))
    rw [List.range_succ, List.flatMap_append]
    simp only [List.flatMap_singleton]
    by_cases hk : i < k * m
    · rw [List.getElem?_append_left (by omega)]
      exact flat_get f m hm k (fun s hs => h s (by omega)) i hk
    · rw [Nat.add_mul, Nat.one_mul] at hi
      rw [List.getElem?_append_right (by omega), hl]
      have e1 : i / m = k := by
        apply Nat.div_eq_of_lt_le
        · omega
        · rw [Nat.add_mul, Nat.one_mul]; omega
      have e2 : i % m = i - k * m := by
        have := Nat.div_add_mod i m
        rw [e1, Nat.mul_comm] at this
        omega
      rw [e1, e2]
/-- A region's bytes. -/
def LogS.cont (x : LogS) (d : Dev) (q : Nat) : List (BitVec 8) := (List.range x.sectors).flatMap fun s => x.loadB d q s
/-- What is read, a piece longer. -/
theorem cont_step {α : Type} (f : Nat → List α) (m k : Nat) (hm : 1 ≤ m) (h : ∀ s, s < k → (f s).length = m) {a p p' : Nat} (ha : a ≤ p) (hp : p < k * m) (hpp : p ≤ p') (hp' : p' ≤ (p / m + 1) * m) :
    (((List.range k).flatMap f).drop a).take (p - a) ++ ((f (p / m)).drop (p % m)).take (p' - p) = (((List.range k).flatMap f).drop a).take (p' - a) := by
  have hl := flat_len f m k h
  have hg := flat_get f m hm k h
  have hpm : p / m < k := Nat.div_lt_of_lt_mul (by rw [Nat.mul_comm]; exact hp)
  have hle : (p / m + 1) * m ≤ k * m := Nat.mul_le_mul_right _ hpm
  have hdm := Nat.div_add_mod p m
  rw [Nat.mul_comm] at hdm
  rw [Nat.add_mul, Nat.one_mul] at hp' hle
  generalize (List.range k).flatMap f = C at hl hg ⊢
  apply List.ext_getElem?
  intro i
  by_cases h1 : i < p - a
  · rw [List.getElem?_append_left (by rw [List.length_take, List.length_drop]; omega), List.getElem?_take, List.getElem?_take, if_pos h1, if_pos (by omega)]
  · rw [List.getElem?_append_right (by rw [List.length_take, List.length_drop]; omega), List.length_take, List.length_drop, Nat.min_eq_left (by omega), List.getElem?_take, List.getElem?_take]
    by_cases h2 : i < p' - a
    · rw [if_pos h2, if_pos (by omega), List.getElem?_drop, List.getElem?_drop, hg (a + i) (by omega)]
      have e1 : (a + i) / m = p / m := by
        apply Nat.div_eq_of_lt_le
        · omega
        · rw [Nat.add_mul, Nat.one_mul]; omega
      have e2 : (a + i) % m = a + i - p / m * m := by
        have := Nat.div_add_mod (a + i) m
        rw [e1, Nat.mul_comm] at this
        omega
      rw [e1, e2]
      congr 1
      omega
    · rw [if_neg h2, if_neg (by omega)]
end Go.Proofs.Ytiddfilhfdkogaa

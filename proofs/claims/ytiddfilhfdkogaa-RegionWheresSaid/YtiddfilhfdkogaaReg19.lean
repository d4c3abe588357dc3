/-
  Plain mathematics: what stands on the device behind what a log writes.
  Conditions: none.
-/
import Derived.Test.YtiddfilhfdkogaaReg18
import Derived.Test.YtiddfilhfdkogaaReg8
namespace Go.Proofs.Ytiddfilhfdkogaa
open Go.RowKit

theorem cur_give (d : Dev) (k : Nat) (bs : List (BitVec 8)) (j : Nat) : (d.give k bs).act.cur j = if j = k then bs else d.cur j := by
  unfold Dev.cur Dev.give Dev.act
  simp only [List.reverse_append, List.reverse_cons, List.reverse_nil, List.nil_append, List.cons_append, List.find?_cons]
  by_cases h : j = k
  · subst h; simp
  · have h' : ¬ k = j := fun e => h e.symm
    simp [h, h']
/-- The load of a region's sector stands where it may. -/
def Stands (x : LogS) (d : Dev) (q s : Nat) (ld : List (BitVec 8)) : Prop :=
  ld.length = x.room ∧ d.cur (x.first + x.place q s) = leafB d.size 3 (x.place q s) q ld
theorem build_ok11 {x : LogS} (h : x.Ok) {d : Dev} (hon : x.On d) (hz : 96 ≤ d.size) {q s : Nat} (hs : s < x.sectors) {ld : List (BitVec 8)} (hl : ld.length = x.room) : buildErr d.size 3 (x.place q s) q ld.length = 0 := by
  have h1 := h.place_lt q hs
  have h2 := hon.size
  have h3 := h.m2
  have h4 := h.tot
  unfold buildErr sizeB kindB
  rw [hl]
  rw [if_pos (by simp; omega), if_pos ⟨by decide, by omega, by omega, by omega⟩, if_neg (by omega)]
/-- It is told. -/
theorem stands_stored {x : LogS} (h : x.Ok) {d : Dev} (hon : x.On d) (hz : 96 ≤ d.size) (hup : d.Up) {q s : Nat} (hs : s < x.sectors) (hq : (q : Int) ≤ 9223372036854775807) {ld : List (BitVec 8)} (hst : Stands x d q s ld) : x.storedE d q s = 0 ∧ x.storedB d q s = ld := by
  obtain ⟨hl, hc⟩ := hst
  obtain ⟨r1, r2, _⟩ := read_built (build_ok11 h hon hz hs hl) hq
  have hp := h.place_lt q hs
  have hse := hon.sectors
  have ea : askErr d.sectors d.down ((x.first : Int) + (x.place q s : Int)) = 0 := by
    unfold askErr
    rw [hup.down, if_neg (by decide), if_pos ⟨by omega, by omega⟩]
  have en : ((x.first : Int) + (x.place q s : Int)).toNat = x.first + x.place q s := by omega
  have eg : gotErr d ((x.first : Int) + (x.place q s : Int)) 3 (x.place q s : Int) = 0 := by
    unfold gotErr
    rw [if_pos ea, en, hc, r2, if_pos ⟨r1, rfl, rfl⟩]
  have el : gotL d ((x.first : Int) + (x.place q s : Int)) 3 (x.place q s : Int) = ⟨3, x.place q s, q, ld⟩ := by
    unfold gotL
    rw [if_pos eg, en, hc, r2]
  have e1 : x.storedE d q s = 0 := by
    unfold LogS.storedE
    rw [eg, el, if_neg (by rintro (h | ⟨_, h⟩); exact absurd h (by decide); exact h rfl)]
  refine ⟨e1, ?_⟩
  unfold LogS.storedB
  rw [if_pos e1, el]
  unfold fillTo
  rw [hl, Nat.sub_self]
  simp [zeros]
/-- Two regions that are there at once have no sector in common. -/
theorem place_apart {x : LogS} (h : x.Ok) {q q' s s' : Nat} (hs : s < x.sectors) (hs' : s' < x.sectors) (hq : q ≤ q') (hd : q' < q + x.regions) (he : x.place q s = x.place q' s') : q = q' ∧ s = s' := by
  unfold LogS.place at he
  have e1 : q % x.regions = q' % x.regions := by
    have h1 : (q % x.regions * x.sectors + s) / x.sectors = q % x.regions := by
      rw [Nat.mul_comm, Nat.mul_add_div (by omega), Nat.div_eq_of_lt hs, Nat.add_zero]
    have h2 : (q' % x.regions * x.sectors + s') / x.sectors = q' % x.regions := by
      rw [Nat.mul_comm, Nat.mul_add_div (by omega), Nat.div_eq_of_lt hs', Nat.add_zero]
    rw [← h1, ← h2, he]
  refine ⟨?_, by rw [e1] at he; omega⟩
  obtain ⟨t, ht⟩ : ∃ t, q' = q + t := ⟨q' - q, by omega⟩
  subst ht
  have ht : t < x.regions := by omega
  have hr := h.r1
  have e2 := Nat.add_mod q t x.regions
  rw [← e1, Nat.mod_eq_of_lt ht] at e2
  have h3 := Nat.mod_lt q (show 0 < x.regions by omega)
  generalize q % x.regions = r at e2 h3
  by_cases hc : r + t < x.regions
  · have e3 := Nat.mod_eq_of_lt hc
    omega
  · have e3 : (r + t) % x.regions = r + t - x.regions := by
      rw [Nat.mod_eq_sub_mod (by omega)]
      exact Nat.mod_eq_of_lt (by omega)
    omega
end Go.Proofs.Ytiddfilhfdkogaa

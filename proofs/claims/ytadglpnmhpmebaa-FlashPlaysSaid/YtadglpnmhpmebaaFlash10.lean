/-
  flash: a write put behind the others.
  Conditions: none.
-/
import Derived.Test.YtadglpnmhpmebaaFlash9
namespace Go.Proofs.Ytadglpnmhpmebaa
open Go.RowKit

/-- A write put behind the others, and into the sector's past. -/
def Dev.give (d : Dev) (k : Nat) (bs : List (BitVec 8)) : Dev := { d with past := fun j => if j = k then d.past j ++ [bs] else d.past j, loose := d.loose ++ [(k, bs)] }

theorem RowsIn.own {n₀ : Nat} {O : Foot} {w : World} {v : Value} {l : List (List (BitVec 8))} (h : RowsIn n₀ O w v l) {g : Nat} (hg : v.ownBlock = some g) : NoBytes w g := by
  obtain ⟨cs, h1, _⟩ := h
  exact noBytes_row h1 (by decide) hg
theorem LooseIn.own {n₀ : Nat} {O : Foot} {w : World} {v : Value} {l : List (Nat × List (BitVec 8))} (h : LooseIn n₀ O w v l) {g : Nat} (hg : v.ownBlock = some g) : NoBytes w g := by
  obtain ⟨cs, h1, _⟩ := h
  exact noBytes_row h1 (by decide) hg
/-- What a write may turn. -/
def giveX (D P L : Nat) (pv lv : Value) : Foot := fun j => j = D ∨ j = P ∨ j = L ∨ pv.ownBlock = some j ∨ lv.ownBlock = some j

theorem rows_apart {n₀ : Nat} {w : World} {v v' : Value} {e e' : TypeId} {size size' n n' : Nat} {xs xs' : List Value} (h : w.ownsRow n₀ e size v n xs) (h' : w.ownsRow n₀ e' size' v' n' xs') (hne : e ≠ e') {g : Nat} (hg : v.ownBlock = some g) : v'.ownBlock ≠ some g := by
  rcases h.2 with ⟨rfl, _⟩ | ⟨g1, cap, cur, rfl, _, hh, _⟩
  · simp [Value.ownBlock] at hg
  · obtain rfl : g1 = g := by simpa [Value.ownBlock] using hg
    rcases h'.2 with ⟨rfl, _⟩ | ⟨g2, cap2, cur2, rfl, _, hh2, _⟩
    · simp [Value.ownBlock]
    · intro e2
      obtain rfl : g2 = g1 := by simpa [Value.ownBlock] using e2
      rw [hh] at hh2
      simp only [Option.some.injEq, Obj.cells.injEq] at hh2
      exact hne hh2.2.1
theorem loose_ne_dev {n₀ : Nat} {O : Foot} {w : World} {D F P L : Nat} {lv : Value} {fm pm lm : List (Int × Value)} {d : Dev} (h : DevParts n₀ O w D F P L lv fm pm lm d) : lv.ownBlock ≠ some D := by
  obtain ⟨cs, h1, _⟩ := h.loose
  exact own_ne h1 h.blk (by decide)
theorem loose_ne_map {n₀ : Nat} {O : Foot} {w : World} {v : Value} {l : List (Nat × List (BitVec 8))} {g : Nat} {m : List (Int × Value)} (h : LooseIn n₀ O w v l) (hm : MapIs w g m) : v.ownBlock ≠ some g := by
  obtain ⟨cs, h1, _⟩ := h
  exact hm.noRow h1

theorem DevParts.pastOf {n₀ : Nat} {O : Foot} {w : World} {D F P L : Nat} {lv : Value} {fm pm lm : List (Int × Value)} {d : Dev} (h : DevParts n₀ O w D F P L lv fm pm lm d) (k : Nat) (hk : k < d.sectors) : RowsIn n₀ O w ((mget pm k).getD (.slice none 0 0)) (d.past k) := by
  rcases h.past k hk with ⟨h1, h2⟩ | ⟨v, h1, h2⟩
  · rw [h1, h2]
    exact ⟨[], World.ownsRow_nil _ _ _ _, (fun k e => by cases e), (fun i x hx => by simp at hx)⟩
  · rw [h1]
    exact h2

theorem DevParts.give {n₀ : Nat} {O O' : Foot} {w w' : World} {D F P L : Nat} {lv lv' pv pv' : Value} {fm pm lm : List (Int × Value)} {d : Dev} (h : DevParts n₀ O w D F P L lv fm pm lm d) (k : Nat) (hk : k < d.sectors) (bs : List (BitVec 8)) (hlen : bs.length = d.size)
    (hpv : (mget pm k).getD (.slice none 0 0) = pv) (hm : Moves (giveX D P L pv lv) w w') (hO : ∀ j, O j → O' j) (hin : Foot.In O' w') (hlo : ∀ j, O' j → n₀ ≤ j)
    (hb : DevBlk w' D d.sectors d.size F P lv' L d.armed d.acts d.down) (hP : MapIs w' P (mset pm k pv')) (hL : MapIs w' L (mset lm k (.int .i64 (d.loose.length : Int))))
    (hrow : RowsIn n₀ O' w' pv' (d.past k ++ [bs])) (hat : pv'.ownBlock = pv.ownBlock ∨ ∀ g, pv'.ownBlock = some g → w.heap.size ≤ g) (hloose : LooseIn n₀ O' w' lv' (d.loose ++ [(k, bs)])) :
    DevParts n₀ O' w' D F P L lv' fm (mset pm k pv') (mset lm k (.int .i64 (d.loose.length : Int))) (d.give k bs) := by
  have hpr : RowsIn n₀ O w pv (d.past k) := by rw [← hpv]; exact h.pastOf k hk
  have hX : ∀ j, giveX D P L pv lv j → NoBytes w j := fun j hj => by
    rcases hj with rfl | rfl | rfl | hj | hj
    · exact noBytes_dev h
    · exact noBytes_map h.mP
    · exact noBytes_map h.mL
    · exact hpr.own hj
    · exact h.loose.own hj
  have hFX : ¬ giveX D P L pv lv F := fun hj => by
    rcases hj with e | e | e | hj | hj
    · exact dev_ne_map h h.mF e
    · exact h.apart.1 e
    · exact h.apart.2.1 e
    · exact rows_ne_map hpr h.mF hj
    · exact loose_ne_map h.loose h.mF hj
  have hother : ∀ (j : Int) v, j ≠ (k : Int) → mget pm j = some v → ∀ g, v.ownBlock = some g → g < w.heap.size ∧ ¬ giveX D P L pv lv g := by
    intro j v hjk hv g hg
    obtain ⟨j', hj', rfl⟩ : ∃ j' : Nat, j' < d.sectors ∧ j = j' := by
      have : ∀ {m : List (Int × Value)}, KeysIn m d.sectors → mget m j = some v → ∃ j' : Nat, j' < d.sectors ∧ j = j' := by
        intro m
        induction m with
        | nil => intro _ h; cases h
        | cons p m ih =>
          intro hk h
          unfold mget at h
          split at h
          · rename_i e
            obtain ⟨a, ha, e2⟩ := hk p (by simp)
            exact ⟨a, ha, by rw [← e, e2]⟩
          · exact ih (fun q hq => hk q (by simp [hq])) h
      exact this h.kP hv
    have hr : RowsIn n₀ O w v (d.past j') := by
      rcases h.past j' hj' with ⟨h1, _⟩ | ⟨v2, h1, h2⟩
      · rw [h1] at hv; cases hv
      · rw [h1] at hv; cases hv; exact h2
    have hin2 := h.inn
    obtain ⟨cs, hr1, hr2, _⟩ := hr
    refine ⟨hin2 g (hr2 g hg), fun hx => ?_⟩
    rcases hx with rfl | rfl | rfl | hx | hx
    · exact own_ne hr1 h.blk (by decide) hg
    · exact h.mP.noRow hr1 hg
    · exact h.mL.noRow hr1 hg
    · cases hg2 : mget pm k with
      | none => rw [hg2] at hpv; subst hpv; simp [Value.ownBlock] at hx
      | some u =>
        rw [hg2] at hpv
        subst hpv
        exact hjk (h.rows _ _ _ _ g hv hg2 hg hx)
    · obtain ⟨cs2, hl1, _⟩ := h.loose
      exact rows_apart hr1 hl1 (by decide) hg hx
  exact
    { blk := hb
      mF := h.mF.same (hm.block _ h.mF.lt hFX)
      mP := hP
      mL := hL
      oD := hO _ h.oD, oF := hO _ h.oF, oP := hO _ h.oP, oL := hO _ h.oL, apart := h.apart
      inn := hin, lo := hlo, right := h.right, kF := h.kF
      kP := keys_set h.kP hk
      kL := keys_set h.kL hk
      len := h.len
      fast := fun j hj => (h.fast j hj).imp id fun ⟨v, h1, h2⟩ => ⟨v, h1, (bytes_moves hm hX h2).mono hO⟩
      plen := fun j x hx => by
        by_cases e : j = k
        · simp [Dev.give, e] at hx
          rcases hx with hx | rfl
          · exact h.plen k x hx
          · exact hlen
        · simp [Dev.give, e] at hx
          exact h.plen j x hx
      past := fun j hj => by
        by_cases e : j = k
        · subst e
          right
          refine ⟨pv', by rw [mget_mset, if_pos rfl], ?_⟩
          simpa [Dev.give] using hrow
        · rw [mget_mset, if_neg (by omega)]
          have e2 : (d.give k bs).past j = d.past j := by simp [Dev.give, e]
          rw [e2]
          exact (h.past j hj).imp id fun ⟨v, h1, h2⟩ => ⟨v, h1, (rows_moves hm hX h2 (fun g hg => (hother j v (by omega) h1 g hg).2)).wide hO⟩
      rows := fun i j u v g hu hv hgu hgv => by
        rw [mget_mset] at hu hv
        have hnew : ∀ (j : Int) v, j ≠ (k : Int) → mget pm j = some v → v.ownBlock = some g → pv'.ownBlock ≠ some g := by
          intro j v hjk hv hgv hg
          have ho := hother j v hjk hv g hgv
          rcases hat with h1 | h1
          · exact ho.2 (.inr (.inr (.inr (.inl (h1.symm.trans hg)))))
          · have := h1 g hg; omega
        by_cases hi : (k : Int) = i
        · by_cases hj : (k : Int) = j
          · omega
          · rw [if_pos hi] at hu
            rw [if_neg hj] at hv
            cases hu
            exact absurd hgu (hnew j v (by omega) hv hgv)
        · rw [if_neg hi] at hu
          by_cases hj : (k : Int) = j
          · rw [if_pos hj] at hv
            cases hv
            exact absurd hgv (hnew i u (by omega) hu hgu)
          · rw [if_neg hj] at hv
            exact h.rows i j u v g hu hv hgu hgv
      loose := hloose
      llen := fun x hx => by
        simp [Dev.give] at hx
        rcases hx with hx | rfl
        · exact h.llen x hx
        · exact ⟨hk, hlen⟩
      last := fun j hj => by
        rw [mget_mset]
        have el : (d.give k bs).loose = d.loose ++ [(k, bs)] := rfl
        rw [el]
        by_cases e : j = k
        · subst e
          right
          refine ⟨d.loose.length, bs, by rw [if_pos rfl], by simp, fun i x hi hx => ?_⟩
          have := (List.getElem?_eq_some_iff.1 hx).1
          simp at this
          omega
        · rw [if_neg (by omega)]
          rcases h.last j hj with ⟨h1, h2⟩ | ⟨i, bs2, h1, h2, h3⟩
          · left
            refine ⟨h1, fun x hx => ?_⟩
            simp at hx
            rcases hx with hx | rfl
            · exact h2 x hx
            · exact fun e2 => e e2.symm
          · right
            have hlt := (List.getElem?_eq_some_iff.1 h2).1
            refine ⟨i, bs2, h1, by rw [List.getElem?_append_left hlt]; exact h2, fun i' x hi hx => ?_⟩
            by_cases hl : i' < d.loose.length
            · rw [List.getElem?_append_left hl] at hx
              exact h3 i' x hi hx
            · rw [List.getElem?_append_right (by omega)] at hx
              have : i' - d.loose.length = 0 := by
                have := (List.getElem?_eq_some_iff.1 hx).1
                simp at this
                omega
              rw [this] at hx
              simp at hx
              subst hx
              exact fun e2 => e e2.symm }

end Go.Proofs.Ytadglpnmhpmebaa

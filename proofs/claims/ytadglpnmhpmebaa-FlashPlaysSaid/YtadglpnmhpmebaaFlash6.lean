/-
  flash: act upon a device, forgetLoose, Rot.
  Conditions: none.
-/
import Derived.Test.YtadglpnmhpmebaaFlash5
namespace Go.Proofs.Ytadglpnmhpmebaa
open Go.RowKit

/-- A write or a sync counted. -/
def Dev.act (d : Dev) : Dev := { d with armed := d.armed - 1, acts := d.acts + 1, down := if d.armed = 1 then true else d.down }
def Dev.forget (d : Dev) : Dev := { d with loose := [] }
section
variable {n₀ : Nat} {O : Foot} {w : World} {D : Nat} {d : Dev}
theorem act_parts {F P L : Nat} {lv : Value} {fm pm lm : List (Int × Value)} (h : DevParts n₀ O w D F P L lv fm pm lm d) (h2 : d.acts < 9223372036854775807) (h3 : d.armed ≤ 9223372036854775807) :
    Calls Try.prog 33 #[.pointer (some ⟨D, 0, none⟩)] w fun e w' => e = .returned (.int .i64 (if d.armed = 1 then 4 else 0)) ∧ DevParts n₀ O w' D F P L lv fm pm lm d.act ∧ Moves (fun k => k = D) w w' := by
  refine (act_any h.blk (by omega) (by omega) (by omega) (by omega)).mono fun e w' ⟨he, hb, hm, _⟩ => ?_
  have e1 : ((d.armed : Int) = 1) = (d.armed = 1) := by rw [eq_iff_iff]; omega
  simp only [e1] at he hb
  have e2 : (if (d.armed : Int) = 0 then 0 else (d.armed : Int) - 1) = ((d.armed - 1 : Nat) : Int) := by split <;> omega
  rw [e2] at hb
  exact ⟨he, h.turn hm (d.armed - 1) (d.acts + 1) (if d.armed = 1 then true else d.down) hb, hm⟩
theorem act_dev (h : DevAt n₀ O w D d) (h2 : d.acts < 9223372036854775807) (h3 : d.armed ≤ 9223372036854775807) :
    Calls Try.prog 33 #[.pointer (some ⟨D, 0, none⟩)] w fun e w' => e = .returned (.int .i64 (if d.armed = 1 then 4 else 0)) ∧ DevAt n₀ O w' D d.act ∧ Step O O w w' := by
  obtain ⟨F, P, L, lv, fm, pm, lm, h⟩ := h
  refine (act_any h.blk (by omega) (by omega) (by omega) (by omega)).mono fun e w' ⟨he, hb, hm, _⟩ => ?_
  have e1 : ((d.armed : Int) = 1) = (d.armed = 1) := by rw [eq_iff_iff]; omega
  simp only [e1] at he hb
  have e2 : (if (d.armed : Int) = 0 then 0 else (d.armed : Int) - 1) = ((d.armed - 1 : Nat) : Int) := by split <;> omega
  rw [e2] at hb
  refine ⟨he, ⟨F, P, L, lv, fm, pm, lm, h.turn hm (d.armed - 1) (d.acts + 1) (if d.armed = 1 then true else d.down) hb⟩, hm.mono (fun i _ e => by rw [e]; exact h.oD), fun _ hk => .inl hk⟩
end

theorem noBytes_dev {n₀ : Nat} {O : Foot} {w : World} {D F P L : Nat} {lv : Value} {fm pm lm : List (Int × Value)} {d : Dev} (h : DevParts n₀ O w D F P L lv fm pm lm d) : NoBytes w D := noBytes_cells h.blk (by decide)
/-- Bytes stand through what is written to blocks in which none stand. -/
theorem bytes_moves {O X : Foot} {w w2 : World} (hm : Moves X w w2) (hX : ∀ k, X k → NoBytes w k) {v : Value} {bs : List (BitVec 8)} (h : BytesIn O w v bs) : BytesIn O w2 v bs :=
  ⟨(h.1.keep fun hne _ hp hlt => hm.cell hlt fun hx => hX _ hx (h.2 hne _ hp).2).mono hm.size, fun hne k e => by
    obtain ⟨h1, cs, z, h2⟩ := h.2 hne k e
    exact ⟨h1, cs, z, (hm.block k (blk_lt h2) fun hx => hX _ hx ⟨cs, z, h2⟩).trans h2⟩⟩
theorem rows_moves {n₀ : Nat} {O X : Foot} {w w2 : World} (hm : Moves X w w2) (hX : ∀ k, X k → NoBytes w k) {v : Value} {l : List (List (BitVec 8))} (h : RowsIn n₀ O w v l) (hv : ∀ k, v.ownBlock = some k → ¬ X k) : RowsIn n₀ O w2 v l := by
  obtain ⟨cs, h1, h2, h3⟩ := h
  refine ⟨cs, hm.row h1 hv, h2, fun i x hx => ?_⟩
  obtain ⟨u, hu, hb⟩ := h3 i x hx
  exact ⟨u, hu, bytes_moves hm hX hb⟩
theorem rows_ne_map {n₀ : Nat} {O : Foot} {w : World} {v : Value} {l : List (List (BitVec 8))} {g : Nat} {m : List (Int × Value)} (h : RowsIn n₀ O w v l) (hm : MapIs w g m) : v.ownBlock ≠ some g := by
  obtain ⟨cs, h1, _⟩ := h
  exact hm.noRow h1
theorem rows_ne_dev {n₀ : Nat} {O : Foot} {w : World} {v : Value} {l : List (List (BitVec 8))} {D F P L : Nat} {lv : Value} {fm pm lm : List (Int × Value)} {d : Dev} (h : RowsIn n₀ O w v l) (hd : DevParts n₀ O w D F P L lv fm pm lm d) : v.ownBlock ≠ some D := by
  obtain ⟨cs, h1, _⟩ := h
  exact own_ne h1 hd.blk (by decide)
theorem dev_ne_map {n₀ : Nat} {O : Foot} {w : World} {D F P L : Nat} {lv : Value} {fm pm lm : List (Int × Value)} {d : Dev} (h : DevParts n₀ O w D F P L lv fm pm lm d) {g : Nat} {m : List (Int × Value)} (hm : MapIs w g m) : g ≠ D := fun e => by
  subst e
  obtain ⟨_, es, c, hb, _⟩ := hm
  have := h.blk
  unfold DevBlk at this
  rw [hb] at this; cases this

set_option maxHeartbeats 1000000 in
theorem forget_any (n₀ : Nat) (O : Foot) (w : World) (D : Nat) (d : Dev) (h : DevAt n₀ O w D d) :
    Calls Try.prog 35 #[.pointer (some ⟨D, 0, none⟩)] w fun e w' => e = .returned (.tuple #[]) ∧ DevAt n₀ O w' D d.forget ∧ Step O O w w' := by
  obtain ⟨F, P, L, lv, fm, pm, lm, h⟩ := h
  have c4 : w.cell? ⟨D, 4, none⟩ = some lv := blk_cell h.blk 4
  have c5 : w.cell? ⟨D, 5, none⟩ = some (.map (some L)) := blk_cell h.blk 5
  have f4 : w.frozen? ⟨D, 4, none⟩ = false := blk_frozen h.blk 4
  have hLD := dev_ne_map h h.mL
  have hm1 : Moves (fun k => k = D ∨ k = L) w (w.setCell ⟨D, 4, none⟩ (.slice none 0 0)) := (Moves.refl (fun k => k = D ∨ k = L) w).setCell (p := ⟨D, 4, none⟩) (fun _ => .inl rfl) _
  have hL1 : MapIs (w.setCell ⟨D, 4, none⟩ (.slice none 0 0)) L lm := h.mL.same (Below.heap_setCell _ _ _ _ hLD)
  obtain ⟨es, c, hclr, hL2⟩ := run_clear_int (P := Try.prog) Try.underlying65 hL1
  have hm2 : Moves (fun k => k = D ∨ k = L) w ((w.setCell ⟨D, 4, none⟩ (.slice none 0 0)).putObj L (.map es c)) := hm1.trans ((put_moves _ L (.map es c)).mono (T := fun k => k = D ∨ k = L) (fun i _ e => .inr e)) (fun _ _ e => e)
  have hX : ∀ k, (k = D ∨ k = L) → NoBytes w k := fun k hk => by
    rcases hk with rfl | rfl
    · exact noBytes_dev h
    · exact noBytes_map h.mL
  have hmap : ∀ {g : Nat} {m : List (Int × Value)}, MapIs w g m → g ≠ L → MapIs ((w.setCell ⟨D, 4, none⟩ (.slice none 0 0)).putObj L (.map es c)) g m := fun hg hne => hg.same (hm2.block _ hg.lt (fun e => e.elim (dev_ne_map h hg) hne))
  have hfin : DevAt n₀ O ((w.setCell ⟨D, 4, none⟩ (.slice none 0 0)).putObj L (.map es c)) D d.forget ∧ Step O O w ((w.setCell ⟨D, 4, none⟩ (.slice none 0 0)).putObj L (.map es c)) := by
    refine ⟨⟨F, P, L, .slice none 0 0, fm, pm, [], ?_⟩, hm2.mono (fun i _ e => e.elim (fun e => by rw [e]; exact h.oD) (fun e => by rw [e]; exact h.oL)), fun _ hk => .inl hk⟩
    exact
      { blk := (put_other hLD.symm).trans (devSet h.blk 4 _)
        mF := hmap h.mF h.apart.2.1
        mP := hmap h.mP h.apart.2.2
        mL := hL2
        oD := h.oD, oF := h.oF, oP := h.oP, oL := h.oL, apart := h.apart
        inn := fun k hk => Nat.lt_of_lt_of_le (h.inn k hk) hm2.size
        lo := h.lo, right := h.right, kF := h.kF, kP := h.kP
        kL := fun p hp => by cases hp
        len := h.len
        fast := fun k hk => (h.fast k hk).imp id fun ⟨v, h1, h2⟩ => ⟨v, h1, bytes_moves hm2 hX h2⟩
        plen := h.plen
        past := fun k hk => (h.past k hk).imp id fun ⟨v, h1, h2⟩ => ⟨v, h1, rows_moves hm2 hX h2 (fun j e hj => hj.elim (fun ej => rows_ne_dev h2 h (by rw [← ej]; exact e)) (fun ej => rows_ne_map h2 h.mL (by rw [← ej]; exact e)))⟩
        rows := h.rows
        loose := ⟨[], World.ownsRow_nil _ _ _ _, (fun k e => by cases e), (fun i x hx => by simp [Dev.forget] at hx)⟩
        llen := fun x hx => by cases hx
        last := fun k _ => .inl ⟨rfl, fun x hx => by cases hx⟩ }
  have HF := Lib.hid hfin
  clear h hm1 hL1 hL2 hm2 hX hmap hfin
  have hLD2 : D ≠ L := hLD.symm
  go_enter Try.func35, Try.ntmps35
  go_wp2
  go_end0
  exact ⟨rfl, HF.out⟩

end Go.Proofs.Ytadglpnmhpmebaa

/-
  flash: Sectors, Size, Down, Loose, Acts, Arm, done, and of none.
  Conditions: none.
-/
import Derived.Test.YtopjadmjahpeoaaFlash4
namespace Go.Proofs.Ytopjadmjahpeoaa
open Go.RowKit

section
variable {n₀ : Nat} {O : Foot} {w : World} {D : Nat} {d : Dev}
theorem sectors_any (h : DevAt n₀ O w D d) : Calls Try.prog 59 #[.pointer (some ⟨D, 0, none⟩)] w fun e w' => e = .returned (.int .i64 d.sectors) ∧ w = w' := by
  obtain ⟨F, P, L, lv, fm, pm, lm, h⟩ := h
  have c0 : w.cell? ⟨D, 0, none⟩ = some (.int .i64 d.sectors) := blk_cell h.blk 0
  clear h
  go_enter Try.func59, Try.ntmps59
  go_wp2
  go_ret
  exact ⟨rfl, rfl⟩
theorem fsize_any (h : DevAt n₀ O w D d) : Calls Try.prog 39 #[.pointer (some ⟨D, 0, none⟩)] w fun e w' => e = .returned (.int .i64 d.size) ∧ w = w' := by
  obtain ⟨F, P, L, lv, fm, pm, lm, h⟩ := h
  have c0 : w.cell? ⟨D, 1, none⟩ = some (.int .i64 d.size) := blk_cell h.blk 1
  clear h
  go_enter Try.func39, Try.ntmps39
  go_wp2
  go_ret
  exact ⟨rfl, rfl⟩
/-- A cell of the device's own block turned, other than those that name its parts. -/
theorem DevParts.turn {F P L : Nat} {lv : Value} {fm pm lm : List (Int × Value)} (h : DevParts n₀ O w D F P L lv fm pm lm d) {w' : World} (hm : Moves (fun k => k = D) w w') (armed acts : Nat) (down : Bool) (hb : DevBlk w' D d.sectors d.size F P lv L armed acts down) :
    DevParts n₀ O w' D F P L lv fm pm lm { d with armed := armed, acts := acts, down := down } := by
  have hs : Same (fun k => O k ∧ k ≠ D) w w' := ⟨hm.size, fun k hk => hm.block k (h.inn k hk.1) hk.2⟩
  have hw : ∀ k, (O k ∧ k ≠ D) → O k := fun k h => h.1
  have hnc : NoBytes w D := noBytes_cells h.blk (by decide)
  have hby : ∀ {v : Value} {bs : List (BitVec 8)}, BytesIn O w v bs → BytesIn O w' v bs := fun hbb => (hs.bytes ⟨hbb.1, fun hne k e => ⟨⟨(hbb.2 hne k e).1, fun ek => hnc (ek ▸ (hbb.2 hne k e).2)⟩, (hbb.2 hne k e).2⟩⟩).mono hw
  have hrow : ∀ {e : TypeId} {size n : Nat} {v : Value} {xs : List Value}, e ≠ 84 → (∀ k, v.ownBlock = some k → O k) → w.ownsRow n₀ e size v n xs → w'.ownsRow n₀ e size v n xs := fun he ho hr => hs.row hr (fun k ek => ⟨ho k ek, fun ekD => by subst ekD; exact own_ne hr h.blk he ek⟩)
  have hmap : ∀ {b : Nat} {m : List (Int × Value)}, MapIs w b m → O b → MapIs w' b m := fun hmb ho => hs.map hmb ⟨ho, fun e => by
    subst e
    obtain ⟨_, es, c, hbb, _⟩ := hmb
    have := h.blk
    unfold DevBlk at this
    rw [hbb] at this; cases this⟩
  exact
    { blk := hb
      mF := hmap h.mF h.oF
      mP := hmap h.mP h.oP
      mL := hmap h.mL h.oL
      oD := h.oD, oF := h.oF, oP := h.oP, oL := h.oL, apart := h.apart
      inn := fun k hk => Nat.lt_of_lt_of_le (h.inn k hk) hm.size
      lo := h.lo, right := h.right, kF := h.kF, kP := h.kP, kL := h.kL, len := h.len
      fast := fun k hk => (h.fast k hk).imp id fun ⟨v, h1, h2⟩ => ⟨v, h1, hby h2⟩
      plen := h.plen
      past := fun k hk => (h.past k hk).imp id fun ⟨v, h1, h2⟩ => ⟨v, h1, by
        obtain ⟨cs, h3, h4, h5⟩ := h2
        refine ⟨cs, hrow (by decide) h4 h3, h4, fun i x hx => ?_⟩
        obtain ⟨u, hu, hb⟩ := h5 i x hx
        exact ⟨u, hu, hby hb⟩⟩
      rows := h.rows
      loose := by
        obtain ⟨cs, h3, h4, h5⟩ := h.loose
        refine ⟨cs, hrow (by decide) h4 h3, h4, fun i x hx => ?_⟩
        obtain ⟨h0, u, hu, hb⟩ := h5 i x hx
        exact ⟨h0, u, hu, hby hb⟩
      llen := h.llen
      last := h.last }

end

end Go.Proofs.Ytopjadmjahpeoaa

/-
  flash: Sectors, Size, Down, Loose, Acts, Arm, done, and of none.
  Conditions: none.
-/
import Derived.Test.YtadglpnmhpmebaaFlash4
namespace Go.Proofs.Ytadglpnmhpmebaa
open Go.RowKit

section
variable {n₀ : Nat} {O : Foot} {w : World} {D : Nat} {d : Dev}
theorem sectors_any (h : DevAt n₀ O w D d) : Calls Try.prog 8 #[.pointer (some ⟨D, 0, none⟩)] w fun e w' => e = .returned (.int .i64 d.sectors) ∧ w = w' := by
  obtain ⟨F, P, L, lv, fm, pm, lm, h⟩ := h
  have c0 : w.cell? ⟨D, 0, none⟩ = some (.int .i64 d.sectors) := blk_cell h.blk 0
  clear h
  go_enter Try.func8, Try.ntmps8
  go_wp2
  go_ret
  exact ⟨rfl, rfl⟩
theorem fsize_any (h : DevAt n₀ O w D d) : Calls Try.prog 9 #[.pointer (some ⟨D, 0, none⟩)] w fun e w' => e = .returned (.int .i64 d.size) ∧ w = w' := by
  obtain ⟨F, P, L, lv, fm, pm, lm, h⟩ := h
  have c0 : w.cell? ⟨D, 1, none⟩ = some (.int .i64 d.size) := blk_cell h.blk 1
  clear h
  go_enter Try.func9, Try.ntmps9
  go_wp2
  go_ret
  exact ⟨rfl, rfl⟩
theorem acts_any (h : DevAt n₀ O w D d) : Calls Try.prog 26 #[.pointer (some ⟨D, 0, none⟩)] w fun e w' => e = .returned (.int .i64 d.acts) ∧ w = w' := by
  obtain ⟨F, P, L, lv, fm, pm, lm, h⟩ := h
  have c0 : w.cell? ⟨D, 7, none⟩ = some (.int .i64 d.acts) := blk_cell h.blk 7
  clear h
  go_enter Try.func26, Try.ntmps26
  go_wp2
  go_ret
  exact ⟨rfl, rfl⟩
theorem fdown_any (h : DevAt n₀ O w D d) : Calls Try.prog 24 #[.pointer (some ⟨D, 0, none⟩)] w fun e w' => e = .returned (.bool d.down) ∧ w = w' := by
  obtain ⟨F, P, L, lv, fm, pm, lm, h⟩ := h
  have c0 : w.cell? ⟨D, 8, none⟩ = some (.bool d.down) := blk_cell h.blk 8
  clear h
  go_enter Try.func24, Try.ntmps24
  go_wp2
  go_ret
  exact ⟨rfl, rfl⟩
theorem loose_any (h : DevAt n₀ O w D d) : Calls Try.prog 25 #[.pointer (some ⟨D, 0, none⟩)] w fun e w' => e = .returned (.int .i64 d.loose.length) ∧ w = w' := by
  obtain ⟨F, P, L, lv, fm, pm, lm, h⟩ := h
  have c0 : w.cell? ⟨D, 4, none⟩ = some lv := blk_cell h.blk 4
  obtain ⟨cs, hrow, _⟩ := h.loose
  obtain ⟨a, c, rfl⟩ := owns_slice hrow
  clear h hrow
  go_enter Try.func25, Try.ntmps25
  go_wp2
  go_ret
  exact ⟨rfl, rfl⟩

/-- A cell of the device's own block turned, other than those that name its parts. -/
theorem DevParts.turn {F P L : Nat} {lv : Value} {fm pm lm : List (Int × Value)} (h : DevParts n₀ O w D F P L lv fm pm lm d) {w' : World} (hm : Moves (fun k => k = D) w w') (armed acts : Nat) (down : Bool) (hb : DevBlk w' D d.sectors d.size F P lv L armed acts down) :
    DevParts n₀ O w' D F P L lv fm pm lm { d with armed := armed, acts := acts, down := down } := by
  have hs : Same (fun k => O k ∧ k ≠ D) w w' := ⟨hm.size, fun k hk => hm.block k (h.inn k hk.1) hk.2⟩
  have hw : ∀ k, (O k ∧ k ≠ D) → O k := fun k h => h.1
  have hnc : NoBytes w D := noBytes_cells h.blk (by decide)
  have hby : ∀ {v : Value} {bs : List (BitVec 8)}, BytesIn O w v bs → BytesIn O w' v bs := fun hbb => (hs.bytes ⟨hbb.1, fun hne k e => ⟨⟨(hbb.2 hne k e).1, fun ek => hnc (ek ▸ (hbb.2 hne k e).2)⟩, (hbb.2 hne k e).2⟩⟩).mono hw
  have hrow : ∀ {e : TypeId} {size n : Nat} {v : Value} {xs : List Value}, e ≠ 68 → (∀ k, v.ownBlock = some k → O k) → w.ownsRow n₀ e size v n xs → w'.ownsRow n₀ e size v n xs := fun he ho hr => hs.row hr (fun k ek => ⟨ho k ek, fun ekD => by subst ekD; exact own_ne hr h.blk he ek⟩)
  have hmap : ∀ {b : Nat} {m : List (Int × Value)}, MapIs w b m → O b → MapIs w' b m := fun hmb ho => hs.map hmb ⟨ho, fun e => by
    subst e
    obtain ⟨_, es, c, hbb, _⟩ := hmb
    have := h.blk
    unfold DevBlk at this
    rw [hbb] at this; cases this⟩
  exact
    { blk := hb
      mF := hmap h.mF h.oF
      mP := hmap h.mP h.oP
      mL := hmap h.mL h.oL
      oD := h.oD, oF := h.oF, oP := h.oP, oL := h.oL, apart := h.apart
      inn := fun k hk => Nat.lt_of_lt_of_le (h.inn k hk) hm.size
      lo := h.lo, right := h.right, kF := h.kF, kP := h.kP, kL := h.kL, len := h.len
      fast := fun k hk => (h.fast k hk).imp id fun ⟨v, h1, h2⟩ => ⟨v, h1, hby h2⟩
      plen := h.plen
      past := fun k hk => (h.past k hk).imp id fun ⟨v, h1, h2⟩ => ⟨v, h1, by
        obtain ⟨cs, h3, h4, h5⟩ := h2
        refine ⟨cs, hrow (by decide) h4 h3, h4, fun i x hx => ?_⟩
        obtain ⟨u, hu, hb⟩ := h5 i x hx
        exact ⟨u, hu, hby hb⟩⟩
      rows := h.rows
      loose := by
        obtain ⟨cs, h3, h4, h5⟩ := h.loose
        refine ⟨cs, hrow (by decide) h4 h3, h4, fun i x hx => ?_⟩
        obtain ⟨h0, u, hu, hb⟩ := h5 i x hx
        exact ⟨h0, u, hu, hby hb⟩
      llen := h.llen
      last := h.last }

theorem arm_any (h : DevAt n₀ O w D d) (n : Int) : Calls Try.prog 16 #[.pointer (some ⟨D, 0, none⟩), .int .i64 n] w fun e w' => e = .returned (.tuple #[]) ∧ DevAt n₀ O w' D { d with armed := n.toNat } ∧ Step O O w w' := by
  obtain ⟨F, P, L, lv, fm, pm, lm, h⟩ := h
  have c6 : w.cell? ⟨D, 6, none⟩ = some (.int .i64 d.armed) := blk_cell h.blk 6
  have f6 : w.frozen? ⟨D, 6, none⟩ = false := blk_frozen h.blk 6
  have hm : ∀ v, Moves (fun k => k = D) w (w.setCell ⟨D, 6, none⟩ v) := fun v => (Moves.refl (fun k => k = D) w).setCell (p := ⟨D, 6, none⟩) (fun _ => rfl) v
  have hfin : DevAt n₀ O (w.setCell ⟨D, 6, none⟩ (.int .i64 (n.toNat : Int))) D { d with armed := n.toNat } ∧ Step O O w (w.setCell ⟨D, 6, none⟩ (.int .i64 (n.toNat : Int))) :=
    ⟨⟨F, P, L, lv, fm, pm, lm, h.turn (hm _) n.toNat d.acts d.down (devSet h.blk 6 _)⟩, ⟨(hm _).mono (fun i _ e => by rw [e]; exact h.oD), fun _ hk => .inl hk⟩⟩
  have HF := Lib.hid hfin
  clear h hm hfin
  by_cases hn : n < 0
  · have e : (n.toNat : Int) = 0 := by omega
    rw [e] at HF
    clear e
    go_enter Try.func16, Try.ntmps16
    go_wp2
    all_goals go_end0
    all_goals exact ⟨rfl, HF.out⟩
  · have e : (n.toNat : Int) = n := by omega
    have h0 : 0 ≤ n := by omega
    rw [e] at HF
    clear e hn
    go_enter Try.func16, Try.ntmps16
    go_wp2
    all_goals go_end0
    all_goals first | exact ⟨rfl, HF.out⟩ | (exfalso; omega)
end

end Go.Proofs.Ytadglpnmhpmebaa

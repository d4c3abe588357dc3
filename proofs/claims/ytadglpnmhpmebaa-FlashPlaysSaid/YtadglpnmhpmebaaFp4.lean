/-
  sgraffitoref04's New.
  Conditions: none.
-/
import Derived.Test.YtadglpnmhpmebaaFp3
namespace Go.Proofs.Ytadglpnmhpmebaa
open Go.RowKit
attribute [-go_sem] Instr.build Instr.fill

theorem infoStr : (Try.prog.info? 9).map (fun i => (i.zero, i.size, i.bytes)) = some (some (.string ⟨#[]⟩), 1, 16) := by kernel_rfl
theorem infoStrs : (Try.prog.info? 29).map (fun i => (i.zero, i.size, i.bytes)) = some (some (.slice none 0 0), 1, 24) := by kernel_rfl
theorem infoWr : (Try.prog.info? 76).map (fun i => (i.zero, i.size, i.bytes)) = some (some (.agg #[.int .i64 0, .string ⟨#[]⟩]), 2, 24) := by kernel_rfl
theorem info_parts3 {i : Option TypeInfo} {z : Value} {s b : Nat} (h : i.map (fun i => (i.zero, i.size, i.bytes)) = some (some z, s, b)) : ∃ i0, i = some i0 ∧ i0.zero = some z ∧ i0.size = s ∧ i0.bytes = b := by
  cases i with
  | none => cases h
  | some i0 => simp at h; exact ⟨i0, rfl, h.1, h.2.1, h.2.2⟩
/-- A row that is owned is a row that is read. -/
theorem RowF.of_own {W : World} {base : Nat} {e : TypeId} {size m : Nat} {v : Value} {cs : List Value} (h : W.ownsRow base e size v m cs) (hs : 0 < m) {f : Nat → Value} (hf : ∀ i, i < m * size → cs[i]? = some (f i)) : RowF W.heap.size W v e size m f := by
  obtain ⟨g, cap, rfl, hcap⟩ := slice_cells h hs
  obtain ⟨cur, hg, _, hc, _⟩ := own_block h
  refine .inr ⟨g, cap, hs, rfl, hc, blk_lt hg, fun i hi => ?_, _, _, hg⟩
  have := h.cells (g := g) rfl i (f i) (hf i hi)
  rwa [add_plain, Nat.zero_add] at this
theorem set_moves04 {W : World} (X i : Nat) (u : Value) : Moves (fun k => k = X) W (W.setCell ⟨X, i, none⟩ u) := (Moves.refl (fun k => k = X) W).setCell (p := ⟨X, i, none⟩) (fun _ => rfl) u
theorem own_cells4 {W : World} {base : Nat} {e : TypeId} {size n : Nat} {v : Value} {xs : List Value} (h : W.ownsRow base e size v n xs) {k : Nat} (hk : v.ownBlock = some k) : ∃ cs sp, W.heap[k]? = some (.cells cs e sp) := by
  rcases h.2 with ⟨rfl, _⟩ | ⟨g, cap, cur, rfl, _, hg, _⟩
  · cases hk
  · have : g = k := by simpa [Value.ownBlock] using hk
    subst this
    exact ⟨_, _, hg⟩
structure NewI (w : World) (X Z size jF j : Nat) (a1 : Option Addr) (c1 : Nat) (a3 : Option Addr) (c3 : Nat) (W : World) : Prop where
  bel : Below w.heap.size w W
  xw : w.heap.size ≤ X ∧ w.heap.size ≤ Z
  x : W.heap[X]? = some (.cells (rdC size (.slice a1 jF c1) (.slice none 0 0) (.slice a3 j c3) 0 0 false) 33 (0, 0))
  z : W.heap[Z]? = some (.cells rd0 33 (0, 0))
  rF : W.ownsRow w.heap.size 9 1 (.slice a1 jF c1) jF (List.replicate jF (.string (strB (zeros size))))
  rP : ∃ us : List Value, W.ownsRow w.heap.size 29 1 (.slice a3 j c3) j us ∧ ∀ i, i < j → ∃ g, us[i]? = some (.slice (some ⟨g, 0, none⟩) 1 1) ∧ W.heap[g]? = some (.cells #[.string (strB (zeros size))] 9 (0, 0)) ∧ (Value.slice a1 jF c1).ownBlock ≠ some g
theorem NewI.ref {w W W' : World} {X Z size j : Nat} {a1 a3 : Option Addr} {c1 c3 : Nat} (h : NewI w X Z size j j a1 c1 a3 c3 W) (hj : 0 < j) (hb : Below W.heap.size W W') : RefAt W'.heap.size W' (.slice a1 j c1) (.slice none 0 0) (.slice a3 j c3) (Dev.new j size) := by
  have hm : Moves (fun _ => False) W W' := Moves.of_below hb
  obtain ⟨us, hu, he⟩ := h.rP
  have r1 := hm.row h.rF (fun _ _ f => f)
  have r3 := hm.row hu (fun _ _ f => f)
  refine ⟨RowF.of_own r1 hj (fun i hi => ?_), .inl ⟨rfl, rfl⟩, fun i => us[i]?.getD undef, RowF.of_own r3 hj (fun i hi => ?_), fun k hk => ?_⟩
  · rw [List.getElem?_replicate, if_pos (by omega)]; rfl
  · obtain ⟨g, hg, _⟩ := he i (by omega)
    rw [hg]; rfl
  · obtain ⟨g, hg, hgb, _⟩ := he k hk
    show StrsF _ _ (us[k]?.getD undef) _ _
    rw [hg]
    have hgb2 := (hb.block _ (blk_lt hgb)).trans hgb
    refine .inr ⟨g, 1, by simp [Dev.pasts, Dev.new], rfl, Nat.le_refl _, blk_lt hgb2, fun i hi => ?_, _, _, hgb2⟩
    have hi0 : i = 0 := by
      have : i < 1 := by simpa [Dev.pasts, Dev.new] using hi
      omega
    subst hi0
    rw [blk_cell hgb2]
    rfl
section
variable {w W W' : World} {X Z size jF j : Nat} {a1 a3 : Option Addr} {c1 c3 : Nat}
theorem NewI.on (h : NewI w X Z size jF j a1 c1 a3 c3 W) (hb : Below W.heap.size W W') : NewI w X Z size jF j a1 c1 a3 c3 W' := by
  have hm : Moves (fun _ => False) W W' := Moves.of_below hb
  obtain ⟨us, hu, he⟩ := h.rP
  refine ⟨h.bel.trans (hb.mono h.bel.size), h.xw, (hb.block _ (blk_lt h.x)).trans h.x, (hb.block _ (blk_lt h.z)).trans h.z, hm.row h.rF (fun _ _ f => f), us, hm.row hu (fun _ _ f => f), fun i hi => ?_⟩
  obtain ⟨g, h1, h2, h3⟩ := he i hi
  exact ⟨g, h1, (hb.block _ (blk_lt h2)).trans h2, h3⟩
theorem NewI.fast (h : NewI w X Z size jF j a1 c1 a3 c3 W) (hxz : X ≠ Z) {g5 c5 : Nat} (hg : W.grownBy W' (Value.slice a1 jF c1).ownBlock) (ho : W'.ownsRow w.heap.size 9 1 (.slice (some ⟨g5, 0, none⟩) (jF + 1) c5) (jF + 1) (List.replicate jF (.string (strB (zeros size))) ++ [.string (strB (zeros size))]))
    (hd : (Value.slice a1 jF c1).ownBlock = some g5 ∨ g5 = W.heap.size) : NewI w X Z size (jF + 1) j (some ⟨g5, 0, none⟩) c5 a3 c3 (W'.setCell ⟨X, 1, none⟩ (.slice (some ⟨g5, 0, none⟩) (jF + 1) c5)) := by
  have hx := blk_keep h.x hg (own_ne h.rF h.x (by decide))
  have hz := blk_keep h.z hg (own_ne h.rF h.z (by decide))
  obtain ⟨us, hu, he⟩ := h.rP
  have hxo := set_moves04 (W := W') X 1 (.slice (some ⟨g5, 0, none⟩) (jF + 1) c5)
  have hmg : Moves (fun k => (Value.slice a1 jF c1).ownBlock = some k) W W' := Moves.of_grown hg (fun _ e => e)
  have hu' := hmg.row hu (fun k e1 e2 => by
    obtain ⟨cs, sp, hk⟩ := own_cells4 hu e1
    obtain ⟨cs', sp', hk'⟩ := own_cells4 h.rF e2
    rw [hk] at hk'
    cases hk')
  refine ⟨(h.bel.grown hg h.bel.size (fun k e => (h.rF.lt k e).1)).setCell (p := ⟨X, 1, none⟩) h.xw.1 _, h.xw, blk_set hx 1 _, (set_other _ _ _ _ _ hxz.symm).trans hz, ?_, us, hxo.row hu' (fun k e1 e2 => own_ne hu' hx (by decide) (by rw [e1, show k = X from e2])), fun i hi => ?_⟩
  · rw [List.replicate_succ']
    exact hxo.row ho (fun k e1 e2 => own_ne ho hx (by decide) (by rw [e1, show k = X from e2]))
  · obtain ⟨g, h1, h2, h3⟩ := he i hi
    refine ⟨g, h1, (set_other _ _ _ _ _ (fun e => ?_)).trans (blk_keep h2 hg h3), fun e => ?_⟩
    · rw [e] at h2
      rw [h.x] at h2
      cases h2
    · have e : g5 = g := by simpa [Value.ownBlock] using e
      rcases hd with hd | hd
      · exact h3 (by rw [hd, e])
      · have := blk_lt h2
        omega
theorem NewI.past (h : NewI w X Z size jF j a1 c1 a3 c3 W) (hxz : X ≠ Z) {ge g5 c5 : Nat} (hge : W.heap[ge]? = some (.cells #[.string (strB (zeros size))] 9 (0, 0))) (hgn : (Value.slice a1 jF c1).ownBlock ≠ some ge) {us : List Value} (hu : W.ownsRow w.heap.size 29 1 (.slice a3 j c3) j us) (he : ∀ i, i < j → ∃ g, us[i]? = some (.slice (some ⟨g, 0, none⟩) 1 1) ∧ W.heap[g]? = some (.cells #[.string (strB (zeros size))] 9 (0, 0)) ∧ (Value.slice a1 jF c1).ownBlock ≠ some g)
    (hg : W.grownBy W' (Value.slice a3 j c3).ownBlock) (ho : W'.ownsRow w.heap.size 29 1 (.slice (some ⟨g5, 0, none⟩) (j + 1) c5) (j + 1) (us ++ [.slice (some ⟨ge, 0, none⟩) 1 1])) : NewI w X Z size jF (j + 1) a1 c1 (some ⟨g5, 0, none⟩) c5 (W'.setCell ⟨X, 3, none⟩ (.slice (some ⟨g5, 0, none⟩) (j + 1) c5)) := by
  have hx := blk_keep h.x hg (own_ne hu h.x (by decide))
  have hz := blk_keep h.z hg (own_ne hu h.z (by decide))
  have hxo := set_moves04 (W := W') X 3 (.slice (some ⟨g5, 0, none⟩) (j + 1) c5)
  have hmg : Moves (fun k => (Value.slice a3 j c3).ownBlock = some k) W W' := Moves.of_grown hg (fun _ e => e)
  have hf' := hmg.row h.rF (fun k e1 e2 => by
    obtain ⟨cs, sp, hk⟩ := own_cells4 h.rF e1
    obtain ⟨cs', sp', hk'⟩ := own_cells4 hu e2
    rw [hk] at hk'
    cases hk')
  have key : ∀ g : Nat, W.heap[g]? = some (Obj.cells #[.string (strB (zeros size))] 9 (0, 0)) → (W'.setCell ⟨X, 3, none⟩ (.slice (some ⟨g5, 0, none⟩) (j + 1) c5)).heap[g]? = some (Obj.cells #[.string (strB (zeros size))] 9 (0, 0)) := fun g h2 => by
    refine (set_other _ _ _ _ _ (fun e => ?_)).trans (blk_keep h2 hg (own_ne hu h2 (by decide)))
    rw [e] at h2
    rw [h.x] at h2
    cases h2
  have hlen := hu.1
  refine ⟨(h.bel.grown hg h.bel.size (fun k e => (hu.lt k e).1)).setCell (p := ⟨X, 3, none⟩) h.xw.1 _, h.xw, blk_set hx 3 _, (set_other _ _ _ _ _ hxz.symm).trans hz, hxo.row hf' (fun k e1 e2 => own_ne hf' hx (by decide) (by rw [e1, show k = X from e2])), _, hxo.row ho (fun k e1 e2 => own_ne ho hx (by decide) (by rw [e1, show k = X from e2])), fun i hi => ?_⟩
  by_cases hij : i < j
  · obtain ⟨g, h1, h2, h3⟩ := he i hij
    exact ⟨g, by rw [List.getElem?_append_left (by omega)]; exact h1, key g h2, h3⟩
  · obtain rfl : i = j := by omega
    exact ⟨ge, by rw [List.getElem?_append_right (by omega), show i - us.length = 0 by omega]; rfl, key ge hge, hgn⟩
end
@[local go_sem] theorem build_rd (n : Int) (W : World) : (Instr.build 33 #[(0, .int .i64 n)]).run Try.prog W = .ok (.agg #[.int .i64 n, .slice none 0 0, .slice none 0 0, .slice none 0 0, .int .i64 0, .int .i64 0, .bool false]) W := run_build W _ _ _ (by kernel_rfl)
end Go.Proofs.Ytadglpnmhpmebaa

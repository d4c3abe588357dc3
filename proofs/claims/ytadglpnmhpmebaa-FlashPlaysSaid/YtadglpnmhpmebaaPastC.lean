/-
  flash: Past: what a sector was given, the newest first, the noughts last, in memory of its own.
  Conditions: none.
-/
import Derived.Test.YtadglpnmhpmebaaPastB
import Derived.Test.YtadglpnmhpmebaaPastApp
namespace Go.Proofs.Ytadglpnmhpmebaa
open Go.RowKit Go.Shelf
attribute [local go_sem] Oper.semAt_some

/-- Between two rounds of Past. -/
def PastInv (W : World) (D B X1 X2 k : Nat) (s : List (List (BitVec 8))) (U : World) : Prop :=
  Below W.heap.size W U ∧ U.heap[X1]? = some (.cells #[.pointer (some ⟨D, 0, none⟩)] 24 (0, 0)) ∧ U.heap[X2]? = some (.cells #[.int .i64 k] 3 (0, 0)) ∧ ∃ v, U.heap[B]? = some (.cells #[v] 56 (0, 0)) ∧ PRows W.heap.size U v s
theorem PastInv.on {W U U' : World} {D B X1 X2 k : Nat} {s : List (List (BitVec 8))} (h : PastInv W D B X1 X2 k s U) (hb : Below U.heap.size U U') : PastInv W D B X1 X2 k s U' := by
  obtain ⟨h1, h2, h3, v, h4, h5⟩ := h
  exact ⟨h1.trans (hb.mono h1.size), (hb.block _ (blk_lt h2)).trans h2, (hb.block _ (blk_lt h3)).trans h3, v, (hb.block _ (blk_lt h4)).trans h4, h5.below hb⟩
theorem PastInv.put {W U : World} {D B X1 X2 k : Nat} {s : List (List (BitVec 8))} (h : PastInv W D B X1 X2 k s U) {i : Nat} {o o' : Obj} (ho : U.heap[i]? = some o) (hc : o.isCells = false) (hi : W.heap.size ≤ i) : PastInv W D B X1 X2 k s (U.putObj i o') := by
  have hne : ∀ {j : Nat} {cs : Array Value} {t : TypeId} {sp : Nat × Nat}, U.heap[j]? = some (.cells cs t sp) → j ≠ i := fun h1 e => by
    subst e
    rw [ho] at h1
    cases h1
    cases hc
  obtain ⟨h1, h2, h3, v, h4, h5⟩ := h
  exact ⟨h1.trans ((put_moves U i o').below (fun j hj => by omega) h1.size), (World.putObj_heap_other (hne h2)).trans h2, (World.putObj_heap_other (hne h3)).trans h3, v, (World.putObj_heap_other (hne h4)).trans h4, h5.put ho hc⟩
theorem PastInv.step {W U w5 w6 w7 : World} {D B X1 X2 k : Nat} {s : List (List (BitVec 8))} {x : List (BitVec 8)} {v v7 u5 : Value} {us : List Value}
    (h1 : Below W.heap.size W U) (h2 : U.heap[X1]? = some (.cells #[.pointer (some ⟨D, 0, none⟩)] 24 (0, 0))) (h3 : U.heap[X2]? = some (.cells #[.int .i64 k] 3 (0, 0))) (h4 : U.heap[B]? = some (.cells #[v] 56 (0, 0))) (hB : W.heap.size ≤ B)
    (hrow : U.ownsRow W.heap.size 42 1 v s.length us) (hel : ∀ (i : Nat) (x : List (BitVec 8)), s[i]? = some x → ∃ u, us[i]? = some u ∧ U.ownsRow W.heap.size 5 1 u x.length (cellsOf x))
    (hb5 : Below U.heap.size U w5) (ho5 : w5.ownsRow U.heap.size 5 1 u5 x.length (cellsOf x)) (hb6 : Below w5.heap.size w5 w6) (hg7 : w6.grownBy w7 v.ownBlock) (hr7 : w7.ownsRow W.heap.size 42 1 v7 (s.length + 1) (us ++ [u5])) :
    PastInv W D B X1 X2 k (s ++ [x]) (w7.setCell ⟨B, 0, none⟩ v7) ∧ (∀ (i : Nat) (o : Obj), U.heap[i]? = some o → i ≠ B → (∀ cs sp, o ≠ .cells cs 42 sp) → (w7.setCell ⟨B, 0, none⟩ v7).heap[i]? = some o) ∧ U.heap.size ≤ (w7.setCell ⟨B, 0, none⟩ v7).heap.size := by
  have hb : Below U.heap.size U w6 := hb5.trans (hb6.mono hb5.size)
  have hrow6 := (Moves.of_below (S := fun _ => False) hb).row hrow (fun _ _ h => h)
  have h7 : ∀ (i : Nat) (o : Obj), U.heap[i]? = some o → (∀ cs sp, o ≠ .cells cs 42 sp) → w7.heap[i]? = some o := fun i o ho hc => by
    have h6 := (hb.block i (Array.getElem?_eq_some_iff.1 ho).1).trans ho
    refine (hg7.block i (Array.getElem?_eq_some_iff.1 h6).1 (fun e => ?_)).trans h6
    obtain ⟨cs, sp, h8⟩ := own_is_cells hrow6 e.symm
    rw [h6] at h8
    cases h8
    exact hc _ _ rfl
  have hall : ∀ (i : Nat) (o : Obj), U.heap[i]? = some o → i ≠ B → (∀ cs sp, o ≠ .cells cs 42 sp) → (w7.setCell ⟨B, 0, none⟩ v7).heap[i]? = some o := fun i o ho hi hc =>
    (Below.heap_setCell _ _ _ _ hi).trans (h7 i o ho hc)
  have nt : ∀ {cs : Array Value} {t : TypeId}, t ≠ 42 → ∀ cs' sp, (Obj.cells cs t (0, 0)) ≠ .cells cs' 42 sp := fun hne cs' sp h => by cases h; exact hne rfl
  have hB7 := h7 B _ h4 (nt (by decide))
  have hw7 : Below W.heap.size W w7 := (h1.trans (hb.mono h1.size)).grown hg7 (Nat.le_trans h1.size hb.size) (fun j e => (hrow6.lt j e).1)
  have hP7 : PRows W.heap.size w7 v7 (s ++ [x]) := by
    refine PRows.snoc (W := w6) (fun i y hy => ?_) hrow6 ?_ hg7 hr7
    · obtain ⟨u, hu, ho⟩ := hel i y hy
      exact ⟨u, hu, (Moves.of_below (S := fun _ => False) hb).row ho (fun _ _ h => h)⟩
    · obtain ⟨q1, q2⟩ := (Moves.of_below (S := fun _ => False) hb6).row ho5 (fun _ _ h => h)
      refine ⟨q1, ?_⟩
      rcases q2 with q2 | ⟨g, cap, cur, r1, r2, r3, r4⟩
      · exact .inl q2
      · exact .inr ⟨g, cap, cur, r1, Nat.le_trans h1.size r2, r3, r4⟩
  have hne : ∀ {i : Nat} {cs : Array Value} {t : TypeId}, U.heap[i]? = some (.cells cs t (0, 0)) → t ≠ 56 → i ≠ B := fun hi ht e => by
    subst e
    rw [h4] at hi
    cases hi
    exact ht rfl
  refine ⟨⟨hw7.trans ?_, hall _ _ h2 (hne h2 (by decide)) (nt (by decide)), hall _ _ h3 (hne h3 (by decide)) (nt (by decide)), v7, blk_set hB7 0 v7, ?_⟩, hall, ?_⟩
  · exact ((Moves.refl (fun i => i = B) w7).setCell (fun _ => rfl) v7).below (fun j hj => by omega) hw7.size
  · obtain ⟨us7, q1, q2⟩ := hP7
    have hm : Moves (fun i => i = B) w7 (w7.setCell ⟨B, 0, none⟩ v7) := (Moves.refl (fun i => i = B) w7).setCell (fun _ => rfl) v7
    refine ⟨us7, hm.row q1 (fun j e ej => by subst ej; exact own_ne q1 hB7 (by decide) e), fun i y hy => ?_⟩
    obtain ⟨u, hu, ho⟩ := q2 i y hy
    exact ⟨u, hu, hm.row ho (fun j e ej => by subst ej; exact own_ne ho hB7 (by decide) e)⟩
  · have hz : (w7.setCell ⟨B, 0, none⟩ v7).heap.size = w7.heap.size := by simp [World.setCell]
    rw [hz]
    exact Nat.le_trans hb.size hg7.size
set_option maxRecDepth 100000 in
set_option maxHeartbeats 4000000 in
theorem past_parts (n₀ : Nat) (O : Foot) (W : World) (D F P L : Nat) (lv : Value) (fm pm lm : List (Int × Value)) (d : Dev) (hd : DevParts n₀ O W D F P L lv fm pm lm d) (k : Nat) (hk : k < d.sectors) (hpl : (d.past k).length ≤ 65536) :
    Calls Try.prog 28 #[.pointer (some ⟨D, 0, none⟩), .int .i64 k] W fun e W' => ∃ u, e = .returned u ∧ PRows W.heap.size W' u (d.pasts k) ∧ Below W.heap.size W W' := by
  have hh := fhas_any hd.blk (k : Int)
  rw [decide_eq_true (show (0 : Int) ≤ k ∧ (k : Int) < d.sectors from ⟨by omega, by omega⟩)] at hh
  have HH := Lib.hid hh
  have HD := Lib.hid hd
  have HPL := Lib.hid hpl
  have HK := Lib.hid hk
  have hpr := hd.pastOf k hk
  obtain ⟨pv, hpv⟩ : ∃ pv, (mget pm k).getD (.slice none 0 0) = pv := ⟨_, rfl⟩
  rw [hpv] at hpr
  obtain ⟨us, hrow, _, _⟩ := hpr
  obtain ⟨pa, pc, rfl⟩ := owns_slice hrow
  obtain ⟨m, hm⟩ : ∃ m, (d.past k).length = m := ⟨_, rfl⟩
  rw [hm] at hpv hpl
  have cP : W.cell? ⟨D, 3, none⟩ = some (.map (some P)) := blk_cell hd.blk 3
  have lk : (Instr.lookup 64 (.map (some P)) (.int .i64 (k : Int)) false).run Try.prog W = .ok (.slice pa m pc) W := by
    have := run_lookup_int (P := Try.prog) Try.underlying64 Try.underlying3 hd.mP (k : Int) _ (zeroRows W) false
    simpa [hpv] using this
  have w1 : wrap64 ((m : Int) + 1) = (m : Int) + 1 := by unfold wrap64; omega
  have hmk : ∀ U, (Instr.makeSlice 56 (.int .i64 0) (.int .i64 ((m : Int) + 1))).run Try.prog U = .ok (.slice (some ⟨U.heap.size, 0, none⟩) 0 (m + 1)) (U.alloc (.cells (madeCells #[.slice none 0 0] (m + 1)) 42)) := fun U => makeRows0 (m + 1) (by omega) U
  have HM : Hid (m ≤ 65536) := hpl
  have HPO := Lib.hid (fun U => pastOf_any D (k : Int) U)
  clear hd hk hpl hh hpv hrow hm
  refine callsIn_wide (n := 3).1 ?_
  refine callsIn_of_wp_marks Try.func28 rfl trivial ?_ rfl
  simp only [Try.ntmps28, List.size_toArray, List.length_cons, List.length_nil, Nat.reduceAdd, Nat.reduceSub, Array.replicate_succ, Array.replicate_zero, List.push_toArray, List.append_toArray, List.nil_append, List.cons_append]
  refine wpIn_wide.2 ?_
  go_upto_region 4 with (go_at_call 42; (with_reducible refine HH.out.mono ?_); rintro e w' ⟨rfl, rfl⟩)
  obtain ⟨V, hV⟩ : ∃ V, (W.alloc (.cells (madeCells #[.slice none 0 0] (m + 1)) 42)).alloc (.cells #[.slice (some ⟨W.heap.size, 0, none⟩) 0 (m + 1)] 56) = V := ⟨_, rfl⟩
  change (Code.region _ _ _).wp _ _ _ ((W.alloc (.cells (madeCells #[.slice none 0 0] (m + 1)) 42)).alloc (.cells #[.slice (some ⟨W.heap.size, 0, none⟩) 0 (m + 1)] 56))
  have hs1 : (W.alloc (.cells (madeCells #[.slice none 0 0] (m + 1)) 42)).heap.size = W.heap.size + 1 := World.size_alloc ..
  have hVz : V.heap.size = W.heap.size + 2 := by rw [← hV]; rw [World.size_alloc, hs1]
  have hVB : V.heap[W.heap.size + 1]? = some (.cells #[.slice (some ⟨W.heap.size, 0, none⟩) 0 (m + 1)] 56 (0, 0)) := by
    rw [← hV, ← hs1]
    exact heap_alloc_new _ _
  have hVb : Below W.heap.size W V := by
    rw [← hV]
    exact ((Below.refl _ W).alloc (Nat.le_refl _) _).alloc (by rw [hs1]; omega) _
  have hVr : PRows W.heap.size V (.slice (some ⟨W.heap.size, 0, none⟩) 0 (m + 1)) [] := by
    rw [← hV]
    exact (own_rows0 W W.heap.size (m + 1) (Nat.le_refl _) (by have := HM.out; omega)).below ((Below.refl _ _).alloc (Nat.le_refl _) _)
  rw [hV]
  have HV := Lib.hid (And.intro hVz (And.intro hVB (And.intro hVb hVr)))
  clear hV hVz hVB hVb hVr hs1 lk cP hmk w1
  go_wp2_with (go_at_call 43; (with_reducible refine (HPO.out _).mono ?_); rintro e w3 ⟨rfl, hw3⟩; have HW3 := Lib.hid hw3; clear hw3)
  obtain ⟨hVz, hVB, hVb, hVr⟩ := HV.out
  have hz3 : w3.heap.size = V.heap.size + 2 := by rw [← HW3.out]; simp
  have hb3 : Below V.heap.size V w3 := by rw [← HW3.out]; exact ((Below.refl _ V).alloc (Nat.le_refl _) _).alloc (by simp) _
  have hx1 : w3.heap[V.heap.size]? = some (.cells #[.pointer (some ⟨D, 0, none⟩)] 24 (0, 0)) := by rw [← HW3.out]; exact blk_alloc (heap_alloc_new _ _) _
  have hx2 : w3.heap[V.heap.size + 1]? = some (.cells #[.int .i64 k] 3 (0, 0)) := by
    rw [← HW3.out]
    have := heap_alloc_new (V.alloc (.cells #[.pointer (some ⟨D, 0, none⟩)] 24)) (.cells #[.int .i64 (k : Int)] 3)
    rwa [World.size_alloc] at this
  have hinv : PastInv W D (W.heap.size + 1) V.heap.size (V.heap.size + 1) k [] w3 := ⟨hVb.trans (hb3.mono hVb.size), hx1, hx2, _, (hb3.block _ (blk_lt hVB)).trans hVB, hVr.below hb3⟩
  have HINV := Lib.hid hinv
  have HZ3 := Lib.hid (And.intro hVz hz3)
  clear hVz hVB hVb hVr hz3 hb3 hx1 hx2 hinv
  refine (wpIn_wide (n := 3)).1 ?_
  refine rangeFunc_near (α := Value × List (BitVec 8)) (γ := List (List (BitVec 8))) (F := Fence.wide) rfl (by decide) (gf := 46) (lb := #[.pointer (some ⟨V.heap.size, 0, none⟩), .pointer (some ⟨V.heap.size + 1, 0, none⟩)]) rfl trivial (enters_of Try.func46 (by kernel_rfl) rfl)
    (fun x => #[x.1]) (fun _ => rfl) (fun s x => s ++ [x.2]) [] 42 (PastInv W D (W.heap.size + 1) V.heap.size (V.heap.size + 1) k)
    (fun s x U => BytesAt U.heap.size U x.1 x.2 ∧ x.2.length = d.size ∧ s.length ≤ 65536) (fun s => s = d.pasts k) ?hbel ?hturn ?hmayT ?hround ?h0 ?hcall ?hdone
  case hbel => exact fun s U U' h hb => h.on hb
  case hturn =>
    intro s U i o o' hi ho hc h
    have := HZ3.out
    exact h.put ho hc (by omega)
  case hmayT =>
    rintro s x U o o' ho hc ⟨h1, h2, h3⟩
    refine ⟨?_, h2, h3⟩
    have hne : ∀ (g i : Nat) (v : Value), U.cell? ⟨g, i, none⟩ = some v → g ≠ w3.heap.size + 1 := fun g i v h e => by
      subst e
      simp [World.cell?, ho] at h
      cases o <;> simp_all [Obj.isCells]
    obtain ⟨a, c, e1, e2, e3, e4⟩ := h1
    refine ⟨a, c, e1, e2, e3, e4.imp id fun ⟨g, off, q1, q2, q3⟩ => ⟨g, off, q1, by rw [World.putObj_size]; exact q2, fun j hj => ?_⟩⟩
    have := q3 j hj
    rw [← this]
    exact World.cell?_of_block (w := U) (World.putObj_heap_other (hne _ _ _ this))
  case h0 =>
    intro o ho
    exact HINV.out.on (((Below.refl _ w3).alloc (Nat.le_refl _) _).alloc (by simp) _)
  case hcall =>
    intro l J2 W0 hl hlW hJI hJB hJP hJ0 hY
    refine callsIn_wide.2 ((pastOf1_any n₀ O W W0 D F P L lv fm pm lm d HD.out k HK.out HPL.out l V.heap.size (V.heap.size + 1) hlW J2 (fun s U hj => ?_) hJB hJP hJ0 (fun s u x U hj hsl hu hx => hY s (u, x) U hj ⟨hu, hx, Nat.le_trans hsl HPL.out⟩)).mono ?_)
    · obtain ⟨h1, h2, h3, _⟩ := hJI _ _ hj
      exact ⟨Same.of_below h1 HD.out.inn, blk_cell h2 0, blk_cell h3 0⟩
    · rintro e W' ⟨hv, hj⟩
      exact ⟨hv, _, rfl, hj⟩
  case hdone =>
    rintro U s rfl ⟨h1, h2, h3, v, h4, h5⟩ hK
    have cB : U.cell? ⟨W.heap.size + 1, 0, none⟩ = some v := blk_cell h4 0
    have HR := Lib.hid (And.intro h1 (And.intro h5 hK))
    clear h1 h2 h3 h4 h5 hK
    go_wp2
    obtain ⟨h1, h5, hK⟩ := HR.out
    refine ⟨by simp, .inl ⟨_, _, rfl, run_takeDeferred hK, ?_⟩⟩
    exact ⟨v, by simp [results], v, rfl, h5.put hK rfl, h1.trans ((put_moves U w3.heap.size (.deferred none)).below (fun j hj => by have := HZ3.out; omega) h1.size)⟩
  case hround =>
    apply Exists.intro
    apply And.intro
    · intro l x U K hK2
      gi_wp2
      exact hK2
    · rintro l s ⟨u, x⟩ U ⟨h1, h2, h3, v, h4, us, hrow, hel⟩ ⟨hu, hx, hs⟩ hsz ⟨o, ho, hoc⟩ hD
      dsimp only at hu hx
      obtain ⟨ua, uc, rfl, _⟩ := id hu
      have cB : U.drew.cell? ⟨W.heap.size + 1, 0, none⟩ = some v := blk_cell h4 0
      have HCL := Lib.hid (clone_any U.heap.size _ x U.drew hu (Nat.le_refl _) (by have := HD.out.right.2.2; omega))
      have HS5 : Hid (∀ (w5 : World) (u5 : Value), Below U.heap.size U w5 → u5.oneCell' = true → w5.cell? ⟨W.heap.size + 1, 0, none⟩ = some v ∧ (w5.alloc (.cells #[u5] 42)).cell? ⟨W.heap.size + 1, 0, none⟩ = some v ∧ Hid ((w5.alloc (.cells #[u5] 42)).ownsRow W.heap.size 42 1 v s.length us ∧ (w5.alloc (.cells #[u5] 42)).cell? ⟨w5.heap.size, 0, none⟩ = some u5 ∧ u5.oneCell' = true ∧ s.length ≤ 70000 ∧ W.heap.size ≤ (w5.alloc (.cells #[u5] 42)).heap.size) ∧
          Hid (∀ w7 : World, (w5.alloc (.cells #[u5] 42)).grownBy w7 v.ownBlock → w7.heap[W.heap.size + 1]? = some (.cells #[v] 56 (0, 0)))) := fun w5 u5 hb5 h1c => by
        have hb6 : Below w5.heap.size w5 (w5.alloc (.cells #[u5] 42)) := (Below.refl _ _).alloc (Nat.le_refl _) _
        have hb := hb5.trans (hb6.mono hb5.size)
        have hB6 := (hb.block _ (blk_lt h4)).trans h4
        have hrow6 := (Moves.of_below (S := fun _ => False) hb).row hrow (fun _ _ h => h)
        exact ⟨blk_cell ((hb5.block _ (blk_lt h4)).trans h4) 0, blk_cell hB6 0, ⟨hrow6, blk_cell (show (w5.alloc (.cells #[u5] 42)).heap[w5.heap.size]? = some (.cells #[u5] 42 (0, 0)) from heap_alloc_new w5 _) 0, h1c, by omega, Nat.le_trans h1.size hb.size⟩,
          fun w7 hg7 => (hg7.block _ (blk_lt hB6) (fun e => own_ne hrow6 hB6 (by decide) e.symm)).trans hB6⟩
      have HG := Lib.hid (And.intro h1 (And.intro h2 (And.intro h3 (And.intro h4 (And.intro hrow (And.intro hel (And.intro ho (And.intro hoc hD))))))))
      clear h1 h2 h3 h4 hrow hel hu hx hs ho hoc hD hsz
      gi_wp2
      refine wpIn_region_any (by kernel_rfl) ?_
      change wpAnyIn _ _ _ _ _ _ _ _ _ (World.drew _)
      refine wpAnyIn_ready (rs := [0, 1]) (by kernel_rfl) (by simp) ?_
      refine AllReadyIn.cons rfl (fun K hK => ?_) ?_
      · go_simp
        refine hK _ _ ?_
        clear hK K
        try simp only [Act.put, List.setIfInBounds_toArray, List.set_cons_succ]
        refine wpAnyIn_ready (rs := [1]) (by kernel_rfl) (by simp) ?_
        refine AllReadyIn.cons rfl (fun K hK => ?_) ?_
        · go_simp
          refine hK _ _ ?_
          clear hK K
          try simp only [Act.put, List.setIfInBounds_toArray, List.set_cons_succ]
          refine wpAnyIn_ready (rs := [2]) (by kernel_rfl) (by simp) ?_
          refine AllReadyIn.cons rfl (fun K hK => ?_) ?_
          · go_simp
            refine ⟨trivial, (CallsIn.inRound l (callsIn_wide.2 HCL.out)).mono ?_⟩
            rintro e w5 ⟨u5, rfl, ho5, hb5⟩
            obtain ⟨a5, c5, rfl⟩ := owns_slice ho5
            have HB5 : Hid (Below U.heap.size U w5 ∧ w5.ownsRow U.heap.size 5 1 (.slice a5 x.length c5) x.length (cellsOf x)) := ⟨(Below.refl _ _).drew.trans hb5, ho5⟩
            obtain ⟨cB5, cB6, HR6, HF7⟩ := HS5.out w5 (.slice a5 x.length c5) HB5.out.1 rfl
            clear ho5 hb5
            refine hK _ _ ?_
            clear hK K
            try simp only [Act.put, List.setIfInBounds_toArray, List.set_cons_succ]
            refine wpAnyIn_ready (rs := [3]) (by kernel_rfl) (by simp) ?_
            refine AllReadyIn.cons rfl (fun K hK => ?_) ?_
            · go_simp
              refine hK _ _ ?_
              clear hK K
              try simp only [Act.put, List.setIfInBounds_toArray, List.set_cons_succ]
              refine wpAnyIn_ready (rs := [4]) (by kernel_rfl) (by simp) ?_
              refine AllReadyIn.cons rfl (fun K hK => ?_) AllReadyIn.nil
              refine append_row_in (by rfl) (.tmp 28) (.tmp 31) (by rfl) W.heap.size v s.length us (by rfl) HR6.out.1 w5.heap.size (.slice a5 x.length c5) (by rfl) HR6.out.2.1 HR6.out.2.2.1 HR6.out.2.2.2.1 HR6.out.2.2.2.2 ?_
              intro v7 w7 hr7 hg7 _
              obtain ⟨a7, c7, rfl⟩ := owns_slice hr7
              refine hK _ _ ?_
              clear hK K
              obtain ⟨g1, g2, g3, g4, hrow, hel, g5⟩ := HG.out
              obtain ⟨t1, t2, t3⟩ := PastInv.step g1 g2 g3 g4 (Nat.le_succ _) hrow hel HB5.out.1 HB5.out.2 ((Below.refl w5.heap.size w5).alloc (Nat.le_refl _) _) hg7 hr7
              have cB7 := HF7.out w7 hg7
              have fB7 : w7.frozen? ⟨W.heap.size + 1, 0, none⟩ = false := blk_frozen cB7 0
              have cB8 : w7.cell? ⟨W.heap.size + 1, 0, none⟩ = some v := blk_cell cB7 0
              have HT := Lib.hid (And.intro t1 (And.intro t2 t3))
              clear t1 t2 t3 g1 g2 g3 g4 hrow hel g5 cB7 hr7 hg7
              refine wpAnyIn_ready (rs := [5]) (by kernel_rfl) (by simp) ?_
              refine AllReadyIn.cons rfl (fun K hK => ?_) AllReadyIn.nil
              go_simp
              refine hK _ _ ?_
              clear hK K
              refine wpAnyIn_done (by kernel_rfl) ?_ _
              obtain ⟨g1, g2, g3, g4, hrow, hel, ho, hoc, hD⟩ := HG.out
              obtain ⟨t1, t2, t3⟩ := HT.out
              have hz := HZ3.out
              refine ⟨rfl, ⟨?_, ?_⟩, ⟨t3, fun i o hi ho' hc => t2 i o ho' (by omega) hc⟩, t1⟩
              · rw [ho]; exact t2 _ _ ho (by omega) (fun cs sp e => by subst e; cases hoc)
              · rw [hD]; exact t2 _ _ hD (by omega) (fun cs sp e => by cases e)
            exact AllReadyIn.nil
          exact AllReadyIn.nil
        exact AllReadyIn.nil
      refine AllReadyIn.cons rfl (fun K hK => ?_) ?_
      · go_simp
        refine hK _ _ ?_
        clear hK K
        try simp only [Act.put, List.setIfInBounds_toArray, List.set_cons_succ]
        refine wpAnyIn_ready (rs := [0, 2]) (by kernel_rfl) (by simp) ?_
        refine AllReadyIn.cons rfl (fun K hK => ?_) ?_
        · go_simp
          refine hK _ _ ?_
          clear hK K
          try simp only [Act.put, List.setIfInBounds_toArray, List.set_cons_succ]
          refine wpAnyIn_ready (rs := [2]) (by kernel_rfl) (by simp) ?_
          refine AllReadyIn.cons rfl (fun K hK => ?_) ?_
          · go_simp
            refine ⟨trivial, (CallsIn.inRound l (callsIn_wide.2 HCL.out)).mono ?_⟩
            rintro e w5 ⟨u5, rfl, ho5, hb5⟩
            obtain ⟨a5, c5, rfl⟩ := owns_slice ho5
            have HB5 : Hid (Below U.heap.size U w5 ∧ w5.ownsRow U.heap.size 5 1 (.slice a5 x.length c5) x.length (cellsOf x)) := ⟨(Below.refl _ _).drew.trans hb5, ho5⟩
            obtain ⟨cB5, cB6, HR6, HF7⟩ := HS5.out w5 (.slice a5 x.length c5) HB5.out.1 rfl
            clear ho5 hb5
            refine hK _ _ ?_
            clear hK K
            try simp only [Act.put, List.setIfInBounds_toArray, List.set_cons_succ]
            refine wpAnyIn_ready (rs := [3]) (by kernel_rfl) (by simp) ?_
            refine AllReadyIn.cons rfl (fun K hK => ?_) ?_
            · go_simp
              refine hK _ _ ?_
              clear hK K
              try simp only [Act.put, List.setIfInBounds_toArray, List.set_cons_succ]
              refine wpAnyIn_ready (rs := [4]) (by kernel_rfl) (by simp) ?_
              refine AllReadyIn.cons rfl (fun K hK => ?_) AllReadyIn.nil
              refine append_row_in (by rfl) (.tmp 28) (.tmp 31) (by rfl) W.heap.size v s.length us (by rfl) HR6.out.1 w5.heap.size (.slice a5 x.length c5) (by rfl) HR6.out.2.1 HR6.out.2.2.1 HR6.out.2.2.2.1 HR6.out.2.2.2.2 ?_
              intro v7 w7 hr7 hg7 _
              obtain ⟨a7, c7, rfl⟩ := owns_slice hr7
              refine hK _ _ ?_
              clear hK K
              obtain ⟨g1, g2, g3, g4, hrow, hel, g5⟩ := HG.out
              obtain ⟨t1, t2, t3⟩ := PastInv.step g1 g2 g3 g4 (Nat.le_succ _) hrow hel HB5.out.1 HB5.out.2 ((Below.refl w5.heap.size w5).alloc (Nat.le_refl _) _) hg7 hr7
              have cB7 := HF7.out w7 hg7
              have fB7 : w7.frozen? ⟨W.heap.size + 1, 0, none⟩ = false := blk_frozen cB7 0
              have cB8 : w7.cell? ⟨W.heap.size + 1, 0, none⟩ = some v := blk_cell cB7 0
              have HT := Lib.hid (And.intro t1 (And.intro t2 t3))
              clear t1 t2 t3 g1 g2 g3 g4 hrow hel g5 cB7 hr7 hg7
              refine wpAnyIn_ready (rs := [5]) (by kernel_rfl) (by simp) ?_
              refine AllReadyIn.cons rfl (fun K hK => ?_) AllReadyIn.nil
              go_simp
              refine hK _ _ ?_
              clear hK K
              refine wpAnyIn_done (by kernel_rfl) ?_ _
              obtain ⟨g1, g2, g3, g4, hrow, hel, ho, hoc, hD⟩ := HG.out
              obtain ⟨t1, t2, t3⟩ := HT.out
              have hz := HZ3.out
              refine ⟨rfl, ⟨?_, ?_⟩, ⟨t3, fun i o hi ho' hc => t2 i o ho' (by omega) hc⟩, t1⟩
              · rw [ho]; exact t2 _ _ ho (by omega) (fun cs sp e => by subst e; cases hoc)
              · rw [hD]; exact t2 _ _ hD (by omega) (fun cs sp e => by cases e)
            exact AllReadyIn.nil
          exact AllReadyIn.nil
        refine AllReadyIn.cons rfl (fun K hK => ?_) ?_
        · go_simp
          refine ⟨trivial, (CallsIn.inRound l (callsIn_wide.2 HCL.out)).mono ?_⟩
          rintro e w5 ⟨u5, rfl, ho5, hb5⟩
          obtain ⟨a5, c5, rfl⟩ := owns_slice ho5
          have HB5 : Hid (Below U.heap.size U w5 ∧ w5.ownsRow U.heap.size 5 1 (.slice a5 x.length c5) x.length (cellsOf x)) := ⟨(Below.refl _ _).drew.trans hb5, ho5⟩
          obtain ⟨cB5, cB6, HR6, HF7⟩ := HS5.out w5 (.slice a5 x.length c5) HB5.out.1 rfl
          clear ho5 hb5
          refine hK _ _ ?_
          clear hK K
          try simp only [Act.put, List.setIfInBounds_toArray, List.set_cons_succ]
          refine wpAnyIn_ready (rs := [0, 3]) (by kernel_rfl) (by simp) ?_
          refine AllReadyIn.cons rfl (fun K hK => ?_) ?_
          · go_simp
            refine hK _ _ ?_
            clear hK K
            try simp only [Act.put, List.setIfInBounds_toArray, List.set_cons_succ]
            refine wpAnyIn_ready (rs := [3]) (by kernel_rfl) (by simp) ?_
            refine AllReadyIn.cons rfl (fun K hK => ?_) ?_
            · go_simp
              refine hK _ _ ?_
              clear hK K
              try simp only [Act.put, List.setIfInBounds_toArray, List.set_cons_succ]
              refine wpAnyIn_ready (rs := [4]) (by kernel_rfl) (by simp) ?_
              refine AllReadyIn.cons rfl (fun K hK => ?_) AllReadyIn.nil
              refine append_row_in (by rfl) (.tmp 28) (.tmp 31) (by rfl) W.heap.size v s.length us (by rfl) HR6.out.1 w5.heap.size (.slice a5 x.length c5) (by rfl) HR6.out.2.1 HR6.out.2.2.1 HR6.out.2.2.2.1 HR6.out.2.2.2.2 ?_
              intro v7 w7 hr7 hg7 _
              obtain ⟨a7, c7, rfl⟩ := owns_slice hr7
              refine hK _ _ ?_
              clear hK K
              obtain ⟨g1, g2, g3, g4, hrow, hel, g5⟩ := HG.out
              obtain ⟨t1, t2, t3⟩ := PastInv.step g1 g2 g3 g4 (Nat.le_succ _) hrow hel HB5.out.1 HB5.out.2 ((Below.refl w5.heap.size w5).alloc (Nat.le_refl _) _) hg7 hr7
              have cB7 := HF7.out w7 hg7
              have fB7 : w7.frozen? ⟨W.heap.size + 1, 0, none⟩ = false := blk_frozen cB7 0
              have cB8 : w7.cell? ⟨W.heap.size + 1, 0, none⟩ = some v := blk_cell cB7 0
              have HT := Lib.hid (And.intro t1 (And.intro t2 t3))
              clear t1 t2 t3 g1 g2 g3 g4 hrow hel g5 cB7 hr7 hg7
              refine wpAnyIn_ready (rs := [5]) (by kernel_rfl) (by simp) ?_
              refine AllReadyIn.cons rfl (fun K hK => ?_) AllReadyIn.nil
              go_simp
              refine hK _ _ ?_
              clear hK K
              refine wpAnyIn_done (by kernel_rfl) ?_ _
              obtain ⟨g1, g2, g3, g4, hrow, hel, ho, hoc, hD⟩ := HG.out
              obtain ⟨t1, t2, t3⟩ := HT.out
              have hz := HZ3.out
              refine ⟨rfl, ⟨?_, ?_⟩, ⟨t3, fun i o hi ho' hc => t2 i o ho' (by omega) hc⟩, t1⟩
              · rw [ho]; exact t2 _ _ ho (by omega) (fun cs sp e => by subst e; cases hoc)
              · rw [hD]; exact t2 _ _ hD (by omega) (fun cs sp e => by cases e)
            exact AllReadyIn.nil
          refine AllReadyIn.cons rfl (fun K hK => ?_) ?_
          · go_simp
            refine hK _ _ ?_
            clear hK K
            try simp only [Act.put, List.setIfInBounds_toArray, List.set_cons_succ]
            refine wpAnyIn_ready (rs := [0]) (by kernel_rfl) (by simp) ?_
            refine AllReadyIn.cons rfl (fun K hK => ?_) ?_
            · go_simp
              refine hK _ _ ?_
              clear hK K
              try simp only [Act.put, List.setIfInBounds_toArray, List.set_cons_succ]
              refine wpAnyIn_ready (rs := [4]) (by kernel_rfl) (by simp) ?_
              refine AllReadyIn.cons rfl (fun K hK => ?_) AllReadyIn.nil
              refine append_row_in (by rfl) (.tmp 28) (.tmp 31) (by rfl) W.heap.size v s.length us (by rfl) HR6.out.1 w5.heap.size (.slice a5 x.length c5) (by rfl) HR6.out.2.1 HR6.out.2.2.1 HR6.out.2.2.2.1 HR6.out.2.2.2.2 ?_
              intro v7 w7 hr7 hg7 _
              obtain ⟨a7, c7, rfl⟩ := owns_slice hr7
              refine hK _ _ ?_
              clear hK K
              obtain ⟨g1, g2, g3, g4, hrow, hel, g5⟩ := HG.out
              obtain ⟨t1, t2, t3⟩ := PastInv.step g1 g2 g3 g4 (Nat.le_succ _) hrow hel HB5.out.1 HB5.out.2 ((Below.refl w5.heap.size w5).alloc (Nat.le_refl _) _) hg7 hr7
              have cB7 := HF7.out w7 hg7
              have fB7 : w7.frozen? ⟨W.heap.size + 1, 0, none⟩ = false := blk_frozen cB7 0
              have cB8 : w7.cell? ⟨W.heap.size + 1, 0, none⟩ = some v := blk_cell cB7 0
              have HT := Lib.hid (And.intro t1 (And.intro t2 t3))
              clear t1 t2 t3 g1 g2 g3 g4 hrow hel g5 cB7 hr7 hg7
              refine wpAnyIn_ready (rs := [5]) (by kernel_rfl) (by simp) ?_
              refine AllReadyIn.cons rfl (fun K hK => ?_) AllReadyIn.nil
              go_simp
              refine hK _ _ ?_
              clear hK K
              refine wpAnyIn_done (by kernel_rfl) ?_ _
              obtain ⟨g1, g2, g3, g4, hrow, hel, ho, hoc, hD⟩ := HG.out
              obtain ⟨t1, t2, t3⟩ := HT.out
              have hz := HZ3.out
              refine ⟨rfl, ⟨?_, ?_⟩, ⟨t3, fun i o hi ho' hc => t2 i o ho' (by omega) hc⟩, t1⟩
              · rw [ho]; exact t2 _ _ ho (by omega) (fun cs sp e => by subst e; cases hoc)
              · rw [hD]; exact t2 _ _ hD (by omega) (fun cs sp e => by cases e)
            exact AllReadyIn.nil
          exact AllReadyIn.nil
        exact AllReadyIn.nil
      exact AllReadyIn.nil
theorem here_past {w W : World} {D : Nat} {d : Dev} (h : DevHere w D d W) (k : Nat) (hk : k < d.sectors) (hpl : (d.past k).length ≤ 65536) : Calls Try.prog 28 #[.pointer (some ⟨D, 0, none⟩), .int .i64 k] W fun e W' => ∃ u, e = .returned u ∧ PRows W.heap.size W' u (d.pasts k) ∧ Below W.heap.size W W' := by
  obtain ⟨O, ⟨F, P, L, lv, fm, pm, lm, hd⟩, _⟩ := h
  exact past_parts _ O W D F P L lv fm pm lm d hd k hk hpl
end Go.Proofs.Ytadglpnmhpmebaa

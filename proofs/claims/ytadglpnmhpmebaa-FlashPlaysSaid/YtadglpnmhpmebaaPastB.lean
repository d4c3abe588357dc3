/-
  flash: the iterator over what a sector was given, the newest first, the noughts last.
  Conditions: none.
-/
import Derived.Test.YtadglpnmhpmebaaPastA
import Derived.Test.YtadglpnmhpmebaaNearRange
import Derived.Test.YtadglpnmhpmebaaFlash11
import Derived.Deep.RegionHeld3
import Derived.BigRegionIn
namespace Go.Proofs.Ytadglpnmhpmebaa
open Go.RowKit Go.Shelf
attribute [local go_sem] Oper.semAt_some

theorem pastOf_any (D : Nat) (k : Int) (w : World) : Calls Try.prog 43 #[.pointer (some ⟨D, 0, none⟩), .int .i64 k] w fun e w' => e = .returned (.func (.func 46) #[] #[.pointer (some ⟨w.heap.size, 0, none⟩), .pointer (some ⟨w.heap.size + 1, 0, none⟩)]) ∧ (w.alloc (.cells #[.pointer (some ⟨D, 0, none⟩)] 24)).alloc (.cells #[.int .i64 k] 3) = w' := by
  go_enter Try.func43, Try.ntmps43
  go_wp2
  go_ret
  exact ⟨rfl, rfl⟩
theorem backward_any (a : Option Addr) (m c : Nat) (w : World) : Calls Try.prog 47 #[.slice a m c] w fun e w' => e = .returned (.func (.func 51) #[] #[.pointer (some ⟨w.heap.size, 0, none⟩)]) ∧ w.alloc (.cells #[.slice a m c] 56) = w' := by
  go_enter Try.func47, Try.ntmps47
  go_wp2
  go_ret
  exact ⟨rfl, rfl⟩
theorem ownsRow_posP {W : World} {base : Nat} {e : TypeId} {size : Nat} {v : Value} {n : Nat} {xs : List Value} (h : W.ownsRow base e size v n xs) (hn : 0 < n) : ∃ g cap, v = .slice (some ⟨g, 0, none⟩) n cap := by
  rcases h.2 with ⟨_, h0⟩ | ⟨g, cap, _, rfl, h1, _⟩
  · omega
  · exact ⟨g, cap, rfl⟩
theorem yield_wide0 {l m m' : Nat} {args : Array Value} {W : World} {R : Ending → World → Prop} (h : YieldAt Fence.wide m Try.prog l args W R) : YieldAt Fence.wide m' Try.prog l args W R := by
  obtain ⟨fn, tmps, assign, body, h1, h2⟩ := h
  exact ⟨fn, tmps, assign, body, h1, h2.1, fun c cs _ => h2.2 c cs (room_wide _)⟩
theorem zeros_at {W : World} {v : Value} {b n : Nat} (h : W.ownsRow b 5 1 v n (cellsOf (zeros n))) : BytesAt W.drew.heap.size W.drew v (zeros n) := by
  have h2 : W.ownsRow b 5 1 v (zeros n).length (cellsOf (zeros n)) := by rw [zeros_len]; exact h
  exact BytesAt.of_owns h2
/-- What a sector was given, the newest first, the noughts last. -/
def Dev.pasts (d : Dev) (k : Nat) : List (List (BitVec 8)) := (d.past k).reverse ++ [zeros d.size]
set_option maxRecDepth 100000 in
set_option maxHeartbeats 4000000 in
theorem pastOf1_any (n₀ : Nat) (O : Foot) (Wd W0 : World) (D F P L : Nat) (lv : Value) (fm pm lm : List (Int × Value)) (d : Dev) (hd : DevParts n₀ O Wd D F P L lv fm pm lm d) (k : Nat) (hk : k < d.sectors) (hpl : (d.past k).length ≤ 65536) (l X1 X2 : Nat) (hl : l < W0.heap.size)
    (J : List (List (BitVec 8)) → World → Prop)
    (hfacts : ∀ s W, J s W → Same O Wd W ∧ W.cell? ⟨X1, 0, none⟩ = some (.pointer (some ⟨D, 0, none⟩)) ∧ W.cell? ⟨X2, 0, none⟩ = some (.int .i64 k))
    (hbel : ∀ s W W', J s W → Below W.heap.size W W' → J s W')
    (hput : ∀ s W i o o', l < i → W.heap[i]? = some o → o.isCells = false → J s W → J s (W.putObj i o')) (h0 : J [] W0)
    (hY : ∀ s u x W, J s W → s.length ≤ (d.past k).length → BytesAt W.heap.size W u x → x.length = d.size → YieldAt Fence.wide 1 Try.prog l #[u] W fun e W' => e = .returned (.bool true) ∧ J (s ++ [x]) W' ∧ Stay 42 l W W') :
    Calls Try.prog 46 #[.func (.yield l) #[] #[], .pointer (some ⟨X1, 0, none⟩), .pointer (some ⟨X2, 0, none⟩)] W0 fun e W' => (∃ v, e = .returned v) ∧ J (d.pasts k) W' := by
  have HJF := Lib.hid hfacts
  have HJB := Lib.hid hbel
  have HJP := Lib.hid hput
  have HJY := Lib.hid hY
  have HL := Lib.hid hl
  have HPL := Lib.hid hpl
  have HD := Lib.hid hd
  have hpr := hd.pastOf k hk
  obtain ⟨pv, hpv⟩ : ∃ pv, (mget pm k).getD (.slice none 0 0) = pv := ⟨_, rfl⟩
  rw [hpv] at hpr
  obtain ⟨us, hrow, hown, hcells⟩ := hpr
  obtain ⟨pa, pc, rfl⟩ := owns_slice hrow
  have hul : us.length = (d.past k).length := by have := hrow.1; omega
  rw [← hul] at hpv hrow hown
  have HUL := Lib.hid hul
  have HRF : Hid (∀ W, Same O Wd W → ∀ i, i < us.length → ∃ g, pa = some ⟨g, 0, none⟩ ∧ W.cell? ⟨g, i, none⟩ = some (us[i]?.getD undef)) := fun W hs i hi => by
    have hr := hs.row hrow hown
    obtain ⟨g, cp, e⟩ := ownsRow_posP hr (by omega)
    simp only [Value.slice.injEq] at e
    obtain ⟨rfl, _, rfl⟩ := e
    refine ⟨g, rfl, ?_⟩
    have hc := hr.cellAt i (by omega)
    rw [hc, List.getElem?_eq_getElem hi]
    rfl
  have HBI : Hid (∀ W, Same O Wd W → ∀ i x, (d.past k)[i]? = some x → ∃ u, us[i]? = some u ∧ BytesAt W.heap.size W u x) := fun W hs i x hx => by
    obtain ⟨u, hu, hb⟩ := hcells i x hx
    exact ⟨u, hu, (hs.bytes hb).1⟩
  clear hrow hown hcells hul
  have HLK : Hid (∀ W : World, Same O Wd W → W.cell? ⟨D, 3, none⟩ = some (.map (some P)) ∧ (Instr.lookup 64 (.map (some P)) (.int .i64 (k : Int)) false).run Try.prog W = .ok (.slice pa us.length pc) W) := by
    intro W hs
    refine ⟨?_, ?_⟩
    · have : DevBlk W D d.sectors d.size F P lv L d.armed d.acts d.down := (hs.2 D hd.oD).trans hd.blk
      exact blk_cell this 3
    · have hm := hd.mP.same (hs.2 P hd.oP)
      have := run_lookup_int (P := Try.prog) Try.underlying64 Try.underlying3 hm (k : Int) _ (zeroRows W) false
      simpa [hpv] using this
  have HJ0 := Lib.hid h0
  clear hfacts hbel hput hY hl hpl hd hpv h0
  refine callsIn_wide (n := 3).1 ?_
  refine callsIn_of_wp_marks Try.func46 rfl trivial ?_ rfl
  simp only [Try.ntmps46, List.size_toArray, List.length_cons, List.length_nil, Nat.reduceAdd, Nat.reduceSub, Array.replicate_succ, Array.replicate_zero, List.push_toArray, List.append_toArray, List.nil_append, List.cons_append]
  refine wpIn_wide.2 ?_
  go_upto_region 1 with (fail)
  obtain ⟨W1, hW1⟩ : ∃ W1, W0.alloc (.cells #[.func (.yield l) #[] #[]] 88) = W1 := ⟨_, rfl⟩
  have hb1 : Below W0.heap.size W0 W1 := by rw [← hW1]; exact (Below.refl _ _).alloc (Nat.le_refl _) _
  have hy1 : W1.heap[W0.heap.size]? = some (.cells #[.func (.yield l) #[] #[]] 88 (0, 0)) := by rw [← hW1]; exact heap_alloc_new _ _
  change (Code.region _ _ _).wp _ _ _ (W0.alloc (.cells #[.func (.yield l) #[] #[]] 88))
  rw [hW1]
  have hj1 := HJB.out _ _ W1.drew HJ0.out hb1.drew
  obtain ⟨hs1, x1, x2⟩ := HJF.out _ _ hj1
  obtain ⟨x3, lk⟩ := HLK.out W1.drew hs1
  have HB1 := Lib.hid hb1
  have HY1 := Lib.hid hy1
  have HJ1 := Lib.hid hj1
  have HBW := Lib.hid (backward_any pa us.length pc)
  clear hW1 hb1 hy1 hj1
  go_cut [12] from 6 to 12 (fun s12 wx => s12 = .func (.func 51) #[] #[.pointer (some ⟨W1.heap.size, 0, none⟩)] ∧ (W1.drew.alloc (.cells #[.slice pa us.length pc] 56)) = wx)
  case first =>
    go_region_held3 (fun W => W.cell? ⟨X1, 0, none⟩ = some (.pointer (some ⟨D, 0, none⟩)) ∧ W.cell? ⟨X2, 0, none⟩ = some (.int .i64 k) ∧ W.cell? ⟨D, 3, none⟩ = some (.map (some P)) ∧ (Instr.lookup 64 (.map (some P)) (.int .i64 (k : Int)) false).run Try.prog W = .ok (.slice pa us.length pc) W)
      (first | exact ⟨x1, x2, x3, lk⟩ | exact HS2.out)
      (first | (go_at_call 47; (with_reducible refine (HBW.out _).mono ?_); rintro e w' ⟨rfl, rfl⟩; have hj2 := HJB.out _ _ _ HJ1.out ((Below.refl W1.drew.heap.size W1.drew).alloc (Nat.le_refl _) (.cells #[.slice pa us.length pc] 56)); have HS2 := Lib.hid (And.intro (HJF.out _ _ hj2).2.1 (And.intro (HJF.out _ _ hj2).2.2 (HLK.out _ (HJF.out _ _ hj2).1))); clear hj2))
    all_goals (go_wp2_with fail)
    all_goals go_meet
    all_goals exact ⟨rfl, rfl⟩
  case rest =>
    obtain ⟨rfl, rfl⟩ := hcut
    obtain ⟨W2, hW2⟩ : ∃ W2, W1.drew.alloc (.cells #[.slice pa us.length pc] 56) = W2 := ⟨_, rfl⟩
    have hb2 : Below W1.heap.size W1 W2 := by rw [← hW2]; exact ((Below.refl W1.heap.size W1).drew).alloc (Nat.le_refl _) _
    have hbx : W2.heap[W1.heap.size]? = some (.cells #[.slice pa us.length pc] 56 (0, 0)) := by rw [← hW2]; exact heap_alloc_new W1.drew _
    have hz2 : W2.heap.size = W1.heap.size + 1 := by rw [← hW2]; exact World.size_alloc ..
    have hy2 := (hb2.block _ (blk_lt HY1.out)).trans HY1.out
    have hj2 : J [] W2 := by rw [← hW2]; exact HJB.out _ _ _ HJ1.out ((Below.refl W1.drew.heap.size W1.drew).alloc (Nat.le_refl _) _)
    have hY1l := blk_lt HY1.out
    have HLB : Hid (l < W0.heap.size ∧ W0.heap.size < W1.heap.size ∧ W2.heap.size = W1.heap.size + 1) := ⟨HL.out, hY1l, hz2⟩
    rw [hW2]
    have HY2 := Lib.hid hy2
    have HX2 := Lib.hid hbx
    have HJ2 := Lib.hid hj2
    clear hW2 hb2 hbx hz2 hy2 hj2 hY1l hs1 x1 x2 x3 lk HBW
    go_wp2
    refine (wpIn_wide (n := 3)).1 ?_
    refine rangeFunc_near (α := Int × Value) (γ := Nat) (F := Fence.wide) rfl (by decide) (gf := 51) (lb := #[.pointer (some ⟨W1.heap.size, 0, none⟩)]) rfl trivial (enters_of Try.func51 (by kernel_rfl) rfl)
      (fun x => #[.int .i64 x.1, x.2]) (fun _ => rfl) (fun s _ => s + 1) 0 42
      (fun s W => s ≤ us.length ∧ J ((d.past k).reverse.take s) W ∧ W.heap[W0.heap.size]? = some (.cells #[.func (.yield l) #[] #[]] 88 (0, 0)) ∧ W.heap[W1.heap.size]? = some (.cells #[.slice pa us.length pc] 56 (0, 0)))
      (fun s x _ => s < us.length ∧ x = ((us.length : Int) - 1 - s, us[us.length - 1 - s]?.getD undef)) (fun s => s = us.length) ?hbel ?hturn ?hmayT ?hround ?h0 ?hcall ?hdone
    case hbel =>
      rintro s W W' ⟨h0, h1, h2, h3⟩ hb
      exact ⟨h0, HJB.out _ _ _ h1 hb, (hb.block _ (blk_lt h2)).trans h2, (hb.block _ (blk_lt h3)).trans h3⟩
    case hturn =>
      rintro s W i o o' hi ho hc ⟨h0, h1, h2, h3⟩
      have hlb := HLB.out
      exact ⟨h0, HJP.out _ _ _ _ _ (by omega) ho hc h1, (World.putObj_heap_other (by omega)).trans h2, (World.putObj_heap_other (by omega)).trans h3⟩
    case hmayT => exact fun _ _ _ _ _ _ _ h => h
    case h0 =>
      intro o ho
      have hbw : Below W2.heap.size W2 ((W2.alloc (.deferred (some []))).alloc o) := ((Below.refl _ W2).alloc (Nat.le_refl _) _).alloc (by simp) _
      exact ⟨Nat.zero_le _, HJB.out _ _ _ HJ2.out hbw, (hbw.block _ (blk_lt HY2.out)).trans HY2.out, (hbw.block _ (blk_lt HX2.out)).trans HX2.out⟩
    case hcall =>
      intro l2 J2 W3 hl2 hl3 hJI hJB2 hJP2 hJ0 hY2
      refine (backward1_in 2 (by decide) l2 W1.heap.size pa pc us (by have := HUL.out; have := HPL.out; omega) (fun s W => J2 s W ∧ s ≤ us.length) (fun _ => False) W3 (fun s W hj => ?_) ⟨hJ0, Nat.zero_le _⟩ (fun s W hj hlt => ?_)).mono ?_
      · obtain ⟨_, h1, h2, h3⟩ := hJI _ _ hj.1
        exact ⟨blk_cell h3 0, HRF.out _ (HJF.out _ _ h1).1⟩
      · refine (hY2 s ((us.length : Int) - 1 - s, us[us.length - 1 - s]?.getD undef) W hj.1 ⟨hlt, rfl⟩).mono ?_
        rintro e W4 ⟨rfl, h1, _⟩
        exact .inl ⟨rfl, h1, hlt⟩
      · rintro e W4 ⟨hv, ⟨s, hns, h1, h2⟩ | h1⟩
        · exact ⟨hv, us.length, rfl, by have : s = us.length := by omega
                                        subst this; exact h1⟩
        · exact h1.elim
    case hdone =>
      rintro W3 s rfl ⟨_, h1, h2, h3⟩ hK
      rw [HUL.out, ← List.length_reverse, List.take_length] at h1
      have h1d := HJB.out _ _ W3.drew h1 (Below.refl _ _).drew
      obtain ⟨hs3, cx1, _⟩ := HJF.out _ _ h1
      have cD : W3.cell? ⟨D, 1, none⟩ = some (.int .i64 d.size) := by
        have : DevBlk W3 D d.sectors d.size F P lv L d.armed d.acts d.down := (hs3.2 D HD.out.oD).trans HD.out.blk
        exact blk_cell this 1
      have cy : W3.cell? ⟨W0.heap.size, 0, none⟩ = some (.func (.yield l) #[] #[]) := blk_cell h2 0
      have HJ3 := Lib.hid h1d
      have HK3 := Lib.hid hK
      have m1 : (96 : Int) ≤ d.size := by have := HD.out.right.2.1; omega
      have m2 : (d.size : Int) ≤ 512 := by have := HD.out.right.2.2; omega
      have hmk := makeBytes d.size (by have := HD.out.right.2.2; omega)
      have hbz : Below W3.heap.size W3 (W3.alloc (.cells (madeCells #[.int .u8 0] d.size) 5)).drew := ((Below.refl W3.heap.size W3).alloc (Nat.le_refl _) _).drew
      have cy2 : (W3.alloc (.cells (madeCells #[.int .u8 0] d.size) 5)).drew.cell? ⟨W0.heap.size, 0, none⟩ = some (.func (.yield l) #[] #[]) := (hbz.cell (p := ⟨W0.heap.size, 0, none⟩) (World.block_lt_of_cell? _ _ cy)).trans cy
      have hjz := HJB.out _ _ _ h1 hbz
      have HKZ := Lib.hid ((hbz.block _ (Array.getElem?_eq_some_iff.1 hK).1).trans hK)
      have hoz := own_zeros W3 W3.heap.size d.size (Nat.le_refl _) (by have := HD.out.right.2.2; omega)
      have hyz := yield_wide0 (m' := 2) (HJY.out _ (.slice (some ⟨W3.heap.size, 0, none⟩) d.size d.size) (zeros d.size) _ hjz (by rw [List.length_reverse]; exact Nat.le_refl _) (zeros_at hoz) (zeros_len _))
      obtain ⟨fn, tmps, assign, body, hy, hR⟩ := hyz
      clear h1 h1d h2 h3 hK hs3 hbz hjz hoz
      go_upto_region 4 with (fail)
      refine (wpIn_wide (n := 3)).1 ?_
      refine wpIn_region_any (by kernel_rfl) ?_
      change wpAnyIn _ _ _ _ _ _ _ _ _ (World.drew _)
      refine wpAnyIn_ready (rs := [0, 1]) (by kernel_rfl) (by simp) ?_
      refine AllReadyIn.cons rfl (fun K hK => ?_) ?_
      · go_simp
        refine hK _ _ ?_
        clear hK K
        try simp only [Act.put, List.setIfInBounds_toArray, List.set_cons_zero, List.set_cons_succ]
        refine wpAnyIn_ready (rs := [1]) (by kernel_rfl) (by simp) ?_
        refine AllReadyIn.cons rfl (fun K hK => ?_) ?_
        · go_simp
          refine hK _ _ ?_
          clear hK K
          try simp only [Act.put, List.setIfInBounds_toArray, List.set_cons_zero, List.set_cons_succ]
          refine wpAnyIn_ready (rs := [2]) (by kernel_rfl) (by simp) ?_
          refine AllReadyIn.cons rfl (fun K hK => ?_) ?_
          · go_simp
            refine hK _ _ ?_
            clear hK K
            try simp only [Act.put, List.setIfInBounds_toArray, List.set_cons_zero, List.set_cons_succ]
            refine wpAnyIn_ready (rs := [3]) (by kernel_rfl) (by simp) ?_
            refine AllReadyIn.cons rfl (fun K hK => ?_) ?_
            · go_simp
              refine hK _ _ ?_
              clear hK K
              try simp only [Act.put, List.setIfInBounds_toArray, List.set_cons_zero, List.set_cons_succ]
              refine wpAnyIn_ready (rs := [4]) (by kernel_rfl) (by simp) ?_
              refine AllReadyIn.cons rfl (fun K hK => ?_) ?_
              · go_simp
                refine hK _ _ ?_
                clear hK K
                try simp only [Act.put, List.setIfInBounds_toArray, List.set_cons_zero, List.set_cons_succ]
                refine wpAnyIn_ready (rs := [5]) (by kernel_rfl) (by simp) ?_
                refine AllReadyIn.cons rfl (fun K hK => ?_) ?_
                · go_simp
                  refine hK _ _ ?_
                  clear hK K
                  try simp only [Act.put, List.setIfInBounds_toArray, List.set_cons_zero, List.set_cons_succ]
                  refine wpAnyIn_ready (rs := [6]) (by kernel_rfl) (by simp) ?_
                  refine AllReadyIn.cons rfl (fun K hK => ?_) ?_
                  · go_simp
                    refine hR.mono ?_
                    rintro e W4 ⟨rfl, hj4, hst⟩
                    refine hK _ _ ?_
                    clear hK K
                    refine wpAnyIn_done (by kernel_rfl) ?_ _
                    have hd4 : W4.heap[W2.heap.size]? = some (.deferred (some [])) := hst.2 _ _ (by have := HLB.out; omega) HKZ.out (fun cs sp e => by cases e)
                    have HJ4 := Lib.hid hj4
                    have HD4 := Lib.hid hd4
                    clear hj4 hst hd4 hR hy
                    refine ⟨by simp, .inl ⟨_, _, rfl, run_takeDeferred HD4.out, ?_⟩⟩
                    exact ⟨_, results_none rfl _ _ _, ⟨_, rfl⟩, HJP.out _ _ _ _ _ (by have := HLB.out; omega) HD4.out rfl HJ4.out⟩
                  exact AllReadyIn.nil
                exact AllReadyIn.nil
              exact AllReadyIn.nil
            exact AllReadyIn.nil
          exact AllReadyIn.nil
        exact AllReadyIn.nil
      refine AllReadyIn.cons rfl (fun K hK => ?_) ?_
      · go_simp
        refine hK _ _ ?_
        clear hK K
        try simp only [Act.put, List.setIfInBounds_toArray, List.set_cons_zero, List.set_cons_succ]
        refine wpAnyIn_ready (rs := [0, 2]) (by kernel_rfl) (by simp) ?_
        refine AllReadyIn.cons rfl (fun K hK => ?_) ?_
        · go_simp
          refine hK _ _ ?_
          clear hK K
          try simp only [Act.put, List.setIfInBounds_toArray, List.set_cons_zero, List.set_cons_succ]
          refine wpAnyIn_ready (rs := [2]) (by kernel_rfl) (by simp) ?_
          refine AllReadyIn.cons rfl (fun K hK => ?_) ?_
          · go_simp
            refine hK _ _ ?_
            clear hK K
            try simp only [Act.put, List.setIfInBounds_toArray, List.set_cons_zero, List.set_cons_succ]
            refine wpAnyIn_ready (rs := [3]) (by kernel_rfl) (by simp) ?_
            refine AllReadyIn.cons rfl (fun K hK => ?_) ?_
            · go_simp
              refine hK _ _ ?_
              clear hK K
              try simp only [Act.put, List.setIfInBounds_toArray, List.set_cons_zero, List.set_cons_succ]
              refine wpAnyIn_ready (rs := [4]) (by kernel_rfl) (by simp) ?_
              refine AllReadyIn.cons rfl (fun K hK => ?_) ?_
              · go_simp
                refine hK _ _ ?_
                clear hK K
                try simp only [Act.put, List.setIfInBounds_toArray, List.set_cons_zero, List.set_cons_succ]
                refine wpAnyIn_ready (rs := [5]) (by kernel_rfl) (by simp) ?_
                refine AllReadyIn.cons rfl (fun K hK => ?_) ?_
                · go_simp
                  refine hK _ _ ?_
                  clear hK K
                  try simp only [Act.put, List.setIfInBounds_toArray, List.set_cons_zero, List.set_cons_succ]
                  refine wpAnyIn_ready (rs := [6]) (by kernel_rfl) (by simp) ?_
                  refine AllReadyIn.cons rfl (fun K hK => ?_) ?_
                  · go_simp
                    refine hR.mono ?_
                    rintro e W4 ⟨rfl, hj4, hst⟩
                    refine hK _ _ ?_
                    clear hK K
                    refine wpAnyIn_done (by kernel_rfl) ?_ _
                    have hd4 : W4.heap[W2.heap.size]? = some (.deferred (some [])) := hst.2 _ _ (by have := HLB.out; omega) HKZ.out (fun cs sp e => by cases e)
                    have HJ4 := Lib.hid hj4
                    have HD4 := Lib.hid hd4
                    clear hj4 hst hd4 hR hy
                    refine ⟨by simp, .inl ⟨_, _, rfl, run_takeDeferred HD4.out, ?_⟩⟩
                    exact ⟨_, results_none rfl _ _ _, ⟨_, rfl⟩, HJP.out _ _ _ _ _ (by have := HLB.out; omega) HD4.out rfl HJ4.out⟩
                  exact AllReadyIn.nil
                exact AllReadyIn.nil
              exact AllReadyIn.nil
            exact AllReadyIn.nil
          exact AllReadyIn.nil
        refine AllReadyIn.cons rfl (fun K hK => ?_) ?_
        · go_simp
          refine hK _ _ ?_
          clear hK K
          try simp only [Act.put, List.setIfInBounds_toArray, List.set_cons_zero, List.set_cons_succ]
          refine wpAnyIn_ready (rs := [0, 3]) (by kernel_rfl) (by simp) ?_
          refine AllReadyIn.cons rfl (fun K hK => ?_) ?_
          · go_simp
            refine hK _ _ ?_
            clear hK K
            try simp only [Act.put, List.setIfInBounds_toArray, List.set_cons_zero, List.set_cons_succ]
            refine wpAnyIn_ready (rs := [3]) (by kernel_rfl) (by simp) ?_
            refine AllReadyIn.cons rfl (fun K hK => ?_) ?_
            · go_simp
              refine hK _ _ ?_
              clear hK K
              try simp only [Act.put, List.setIfInBounds_toArray, List.set_cons_zero, List.set_cons_succ]
              refine wpAnyIn_ready (rs := [4]) (by kernel_rfl) (by simp) ?_
              refine AllReadyIn.cons rfl (fun K hK => ?_) ?_
              · go_simp
                refine hK _ _ ?_
                clear hK K
                try simp only [Act.put, List.setIfInBounds_toArray, List.set_cons_zero, List.set_cons_succ]
                refine wpAnyIn_ready (rs := [5]) (by kernel_rfl) (by simp) ?_
                refine AllReadyIn.cons rfl (fun K hK => ?_) ?_
                · go_simp
                  refine hK _ _ ?_
                  clear hK K
                  try simp only [Act.put, List.setIfInBounds_toArray, List.set_cons_zero, List.set_cons_succ]
                  refine wpAnyIn_ready (rs := [6]) (by kernel_rfl) (by simp) ?_
                  refine AllReadyIn.cons rfl (fun K hK => ?_) ?_
                  · go_simp
                    refine hR.mono ?_
                    rintro e W4 ⟨rfl, hj4, hst⟩
                    refine hK _ _ ?_
                    clear hK K
                    refine wpAnyIn_done (by kernel_rfl) ?_ _
                    have hd4 : W4.heap[W2.heap.size]? = some (.deferred (some [])) := hst.2 _ _ (by have := HLB.out; omega) HKZ.out (fun cs sp e => by cases e)
                    have HJ4 := Lib.hid hj4
                    have HD4 := Lib.hid hd4
                    clear hj4 hst hd4 hR hy
                    refine ⟨by simp, .inl ⟨_, _, rfl, run_takeDeferred HD4.out, ?_⟩⟩
                    exact ⟨_, results_none rfl _ _ _, ⟨_, rfl⟩, HJP.out _ _ _ _ _ (by have := HLB.out; omega) HD4.out rfl HJ4.out⟩
                  exact AllReadyIn.nil
                exact AllReadyIn.nil
              exact AllReadyIn.nil
            exact AllReadyIn.nil
          refine AllReadyIn.cons rfl (fun K hK => ?_) ?_
          · go_simp
            refine hK _ _ ?_
            clear hK K
            try simp only [Act.put, List.setIfInBounds_toArray, List.set_cons_zero, List.set_cons_succ]
            refine wpAnyIn_ready (rs := [0, 4]) (by kernel_rfl) (by simp) ?_
            refine AllReadyIn.cons rfl (fun K hK => ?_) ?_
            · go_simp
              refine hK _ _ ?_
              clear hK K
              try simp only [Act.put, List.setIfInBounds_toArray, List.set_cons_zero, List.set_cons_succ]
              refine wpAnyIn_ready (rs := [4]) (by kernel_rfl) (by simp) ?_
              refine AllReadyIn.cons rfl (fun K hK => ?_) ?_
              · go_simp
                refine hK _ _ ?_
                clear hK K
                try simp only [Act.put, List.setIfInBounds_toArray, List.set_cons_zero, List.set_cons_succ]
                refine wpAnyIn_ready (rs := [5]) (by kernel_rfl) (by simp) ?_
                refine AllReadyIn.cons rfl (fun K hK => ?_) ?_
                · go_simp
                  refine hK _ _ ?_
                  clear hK K
                  try simp only [Act.put, List.setIfInBounds_toArray, List.set_cons_zero, List.set_cons_succ]
                  refine wpAnyIn_ready (rs := [6]) (by kernel_rfl) (by simp) ?_
                  refine AllReadyIn.cons rfl (fun K hK => ?_) ?_
                  · go_simp
                    refine hR.mono ?_
                    rintro e W4 ⟨rfl, hj4, hst⟩
                    refine hK _ _ ?_
                    clear hK K
                    refine wpAnyIn_done (by kernel_rfl) ?_ _
                    have hd4 : W4.heap[W2.heap.size]? = some (.deferred (some [])) := hst.2 _ _ (by have := HLB.out; omega) HKZ.out (fun cs sp e => by cases e)
                    have HJ4 := Lib.hid hj4
                    have HD4 := Lib.hid hd4
                    clear hj4 hst hd4 hR hy
                    refine ⟨by simp, .inl ⟨_, _, rfl, run_takeDeferred HD4.out, ?_⟩⟩
                    exact ⟨_, results_none rfl _ _ _, ⟨_, rfl⟩, HJP.out _ _ _ _ _ (by have := HLB.out; omega) HD4.out rfl HJ4.out⟩
                  exact AllReadyIn.nil
                exact AllReadyIn.nil
              exact AllReadyIn.nil
            refine AllReadyIn.cons rfl (fun K hK => ?_) ?_
            · go_simp
              refine hK _ _ ?_
              clear hK K
              try simp only [Act.put, List.setIfInBounds_toArray, List.set_cons_zero, List.set_cons_succ]
              refine wpAnyIn_ready (rs := [0, 5]) (by kernel_rfl) (by simp) ?_
              refine AllReadyIn.cons rfl (fun K hK => ?_) ?_
              · go_simp
                refine hK _ _ ?_
                clear hK K
                try simp only [Act.put, List.setIfInBounds_toArray, List.set_cons_zero, List.set_cons_succ]
                refine wpAnyIn_ready (rs := [5]) (by kernel_rfl) (by simp) ?_
                refine AllReadyIn.cons rfl (fun K hK => ?_) ?_
                · go_simp
                  refine hK _ _ ?_
                  clear hK K
                  try simp only [Act.put, List.setIfInBounds_toArray, List.set_cons_zero, List.set_cons_succ]
                  refine wpAnyIn_ready (rs := [6]) (by kernel_rfl) (by simp) ?_
                  refine AllReadyIn.cons rfl (fun K hK => ?_) ?_
                  · go_simp
                    refine hR.mono ?_
                    rintro e W4 ⟨rfl, hj4, hst⟩
                    refine hK _ _ ?_
                    clear hK K
                    refine wpAnyIn_done (by kernel_rfl) ?_ _
                    have hd4 : W4.heap[W2.heap.size]? = some (.deferred (some [])) := hst.2 _ _ (by have := HLB.out; omega) HKZ.out (fun cs sp e => by cases e)
                    have HJ4 := Lib.hid hj4
                    have HD4 := Lib.hid hd4
                    clear hj4 hst hd4 hR hy
                    refine ⟨by simp, .inl ⟨_, _, rfl, run_takeDeferred HD4.out, ?_⟩⟩
                    exact ⟨_, results_none rfl _ _ _, ⟨_, rfl⟩, HJP.out _ _ _ _ _ (by have := HLB.out; omega) HD4.out rfl HJ4.out⟩
                  exact AllReadyIn.nil
                exact AllReadyIn.nil
              refine AllReadyIn.cons rfl (fun K hK => ?_) ?_
              · go_simp
                refine hK _ _ ?_
                clear hK K
                try simp only [Act.put, List.setIfInBounds_toArray, List.set_cons_zero, List.set_cons_succ]
                refine wpAnyIn_ready (rs := [0]) (by kernel_rfl) (by simp) ?_
                refine AllReadyIn.cons rfl (fun K hK => ?_) ?_
                · go_simp
                  refine hK _ _ ?_
                  clear hK K
                  try simp only [Act.put, List.setIfInBounds_toArray, List.set_cons_zero, List.set_cons_succ]
                  refine wpAnyIn_ready (rs := [6]) (by kernel_rfl) (by simp) ?_
                  refine AllReadyIn.cons rfl (fun K hK => ?_) ?_
                  · go_simp
                    refine hR.mono ?_
                    rintro e W4 ⟨rfl, hj4, hst⟩
                    refine hK _ _ ?_
                    clear hK K
                    refine wpAnyIn_done (by kernel_rfl) ?_ _
                    have hd4 : W4.heap[W2.heap.size]? = some (.deferred (some [])) := hst.2 _ _ (by have := HLB.out; omega) HKZ.out (fun cs sp e => by cases e)
                    have HJ4 := Lib.hid hj4
                    have HD4 := Lib.hid hd4
                    clear hj4 hst hd4 hR hy
                    refine ⟨by simp, .inl ⟨_, _, rfl, run_takeDeferred HD4.out, ?_⟩⟩
                    exact ⟨_, results_none rfl _ _ _, ⟨_, rfl⟩, HJP.out _ _ _ _ _ (by have := HLB.out; omega) HD4.out rfl HJ4.out⟩
                  exact AllReadyIn.nil
                exact AllReadyIn.nil
              exact AllReadyIn.nil
            exact AllReadyIn.nil
          exact AllReadyIn.nil
        exact AllReadyIn.nil
      exact AllReadyIn.nil
    case hround =>
      apply Exists.intro
      apply And.intro
      · intro l2 x W K hK2
        gi_wp2
        exact hK2
      · rintro l2 s x W ⟨hs, h1, h2, h3⟩ ⟨hlt, rfl⟩ hsz ⟨o, ho, hoc⟩ hD
        have hx : (d.past k)[us.length - 1 - s]? = (d.past k).reverse[s]? := by
          have hul := HUL.out
          rw [List.getElem?_reverse (by omega)]
          congr 1
          omega
        obtain ⟨x, hxx⟩ : ∃ x, (d.past k).reverse[s]? = some x := ⟨_, List.getElem?_eq_getElem (by rw [List.length_reverse, ← HUL.out]; exact hlt)⟩
        rw [hxx] at hx
        obtain ⟨u, hu, hub⟩ := HBI.out _ (HJF.out _ _ h1).1 _ _ hx
        have hxl := HD.out.plen k x (List.mem_of_getElem? hx)
        obtain ⟨fn, tmps, assign, body, hy, hR⟩ := yield_wide (m' := 0) (l' := l2) (HJY.out _ u x W h1 (by rw [List.length_take, List.length_reverse]; omega) hub hxl)
        have htk : (d.past k).reverse.take s ++ [x] = (d.past k).reverse.take (s + 1) := by
          rw [List.take_add_one, hxx]
          rfl
        rw [htk] at hR
        have cy : W.cell? ⟨W0.heap.size, 0, none⟩ = some (.func (.yield l) #[] #[]) := blk_cell h2 0
        have hu2 : us[us.length - 1 - s]?.getD undef = u := by rw [hu]; rfl
        have HH := Lib.hid (And.intro h2 (And.intro h3 (And.intro hlt (And.intro ho (And.intro hoc hD)))))
        rw [hu2]
        clear h1 h2 h3 hx hxx hu hub hxl htk hu2 hlt hs ho hoc hD hsz
        gi_wp2
        refine hR.mono ?_
        rintro e W4 ⟨rfl, hj4, hst⟩
        have HJ4 := Lib.hid hj4
        have HST := Lib.hid hst
        clear hj4 hst hy hR cy
        gi_wp2
        obtain ⟨h2, h3, hlt, ho, hoc, hD⟩ := HH.out
        have hlb := HLB.out
        have nt : ∀ {cs : Array Value} {t : TypeId} {cs' : Array Value} {sp : Nat × Nat}, t ≠ 42 → (Obj.cells cs t (0, 0)) ≠ .cells cs' 42 sp := fun hne h => by cases h; exact hne rfl
        refine ⟨⟨?_, ?_⟩, HST.out.more (by omega), ?_, HJ4.out, ?_, ?_⟩
        · rw [ho]; exact HST.out.2 _ _ (by omega) ho (fun cs sp e => by subst e; cases hoc)
        · rw [hD]; exact HST.out.2 _ _ (by omega) hD (fun cs sp e => by cases e)
        · omega
        · exact HST.out.2 _ _ (by omega) h2 (fun cs sp => nt (by decide))
        · exact HST.out.2 _ _ (by omega) h3 (fun cs sp => nt (by decide))
end Go.Proofs.Ytadglpnmhpmebaa

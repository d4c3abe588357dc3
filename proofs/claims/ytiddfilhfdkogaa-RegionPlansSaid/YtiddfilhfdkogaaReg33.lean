/-
  region: Format, Open on a device of 200 sectors of 96 bytes, of any plan; the document's Fit.
  Conditions: none.
-/
import Derived.Test.YtiddfilhfdkogaaReg32
import Derived.Test.YtiddfilhfdkogaaRefFitYes
import Derived.Test.YtiddfilhfdkogaaRefFitNot
namespace Go.Proofs.Ytiddfilhfdkogaa
open Go.RowKit Go.Shelf

theorem refFit_any (p : PlanP) (w : World) : Calls Try.prog 18 #[.agg p.cells] w fun e w' => e = .returned (.tuple #[.agg p.fit.cells, .int .i64 p.err]) ∧ Below w.heap.size w w' := by
  by_cases h : p.Alone
  · exact refFit_yes p h w
  · have hf : p.fits = false := by
      cases e : p.fits with
      | false => rfl
      | true => exact absurd ((fits_iff p).1 e).1 h
    have e1 : p.fit = LayP.zero := by unfold PlanP.fit; rw [hf]; rfl
    have e2 : p.err = 12 := by unfold PlanP.err; rw [hf]; rfl
    rw [e1, e2]
    exact refFit_not p h w
/-- Does a plan fit the device? -/
def PlanP.on200 (p : PlanP) : Prop := p.fits = true ∧ p.sectors = 200 ∧ p.size = 96
section
variable {w W : World} {D : Nat}
theorem format_bad (p : PlanP) (h : ¬ p.on200) (hd : DevHere w D (Dev.new 200 96) W) : Calls Try.prog 8 #[.pointer (some ⟨D, 0, none⟩), .agg p.cells] W (FormatNot 12 W) := by
  by_cases hm : p.sectors = 200 ∧ p.size = 96
  · have hf : p.fits = false := by
      cases e : p.fits with
      | false => rfl
      | true => exact absurd ⟨e, hm⟩ h
    have e2 : p.err = 12 := by unfold PlanP.err; rw [hf]; rfl
    refine format_not p _ p.fit 12 (by decide) W fun V hb => ?_
    obtain ⟨O, hda, _⟩ := hd.on hb
    obtain ⟨F, P, L, lv, fm, pm, lm, hp⟩ := hda
    have c0 : V.cell? ⟨D, 0, none⟩ = some (.int .i64 p.sectors) := by rw [hm.1]; exact blk_cell hp.blk 0
    have c1 : V.cell? ⟨D, 1, none⟩ = some (.int .i64 p.size) := by rw [hm.2]; exact blk_cell hp.blk 1
    have := glay_fit p c0 c1
    rwa [e2] at this
  · refine format_not p _ LayP.zero 12 (by decide) W fun V hb => ?_
    obtain ⟨O, hda, _⟩ := hd.on hb
    obtain ⟨F, P, L, lv, fm, pm, lm, hp⟩ := hda
    exact glay_not p (sec := 200) (siz := 96) (blk_cell hp.blk 0) (blk_cell hp.blk 1) hm
theorem open_bad (p : PlanP) (h : ¬ p.on200) (last : Int) (hd : DevHere w D (Dev.new 200 96) W) : Calls Try.prog 19 #[.pointer (some ⟨D, 0, none⟩), .agg p.cells, .int .i64 last] W (FormatNot 12 W) :=
  open_not p _ 12 last (by decide) W fun _ hb => format_bad p h (hd.on hb)
theorem format_good (p : PlanP) (h : p.on200) (hd : DevHere w D (Dev.new 200 96) W) : Calls Try.prog 8 #[.pointer (some ⟨D, 0, none⟩), .agg p.cells] W fun e w' => ∃ R, e = .returned (.tuple #[.pointer (some ⟨R, 0, none⟩), .int .i64 0]) ∧ LogApart w (fun _ => False) R D p.log0 (Dev.new 200 96) w' ∧ Below W.heap.size W w' :=
  (format_any p (apart_of hd (Below.refl _ W) (fun _ h => h.elim) (fun _ h => h.elim)) (fun _ h => h.elim) h.1 ⟨h.2.1, h.2.2⟩).mono fun _ _ ⟨R, _, he, hL, hb⟩ => ⟨R, he, hL, hb⟩
set_option maxRecDepth 100000 in
set_option maxHeartbeats 4000000 in
/-- Of a last region that is too great. -/
theorem open_huge (p : PlanP) (D : Value) (last : Int) (hl : 1099511627776 < last) (W : World) (h : ∀ V, Below W.heap.size W V → Calls Try.prog 8 #[D, .agg p.cells] V fun e w' => ∃ R, e = .returned (.tuple #[.pointer (some ⟨R, 0, none⟩), .int .i64 0]) ∧ Below V.heap.size V w') : Calls Try.prog 19 #[D, .agg p.cells, .int .i64 last] W (FormatNot 1 W) := by
  refine callsIn_wide (n := 3).1 ?_
  refine callsIn_of_wp_marks Try.func19 rfl trivial ?_ rfl
  simp only [Try.ntmps19, List.size_toArray, List.length_cons, List.length_nil, Nat.reduceAdd, Nat.reduceSub, Array.replicate_succ, Array.replicate_zero, List.push_toArray, List.append_toArray, List.nil_append, List.cons_append]
  refine wpIn_wide.2 ?_
  obtain ⟨W4, hW4⟩ : ∃ W4, ((W.alloc (.cells p.cells 31)).alloc (.cells #[.pointer none] 23)).alloc (.cells #[.int .i64 0] 24) = W4 := ⟨_, rfl⟩
  have b0 : W4.heap[W.heap.size]? = some (.cells p.cells 31 (0, 0)) := by rw [← hW4]; exact blk_alloc (blk_alloc (heap_alloc_new _ _) _) _
  have b1 : W4.heap[W.heap.size + 1]? = some (.cells #[.pointer none] 23 (0, 0)) := by
    rw [← hW4]
    have := heap_alloc_new (W.alloc (.cells p.cells 31)) (.cells #[.pointer none] 23)
    rw [World.size_alloc] at this
    exact blk_alloc this _
  have b2 : W4.heap[W.heap.size + 1 + 1]? = some (.cells #[.int .i64 0] 24 (0, 0)) := by
    rw [← hW4]
    have := heap_alloc_new ((W.alloc (.cells p.cells 31)).alloc (.cells #[.pointer none] 23)) (.cells #[.int .i64 0] 24)
    rw [World.size_alloc, World.size_alloc] at this
    exact this
  have hb4 : Below W.heap.size W W4 := by rw [← hW4]; exact (((Below.refl _ _).alloc (Nat.le_refl _) _).alloc (by simp) _).alloc (by simp; omega) _
  have HF := Lib.hid (h _ hb4)
  have HW4 := Lib.hid hW4
  have HB1 := Lib.hid b1
  have HB2 := Lib.hid b2
  have HB4 := Lib.hid hb4
  unfold PlanP.cells at HF HW4 b0
  have p0 : W4.cell? ⟨W.heap.size, 0, none⟩ = some (.int .i64 p.sectors) := blk_cell b0 0
  have p1 : W4.cell? ⟨W.heap.size, 1, none⟩ = some (.int .i64 p.size) := blk_cell b0 1
  have p2 : W4.cell? ⟨W.heap.size, 2, none⟩ = some (.int .i64 p.regions) := blk_cell b0 2
  have p3 : W4.cell? ⟨W.heap.size, 3, none⟩ = some (.int .i64 p.rs) := blk_cell b0 3
  have p4 : W4.cell? ⟨W.heap.size, 4, none⟩ = some (.int .i64 p.log) := blk_cell b0 4
  have p5 : W4.cell? ⟨W.heap.size, 5, none⟩ = some (.int .i64 p.depth) := blk_cell b0 5
  have p6 : W4.cell? ⟨W.heap.size, 6, none⟩ = some (.int .i64 p.memory) := blk_cell b0 6
  have p7 : W4.cell? ⟨W.heap.size, 7, none⟩ = some (.int .u64 (U p.seed)) := blk_cell b0 7
  clear b0 b1 b2 hb4 hW4 h
  unfold PlanP.cells
  go_upto_region 1 with (fail)
  change Code.wp _ _ _ _ (((W.alloc (.cells #[.int .i64 p.sectors, .int .i64 p.size, .int .i64 p.regions, .int .i64 p.rs, .int .i64 p.log, .int .i64 p.depth, .int .i64 p.memory, .int .u64 (U p.seed)] 31)).alloc (.cells #[.pointer none] 23)).alloc (.cells #[.int .i64 0] 24))
  rw [HW4.out]
  clear HW4
  go_upto_region 2 with (go_at_call 8; (with_reducible refine HF.out.mono ?_); rintro e w2 ⟨R, rfl, hb2⟩; have HBF := Lib.hid hb2; clear hb2 p0 p1 p2 p3 p4 p5 p6 p7)
  have hb5 : Below W4.heap.size W4 (w2.alloc (.cells #[.pointer (some ⟨R, 0, none⟩)] 23)) := HBF.out.alloc HBF.out.size _
  change Code.wp _ _ _ _ (w2.alloc (.cells #[.pointer (some ⟨R, 0, none⟩)] 23))
  generalize w2.alloc (.cells #[.pointer (some ⟨R, 0, none⟩)] 23) = V at hb5 ⊢
  have b1 := (hb5.block _ (blk_lt HB1.out)).trans HB1.out
  have b2 := (hb5.block _ (blk_lt HB2.out)).trans HB2.out
  have hbV := HB4.out.trans (hb5.mono HB4.out.size)
  have s1 := blk_set b1 0 (.pointer none)
  have s2 := (Below.heap_setCell V ⟨W.heap.size + 1, 0, none⟩ (.pointer none) (W.heap.size + 1 + 1) (by simp)).trans b2
  have t2 := blk_set s2 0 (.int .i64 1)
  have t1 := (Below.heap_setCell (V.setCell ⟨W.heap.size + 1, 0, none⟩ (.pointer none)) ⟨W.heap.size + 1 + 1, 0, none⟩ (.int .i64 1) (W.heap.size + 1) (by simp)).trans s1
  have x1 : ((V.setCell ⟨W.heap.size + 1, 0, none⟩ (.pointer none)).setCell ⟨W.heap.size + 1 + 1, 0, none⟩ (.int .i64 1)).cell? ⟨W.heap.size + 1, 0, none⟩ = some (.pointer none) := by simpa using blk_cell t1 0
  have x2 : ((V.setCell ⟨W.heap.size + 1, 0, none⟩ (.pointer none)).setCell ⟨W.heap.size + 1 + 1, 0, none⟩ (.int .i64 1)).cell? ⟨W.heap.size + 1 + 1, 0, none⟩ = some (.int .i64 1) := by simpa using blk_cell t2 0
  have HX1 := Lib.hid x1
  have HX2 := Lib.hid x2
  have HBB := Lib.hid ((hbV.setCell (p := ⟨W.heap.size + 1, 0, none⟩) (Nat.le_add_right _ _) (.pointer none)).setCell (p := ⟨W.heap.size + 1 + 1, 0, none⟩) (by show W.heap.size ≤ W.heap.size + 1 + 1; omega) (.int .i64 1))
  have c1 : V.cell? ⟨W.heap.size + 1, 0, none⟩ = some (.pointer none) := blk_cell b1 0
  have c2 : V.cell? ⟨W.heap.size + 1 + 1, 0, none⟩ = some (.int .i64 0) := blk_cell b2 0
  have f1 := blk_frozen b1 0
  have f2 := blk_frozen b2 0
  clear hb5 b1 b2 hbV s1 s2 t1 t2 x1 x2
  go_wp2
  exact ⟨_, open_res11 _ (W.heap.size + 1) (W.heap.size + 1 + 1) 1 _ rfl rfl HX1.out HX2.out, rfl, HBB.out⟩
theorem open_huge200 (p : PlanP) (h : p.on200) (last : Int) (hl : 1099511627776 < last) (hd : DevHere w D (Dev.new 200 96) W) : Calls Try.prog 19 #[.pointer (some ⟨D, 0, none⟩), .agg p.cells, .int .i64 last] W (FormatNot 1 W) :=
  open_huge p _ last hl W fun _ hb => (format_good p h (hd.on hb)).mono fun _ _ ⟨R, he, _, hb⟩ => ⟨R, he, hb⟩
theorem open_good (p : PlanP) (h : p.on200) (last : Int) (hl : last ≤ 1099511627776) (hd : DevHere w D (Dev.new 200 96) W) : Calls Try.prog 19 #[.pointer (some ⟨D, 0, none⟩), .agg p.cells, .int .i64 last] W fun e w' => ∃ R, e = .returned (.tuple #[.pointer (some ⟨R, 0, none⟩), .int .i64 0]) ∧ LogApart w (fun _ => False) R D (p.log0.at_ last.toNat) (Dev.new 200 96) w' ∧ Below W.heap.size W w' := by
  have ht := (log0_ok h.1).tot
  have hon := (log0_on h.1 (d := Dev.new 200 96) ⟨h.2.1, h.2.2⟩).sectors
  have hs : (Dev.new 200 96).sectors = 200 := rfl
  exact open_new p (apart_of hd (Below.refl _ W) (fun _ h => h.elim) (fun _ h => h.elim)) (fun _ h => h.elim) h.1 ⟨h.2.1, h.2.2⟩ last hl fun k hk => new_got (by omega) (by omega) 3 k
end
end Go.Proofs.Ytiddfilhfdkogaa

/-
  region: Open where no sector tells a region.
  Conditions: none.
-/
import Derived.Test.YtiddfilhfdkogaaReg31
namespace Go.Proofs.Ytiddfilhfdkogaa
open Go.RowKit Go.Shelf

section
variable {w W W' : World} {E : Foot} {R D : Nat} {x : LogS} {d : Dev}
/-- A log of another last region. -/
def LogS.at_ (x : LogS) (L : Nat) : LogS := { x with last := L }
theorem LogApart.relast (h : LogApart w E R D x d W) {L : Nat} (hL : L ≤ 1099511627776) : LogApart w E R D (x.at_ L) d (W.setCell ⟨R, 5, none⟩ (.int .i64 (L : Int))) := by
  obtain ⟨rv, h1, h2, h3, h4, h5⟩ := h
  have hm : Moves (fun k => k = R) W (W.setCell ⟨R, 5, none⟩ (.int .i64 (L : Int))) := (Moves.refl (fun k => k = R) W).setCell (p := ⟨R, 5, none⟩) (fun _ => rfl) _
  have hok := h1.ok
  refine ⟨rv, ⟨⟨hok.r1, hok.s1, hok.m1, hok.m2, hok.tot, by show L ≤ _; omega, hok.sec, hok.rlt, hok.full⟩, ?_, ownsRow_same h1.row (fun k e => Below.heap_setCell _ _ _ _ (h1.ne e)), h1.lo⟩, h2.turn hm (fun k hk => by subst hk; exact ⟨.inr (.inl rfl), h1.lo⟩), h3, h4, h5⟩
  rw [blk_set h1.blk 5 (.int .i64 (L : Int))]
  simp [LogS.cells, LogS.at_]
theorem stamps_any (R : Nat) (w : World) : Calls Try.prog 43 #[.pointer (some ⟨R, 0, none⟩)] w fun e w' => e = .returned (.func (.func 59) #[] #[.pointer (some ⟨w.heap.size, 0, none⟩)]) ∧ w.alloc (.cells #[.pointer (some ⟨R, 0, none⟩)] 23) = w' := by
  go_enter Try.func43, Try.ntmps43
  go_wp2
  go_ret
  exact ⟨rfl, rfl⟩
theorem open_res32 (w : World) (a b : Nat) (v : Value) (n : Int) (tmps : Array Value) (h4 : tmps.getD 6 undef = .pointer (some ⟨a, 0, none⟩)) (h5 : tmps.getD 7 undef = .pointer (some ⟨b, 0, none⟩)) (ha : w.cell? ⟨a, 0, none⟩ = some v) (hb : w.cell? ⟨b, 0, none⟩ = some (.int .i64 n)) :
    (results Try.f19 tmps).run Try.prog w = .ok (.tuple #[v, .int .i64 n]) w := by
  have h4' : tmps[6]?.getD undef = .pointer (some ⟨a, 0, none⟩) := by simpa using h4
  have h5' : tmps[7]?.getD undef = .pointer (some ⟨b, 0, none⟩) := by simpa using h5
  simp [results, Try.results19, h4', h5', go_sem, ha, hb]
/-- Open's blocks. -/
def OpE1 (E : Foot) (Z : Nat) : Foot := fun k => E k ∨ k = Z ∨ k = Z + 1 ∨ k = Z + 1 + 1
def OpE2 (E : Foot) (Z Y : Nat) : Foot := fun k => OpE1 E Z k ∨ k = Y
def OpE3 (E : Foot) (Z Y T : Nat) : Foot := fun k => OpE2 E Z Y k ∨ k = T ∨ k = T + 1 ∨ k = T + 1 + 1
/-- What holds behind the range. -/
structure OpRound (w0 W : World) (E : Foot) (R D Y T : Nat) (x : LogS) (d : Dev) (V : World) : Prop where
  at_ : LogApart w0 (OpE3 E W.heap.size Y T) R D x d V
  b1 : V.heap[W.heap.size + 1]? = some (.cells #[.pointer none] 23 (0, 0))
  b2 : V.heap[W.heap.size + 1 + 1]? = some (.cells #[.int .i64 0] 24 (0, 0))
  by_ : V.heap[Y]? = some (.cells #[.pointer (some ⟨R, 0, none⟩)] 23 (0, 0))
  bt : V.heap[T]? = some (.cells #[.pointer (some ⟨R, 0, none⟩)] 23 (0, 0))
  since : Below W.heap.size W V
theorem OpRound.below {w0 V V' : World} {Y T : Nat} (h : OpRound w0 W E R D Y T x d V) (hb : Below V.heap.size V V') : OpRound w0 W E R D Y T x d V' :=
  ⟨h.at_.on hb, (hb.block _ (blk_lt h.b1)).trans h.b1, (hb.block _ (blk_lt h.b2)).trans h.b2, (hb.block _ (blk_lt h.by_)).trans h.by_, (hb.block _ (blk_lt h.bt)).trans h.bt, h.since.trans (hb.mono h.since.size)⟩
theorem OpRound.put {w0 V : World} {Y T : Nat} (h : OpRound w0 W E R D Y T x d V) (hY : W.heap.size + 3 ≤ Y) (hT : Y < T) {k : Nat} (hk : k = T + 1 ∨ k = T + 1 + 1) (o : Obj) : OpRound w0 W E R D Y T x d (V.putObj k o) := by
  have hm := moves_put V k o
  refine ⟨h.at_.turn hm (fun j hj => by subst hj; unfold OpE3; exact .inr (.inr hk)), (World.putObj_heap_other (by omega)).trans h.b1, (World.putObj_heap_other (by omega)).trans h.b2, (World.putObj_heap_other (by omega)).trans h.by_, (World.putObj_heap_other (by omega)).trans h.bt, h.since.trans (hm.below (fun i hi => by omega) h.since.size)⟩
/-- The answer, stored. -/
theorem OpRound.finish {w0 V V4 : World} {Y T : Nat} (h : OpRound w0 W E R D Y T x d V) (hY : W.heap.size + 3 ≤ Y) (hT : Y < T) (hK : V.heap[T + 1]? = some (.deferred (some []))) (hV : (V.setCell ⟨W.heap.size + 1, 0, none⟩ (.pointer (some ⟨R, 0, none⟩))).setCell ⟨W.heap.size + 1 + 1, 0, none⟩ (.int .i64 0) = V4) :
    V4.heap[T + 1]? = some (.deferred (some [])) ∧ (V4.putObj (T + 1) (.deferred none)).cell? ⟨W.heap.size + 1, 0, none⟩ = some (.pointer (some ⟨R, 0, none⟩)) ∧ (V4.putObj (T + 1) (.deferred none)).cell? ⟨W.heap.size + 1 + 1, 0, none⟩ = some (.int .i64 0) ∧ LogApart w0 E R D x d (V4.putObj (T + 1) (.deferred none)) ∧ Below W.heap.size W (V4.putObj (T + 1) (.deferred none)) := by
  subst hV
  have s1 := blk_set h.b1 0 (.pointer (some ⟨R, 0, none⟩))
  have s2 := (Below.heap_setCell V ⟨W.heap.size + 1, 0, none⟩ (.pointer (some ⟨R, 0, none⟩)) (W.heap.size + 1 + 1) (by simp)).trans h.b2
  have t2 := blk_set s2 0 (.int .i64 0)
  have t1 := (Below.heap_setCell (V.setCell ⟨W.heap.size + 1, 0, none⟩ (.pointer (some ⟨R, 0, none⟩))) ⟨W.heap.size + 1 + 1, 0, none⟩ (.int .i64 0) (W.heap.size + 1) (by simp)).trans s1
  have hm : Moves (fun k => k = W.heap.size + 1 ∨ k = W.heap.size + 1 + 1 ∨ k = T + 1) V (((V.setCell ⟨W.heap.size + 1, 0, none⟩ (.pointer (some ⟨R, 0, none⟩))).setCell ⟨W.heap.size + 1 + 1, 0, none⟩ (.int .i64 0)).putObj (T + 1) (.deferred none)) :=
    (((Moves.refl (fun k => k = W.heap.size + 1 ∨ k = W.heap.size + 1 + 1 ∨ k = T + 1) V).setCell (p := ⟨W.heap.size + 1, 0, none⟩) (fun _ => .inl rfl) _).setCell (p := ⟨W.heap.size + 1 + 1, 0, none⟩) (fun _ => .inr (.inl rfl)) _).trans (moves_put _ (T + 1) _) (fun _ _ h => .inr (.inr h))
  refine ⟨(Below.heap_setCell _ _ _ _ (by show T + 1 ≠ W.heap.size + 1 + 1; omega)).trans ((Below.heap_setCell _ _ _ _ (by show T + 1 ≠ W.heap.size + 1; omega)).trans hK), ?_, ?_, (h.at_.turn hm (fun k hk => ?_)).less (fun k hk => .inl (.inl (.inl hk))), h.since.trans (hm.below (fun i hi => by omega) h.since.size)⟩
  · rw [World.cell?_of_block (World.putObj_heap_other (by show W.heap.size + 1 ≠ T + 1; omega)), blk_cell t1 0]; simp
  · rw [World.cell?_of_block (World.putObj_heap_other (by show W.heap.size + 1 + 1 ≠ T + 1; omega)), blk_cell t2 0]; simp
  · rcases hk with rfl | rfl | rfl
    · exact .inl (.inl (.inr (.inr (.inl rfl))))
    · exact .inl (.inl (.inr (.inr (.inr rfl))))
    · exact .inr (.inr (.inl rfl))
set_option maxRecDepth 100000 in
set_option maxHeartbeats 8000000 in
theorem open_new (p : PlanP) {w0 : World} (hd : DevApart w0 E D d W) (hE : ∀ k, E k → w0.heap.size ≤ k) (hf : p.fits = true) (hm : p.sectors = d.sectors ∧ p.size = d.size) (last : Int) (hl : last ≤ 1099511627776) (hnone : ∀ k : Nat, k < p.log0.regions * p.log0.sectors → gotErr d ((p.log0.first : Int) + (k : Int)) 3 (k : Int) = 5) :
    Calls Try.prog 19 #[.pointer (some ⟨D, 0, none⟩), .agg p.cells, .int .i64 last] W fun e w' => ∃ R, e = .returned (.tuple #[.pointer (some ⟨R, 0, none⟩), .int .i64 0]) ∧ LogApart w0 E R D (p.log0.at_ last.toNat) d w' ∧ Below W.heap.size W w' := by
  refine callsIn_wide (n := 3).1 ?_
  refine callsIn_of_wp_marks Try.func19 rfl trivial ?_ rfl
  simp only [Try.ntmps19, List.size_toArray, List.length_cons, List.length_nil, Nat.reduceAdd, Nat.reduceSub, Array.replicate_succ, Array.replicate_zero, List.push_toArray, List.append_toArray, List.nil_append, List.cons_append]
  refine wpIn_wide.2 ?_
  have hw0 : w0.heap.size ≤ W.heap.size := hd.here.size
  obtain ⟨L, hLe⟩ : ∃ L, last.toNat = L := ⟨_, rfl⟩
  rw [hLe]
  have HLN : Hid (L ≤ 1099511627776) := by unfold Hid; omega
  have hcase : (last < 0 ∧ L = 0) ∨ last = (L : Int) := by omega
  have HCASE := Lib.hid hcase
  clear hLe hcase
  have hin : Foot.In E W := by obtain ⟨O, _, _, _, h⟩ := hd; exact h
  obtain ⟨W4, hW4⟩ : ∃ W4, ((W.alloc (.cells p.cells 31)).alloc (.cells #[.pointer none] 23)).alloc (.cells #[.int .i64 0] 24) = W4 := ⟨_, rfl⟩
  have b0 : W4.heap[W.heap.size]? = some (.cells p.cells 31 (0, 0)) := by rw [← hW4]; exact blk_alloc (blk_alloc (heap_alloc_new _ _) _) _
  have b1 : W4.heap[W.heap.size + 1]? = some (.cells #[.pointer none] 23 (0, 0)) := by
    rw [← hW4]
    have := heap_alloc_new (W.alloc (.cells p.cells 31)) (.cells #[.pointer none] 23)
    rw [World.size_alloc] at this
    exact blk_alloc this _
  have b2 : W4.heap[W.heap.size + 1 + 1]? = some (.cells #[.int .i64 0] 24 (0, 0)) := by
    rw [← hW4]
    have := heap_alloc_new ((W.alloc (.cells p.cells 31)).alloc (.cells #[.pointer none] 23)) (.cells #[.int .i64 0] 24)
    rw [World.size_alloc, World.size_alloc] at this
    exact this
  have hb4 : Below W.heap.size W W4 := by rw [← hW4]; exact (((Below.refl _ _).alloc (Nat.le_refl _) _).alloc (by simp) _).alloc (by simp; omega) _
  have hz4 : W4.heap.size = W.heap.size + 3 := by rw [← hW4]; simp
  have hd4 : DevApart w0 (OpE1 E W.heap.size) D d W4 := hd.more hb4 (fun k hk => by
    rcases hk with hk | hk
    · exact .inl hk
    · exact .inr (by omega)) (fun k hk => by
    rcases hk with hk | hk
    · have := hin k hk; omega
    · omega)
  have HF := Lib.hid (format_any p hd4 (fun k hk => by
    rcases hk with hk | hk
    · exact hE k hk
    · omega) hf hm)
  have HW4 := Lib.hid hW4
  have HB1 := Lib.hid b1
  have HB2 := Lib.hid b2
  have HB4 := Lib.hid hb4
  have HZ4 := Lib.hid hz4
  have HNO := Lib.hid hnone
  have HLL := Lib.hid hl
  unfold PlanP.cells at HF HW4 b0
  have p0 : W4.cell? ⟨W.heap.size, 0, none⟩ = some (.int .i64 p.sectors) := blk_cell b0 0
  have p1 : W4.cell? ⟨W.heap.size, 1, none⟩ = some (.int .i64 p.size) := blk_cell b0 1
  have p2 : W4.cell? ⟨W.heap.size, 2, none⟩ = some (.int .i64 p.regions) := blk_cell b0 2
  have p3 : W4.cell? ⟨W.heap.size, 3, none⟩ = some (.int .i64 p.rs) := blk_cell b0 3
  have p4 : W4.cell? ⟨W.heap.size, 4, none⟩ = some (.int .i64 p.log) := blk_cell b0 4
  have p5 : W4.cell? ⟨W.heap.size, 5, none⟩ = some (.int .i64 p.depth) := blk_cell b0 5
  have p6 : W4.cell? ⟨W.heap.size, 6, none⟩ = some (.int .i64 p.memory) := blk_cell b0 6
  have p7 : W4.cell? ⟨W.heap.size, 7, none⟩ = some (.int .u64 (U p.seed)) := blk_cell b0 7
  clear b0 b1 b2 hb4 hW4 hd hE hf hm hin hz4 hd4 hnone
  unfold PlanP.cells
  go_upto_region 1 with (fail)
  change Code.wp _ _ _ _ (((W.alloc (.cells #[.int .i64 p.sectors, .int .i64 p.size, .int .i64 p.regions, .int .i64 p.rs, .int .i64 p.log, .int .i64 p.depth, .int .i64 p.memory, .int .u64 (U p.seed)] 31)).alloc (.cells #[.pointer none] 23)).alloc (.cells #[.int .i64 0] 24))
  rw [HW4.out]
  clear HW4
  go_upto_region 2 with (go_at_call 8; (with_reducible refine HF.out.mono ?_); rintro e w2 ⟨R, hR, rfl, hL2, hb2⟩; have HBF := Lib.hid hb2; have HL2 := Lib.hid hL2; have HR := Lib.hid hR; clear hb2 hL2 hR p0 p1 p2 p3 p4 p5 p6 p7)
  have hb5 : Below W4.heap.size W4 (w2.alloc (.cells #[.pointer (some ⟨R, 0, none⟩)] 23)) := HBF.out.alloc HBF.out.size _
  have hL5 : LogApart w0 (OpE2 E W.heap.size w2.heap.size) R D p.log0 d (w2.alloc (.cells #[.pointer (some ⟨R, 0, none⟩)] 23)) := HL2.out.grab _
  have hY5 : (w2.alloc (.cells #[.pointer (some ⟨R, 0, none⟩)] 23)).heap[w2.heap.size]? = some (.cells #[.pointer (some ⟨R, 0, none⟩)] 23 (0, 0)) := heap_alloc_new _ _
  have hYz : W4.heap.size ≤ w2.heap.size := HBF.out.size
  change Code.wp _ _ _ _ (w2.alloc (.cells #[.pointer (some ⟨R, 0, none⟩)] 23))
  generalize w2.alloc (.cells #[.pointer (some ⟨R, 0, none⟩)] 23) = V at hb5 hL5 hY5 ⊢
  generalize w2.heap.size = Y at hL5 hY5 hYz ⊢
  have HYZ := Lib.hid hYz
  have HL5 := Lib.hid hL5
  have HY5 := Lib.hid hY5
  have HBV := Lib.hid hb5
  have c8 : V.cell? ⟨Y, 0, none⟩ = some (.pointer (some ⟨R, 0, none⟩)) := blk_cell hY5 0
  obtain ⟨rv, hLB, _⟩ := id hL5
  have c5 : V.cell? ⟨R, 5, none⟩ = some (.int .i64 p.log0.last) := hLB.cells.2.2.2.2.2.1
  have f5 : V.frozen? ⟨R, 5, none⟩ = false := blk_frozen hLB.blk 5
  have HRY : Hid (R ≠ Y ∧ R ≠ W.heap.size + 1 ∧ R ≠ W.heap.size + 1 + 1) := by
    obtain ⟨_, _, _, hn, _⟩ := HL5.out
    exact ⟨fun e => hn (.inr e), fun e => hn (.inl (.inr (.inr (.inl e)))), fun e => hn (.inl (.inr (.inr (.inr e))))⟩
  have HRW : Hid (W.heap.size ≤ R) := by have := HR.out; have := HZ4.out; unfold Hid; omega
  have HYZ : Hid (W.heap.size + 3 ≤ Y) := by have := HZ4.out; unfold Hid; omega
  have hll : ¬ (1099511627776 : Int) < last := by have := HLL.out; omega
  clear hYz hLB hL5 hY5 hb5
  rcases HCASE.out with ⟨hneg, rfl⟩ | rfl
  · go_upto_region 7 with (fail)
    change Code.wp _ _ _ _ (V.setCell ⟨R, 5, none⟩ (.int .i64 0))
    have hL6 : LogApart w0 (OpE2 E W.heap.size Y) R D (p.log0.at_ 0) d (V.setCell ⟨R, 5, none⟩ (.int .i64 0)) := HL5.out.relast HLN.out
    have keep : ∀ k, k ≠ R → (V.setCell ⟨R, 5, none⟩ (.int .i64 0)).heap[k]? = V.heap[k]? := fun k hk => Below.heap_setCell _ _ _ _ hk
    have hb6 : Below W.heap.size W (V.setCell ⟨R, 5, none⟩ (.int .i64 0)) := (HB4.out.trans (HBV.out.mono HB4.out.size)).setCell (p := ⟨R, 5, none⟩) HRW.out _
    have h1 := (keep _ (fun e => HRY.out.2.1 e.symm)).trans ((HBV.out.block _ (blk_lt HB1.out)).trans HB1.out)
    have h2 := (keep _ (fun e => HRY.out.2.2 e.symm)).trans ((HBV.out.block _ (blk_lt HB2.out)).trans HB2.out)
    have hy := (keep _ (fun e => HRY.out.1 e.symm)).trans HY5.out
    generalize V.setCell ⟨R, 5, none⟩ (.int .i64 0) = V6 at hL6 hb6 h1 h2 hy ⊢
    have c8 : V6.cell? ⟨Y, 0, none⟩ = some (.pointer (some ⟨R, 0, none⟩)) := blk_cell hy 0
    have hT : Y < V6.heap.size := blk_lt hy
    have HSTA := Lib.hid (stamps_any R V6)
    have HI := Lib.hid (And.intro hL6 (And.intro h1 (And.intro h2 (And.intro hy hb6))))
    have HT := Lib.hid hT
    clear keep hL6 hb6 h1 h2 hy hT
    go_wp2_with (go_at_call 43; (with_reducible refine HSTA.out.mono ?_); rintro e w3 ⟨rfl, hw3⟩; have HW3 := Lib.hid hw3; clear hw3 c8)
    have z3 : w3.heap.size = V6.heap.size + 1 := by rw [← HW3.out]; simp
    have b3 : Below V6.heap.size V6 w3 := by rw [← HW3.out]; exact (Below.refl _ V6).alloc (Nat.le_refl _) _
    have i1 : w3.heap[V6.heap.size]? = some (.cells #[.pointer (some ⟨R, 0, none⟩)] 23 (0, 0)) := by rw [← HW3.out]; exact heap_alloc_new _ _
    refine (wpIn_wide (n := 3)).1 ?_
    refine rangeFunc_inv (γ := Unit) (F := Fence.wide) rfl (by decide) (gf := 59) (lb := #[.pointer (some ⟨V6.heap.size, 0, none⟩)]) rfl trivial (enters_of Try.func59 (by kernel_rfl) rfl)
      (fun _ => #[.int .i64 0, .int .i64 0]) (fun _ => rfl) 3 (fun _ => #[]) (fun _ => ()) (fun _ => False) ()
      (fun _ U => OpRound w0 W E R D Y V6.heap.size (p.log0.at_ 0) d U) (fun _ => False) ?hbel ?hturn ?hstop ?hround ?h0 ?hcall ?hdone ?hleft
    case hbel => exact fun _ _ _ h hb => h.below hb
    case hstop => exact fun _ _ _ _ _ h => h
    case hleft => exact fun _ h _ => h.elim
    case hround => exact ⟨fun _ _ => { tmps := #[], defers := [] }, fun _ _ _ _ _ _ h => h.elim, fun _ _ _ _ h => h.elim⟩
    case hturn =>
      rintro s U o o' hl ho h
      rw [z3]
      exact h.put HYZ.out HT.out (.inr rfl) o'
    case h0 =>
      intro o ho
      have hb0 : Below V6.heap.size V6 ((w3.alloc (.deferred (some []))).alloc o) := (b3.alloc (by rw [z3]; omega) _).alloc (by simp [z3]; omega) _
      have hbw : Below w3.heap.size w3 ((w3.alloc (.deferred (some []))).alloc o) := ((Below.refl _ w3).alloc (Nat.le_refl _) _).alloc (by simp) _
      have hz0 : ((w3.alloc (.deferred (some []))).alloc o).heap.size = V6.heap.size + 3 := by simp [z3]
      obtain ⟨hL6, h1, h2, hy, hb6⟩ := HI.out
      exact ⟨hL6.adds hb0 (fun k hk => by
        rcases hk with hk | hk
        · exact .inl hk
        · exact .inr (by rw [hz0]; omega)), (hb0.block _ (blk_lt h1)).trans h1, (hb0.block _ (blk_lt h2)).trans h2, (hb0.block _ (blk_lt hy)).trans hy, (hbw.block _ (by rw [z3]; omega)).trans i1, hb6.trans (hb0.mono hb6.size)⟩
    case hcall =>
      intro l J JS W0 hJI hJB hJ0 hY
      have h := hJI _ _ hJ0
      exact (callsIn_wide.2 (stamps1_none h.at_ HNO.out l V6.heap.size (blk_cell h.bt 0))).mono fun e W' ⟨he, hb⟩ => ⟨⟨_, he⟩, .inl ⟨(), fun h => h, hJB _ _ _ hJ0 hb⟩⟩
    case hdone =>
      rintro U s hns h hK
      rw [z3] at hK ⊢
      have k8 : U.cell? ⟨Y, 0, none⟩ = some (.pointer (some ⟨R, 0, none⟩)) := blk_cell h.by_ 0
      have k6 : U.cell? ⟨W.heap.size + 1, 0, none⟩ = some (.pointer none) := blk_cell h.b1 0
      have k7 : U.cell? ⟨W.heap.size + 1 + 1, 0, none⟩ = some (.int .i64 0) := blk_cell h.b2 0
      have f6 := blk_frozen h.b1 0
      have f7 := blk_frozen h.b2 0
      have HS := Lib.hid h
      have HKD := Lib.hid hK
      clear h hK hns
      go_wp2
      obtain ⟨V4, hV4⟩ : ∃ V4, (U.setCell ⟨W.heap.size + 1, 0, none⟩ (.pointer (some ⟨R, 0, none⟩))).setCell ⟨W.heap.size + 1 + 1, 0, none⟩ (.int .i64 0) = V4 := ⟨_, rfl⟩
      rw [hV4]
      obtain ⟨e1, e2, e3, e4, e5⟩ := HS.out.finish HYZ.out HT.out HKD.out hV4
      refine ⟨by simp, .inl ⟨_, _, rfl, run_takeDeferred e1, ?_⟩⟩
      exact ⟨_, open_res32 _ (W.heap.size + 1) (W.heap.size + 1 + 1) _ 0 _ rfl rfl e2 e3, R, rfl, e4, e5⟩
  · have hpos : ¬ ((L : Int) < 0) := by omega
    go_upto_region 7 with (fail)
    change Code.wp _ _ _ _ (V.setCell ⟨R, 5, none⟩ (.int .i64 (L : Int)))
    have hL6 : LogApart w0 (OpE2 E W.heap.size Y) R D (p.log0.at_ L) d (V.setCell ⟨R, 5, none⟩ (.int .i64 (L : Int))) := HL5.out.relast HLN.out
    have keep : ∀ k, k ≠ R → (V.setCell ⟨R, 5, none⟩ (.int .i64 (L : Int))).heap[k]? = V.heap[k]? := fun k hk => Below.heap_setCell _ _ _ _ hk
    have hb6 : Below W.heap.size W (V.setCell ⟨R, 5, none⟩ (.int .i64 (L : Int))) := (HB4.out.trans (HBV.out.mono HB4.out.size)).setCell (p := ⟨R, 5, none⟩) HRW.out _
    have h1 := (keep _ (fun e => HRY.out.2.1 e.symm)).trans ((HBV.out.block _ (blk_lt HB1.out)).trans HB1.out)
    have h2 := (keep _ (fun e => HRY.out.2.2 e.symm)).trans ((HBV.out.block _ (blk_lt HB2.out)).trans HB2.out)
    have hy := (keep _ (fun e => HRY.out.1 e.symm)).trans HY5.out
    generalize V.setCell ⟨R, 5, none⟩ (.int .i64 (L : Int)) = V6 at hL6 hb6 h1 h2 hy ⊢
    have c8 : V6.cell? ⟨Y, 0, none⟩ = some (.pointer (some ⟨R, 0, none⟩)) := blk_cell hy 0
    have hT : Y < V6.heap.size := blk_lt hy
    have HSTA := Lib.hid (stamps_any R V6)
    have HI := Lib.hid (And.intro hL6 (And.intro h1 (And.intro h2 (And.intro hy hb6))))
    have HT := Lib.hid hT
    clear keep hL6 hb6 h1 h2 hy hT
    go_wp2_with (go_at_call 43; (with_reducible refine HSTA.out.mono ?_); rintro e w3 ⟨rfl, hw3⟩; have HW3 := Lib.hid hw3; clear hw3 c8)
    have z3 : w3.heap.size = V6.heap.size + 1 := by rw [← HW3.out]; simp
    have b3 : Below V6.heap.size V6 w3 := by rw [← HW3.out]; exact (Below.refl _ V6).alloc (Nat.le_refl _) _
    have i1 : w3.heap[V6.heap.size]? = some (.cells #[.pointer (some ⟨R, 0, none⟩)] 23 (0, 0)) := by rw [← HW3.out]; exact heap_alloc_new _ _
    refine (wpIn_wide (n := 3)).1 ?_
    refine rangeFunc_inv (γ := Unit) (F := Fence.wide) rfl (by decide) (gf := 59) (lb := #[.pointer (some ⟨V6.heap.size, 0, none⟩)]) rfl trivial (enters_of Try.func59 (by kernel_rfl) rfl)
      (fun _ => #[.int .i64 0, .int .i64 0]) (fun _ => rfl) 3 (fun _ => #[]) (fun _ => ()) (fun _ => False) ()
      (fun _ U => OpRound w0 W E R D Y V6.heap.size (p.log0.at_ L) d U) (fun _ => False) ?hbel ?hturn ?hstop ?hround ?h0 ?hcall ?hdone ?hleft
    case hbel => exact fun _ _ _ h hb => h.below hb
    case hstop => exact fun _ _ _ _ _ h => h
    case hleft => exact fun _ h _ => h.elim
    case hround => exact ⟨fun _ _ => { tmps := #[], defers := [] }, fun _ _ _ _ _ _ h => h.elim, fun _ _ _ _ h => h.elim⟩
    case hturn =>
      rintro s U o o' hl ho h
      rw [z3]
      exact h.put HYZ.out HT.out (.inr rfl) o'
    case h0 =>
      intro o ho
      have hb0 : Below V6.heap.size V6 ((w3.alloc (.deferred (some []))).alloc o) := (b3.alloc (by rw [z3]; omega) _).alloc (by simp [z3]; omega) _
      have hbw : Below w3.heap.size w3 ((w3.alloc (.deferred (some []))).alloc o) := ((Below.refl _ w3).alloc (Nat.le_refl _) _).alloc (by simp) _
      have hz0 : ((w3.alloc (.deferred (some []))).alloc o).heap.size = V6.heap.size + 3 := by simp [z3]
      obtain ⟨hL6, h1, h2, hy, hb6⟩ := HI.out
      exact ⟨hL6.adds hb0 (fun k hk => by
        rcases hk with hk | hk
        · exact .inl hk
        · exact .inr (by rw [hz0]; omega)), (hb0.block _ (blk_lt h1)).trans h1, (hb0.block _ (blk_lt h2)).trans h2, (hb0.block _ (blk_lt hy)).trans hy, (hbw.block _ (by rw [z3]; omega)).trans i1, hb6.trans (hb0.mono hb6.size)⟩
    case hcall =>
      intro l J JS W0 hJI hJB hJ0 hY
      have h := hJI _ _ hJ0
      exact (callsIn_wide.2 (stamps1_none h.at_ HNO.out l V6.heap.size (blk_cell h.bt 0))).mono fun e W' ⟨he, hb⟩ => ⟨⟨_, he⟩, .inl ⟨(), fun h => h, hJB _ _ _ hJ0 hb⟩⟩
    case hdone =>
      rintro U s hns h hK
      rw [z3] at hK ⊢
      have k8 : U.cell? ⟨Y, 0, none⟩ = some (.pointer (some ⟨R, 0, none⟩)) := blk_cell h.by_ 0
      have k6 : U.cell? ⟨W.heap.size + 1, 0, none⟩ = some (.pointer none) := blk_cell h.b1 0
      have k7 : U.cell? ⟨W.heap.size + 1 + 1, 0, none⟩ = some (.int .i64 0) := blk_cell h.b2 0
      have f6 := blk_frozen h.b1 0
      have f7 := blk_frozen h.b2 0
      have HS := Lib.hid h
      have HKD := Lib.hid hK
      clear h hK hns
      go_wp2
      obtain ⟨V4, hV4⟩ : ∃ V4, (U.setCell ⟨W.heap.size + 1, 0, none⟩ (.pointer (some ⟨R, 0, none⟩))).setCell ⟨W.heap.size + 1 + 1, 0, none⟩ (.int .i64 0) = V4 := ⟨_, rfl⟩
      rw [hV4]
      obtain ⟨e1, e2, e3, e4, e5⟩ := HS.out.finish HYZ.out HT.out HKD.out hV4
      refine ⟨by simp, .inl ⟨_, _, rfl, run_takeDeferred e1, ?_⟩⟩
      exact ⟨_, open_res32 _ (W.heap.size + 1) (W.heap.size + 1 + 1) _ 0 _ rfl rfl e2 e3, R, rfl, e4, e5⟩
end
end Go.Proofs.Ytiddfilhfdkogaa

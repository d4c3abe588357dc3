/-
  plan.Fit: its walk over a plan of which a number alone may not be.
  Conditions: none.
-/
import Derived.Test.YtfdipeaddofjaaaJP1
namespace Go.Proofs.Ytfdipeaddofjaaa
open Go.RowKit

theorem bcell {W w1 : World} (hb : Below W.heap.size W w1) : (∀ b o, b < W.heap.size → w1.cell? ⟨b, o, none⟩ = W.cell? ⟨b, o, none⟩) ∧ (∀ b o, b < W.heap.size → w1.frozen? ⟨b, o, none⟩ = W.frozen? ⟨b, o, none⟩) :=
  ⟨fun b o h => hb.cell (p := ⟨b, o, none⟩) h, fun b o h => hb.frozen (p := ⟨b, o, none⟩) h⟩

theorem alone_cells (p : PlanP) : (bndCells p.alone).toArray = #[.int .i64 p.size, .int .i64 96, .int .i64 512, .int .i64 p.sectors, .int .i64 1, .int .i64 16384, .int .i64 p.regions, .int .i64 3, .int .i64 64, .int .i64 p.rs, .int .i64 1, .int .i64 32, .int .i64 p.log, .int .i64 4, .int .i64 256, .int .i64 p.depth, .int .i64 0, .int .i64 8, .int .i64 p.memory, .int .i64 8, .int .i64 256] := by
  simp [bndCells, PlanP.alone, Bnd.cells]
theorem zero47 (W : World) : (zeroValue 116).run Try.prog W = .ok (.agg #[.int .i64 0, .int .i64 0, .int .i64 0, .int .i64 0, .int .i64 0, .int .i64 0, .int .i64 0, .int .i64 0, .int .i64 0, .int .i64 0, .int .i64 0, .int .i64 0, .int .i64 0, .int .i64 0, .int .i64 0, .int .i64 0, .int .i64 0, .int .i64 0, .int .i64 0, .int .i64 0, .int .i64 0]) W := by kernel_rfl
theorem size47 : (Try.prog.info? 116).map (·.size) = some 21 := by kernel_rfl
theorem new_at (W : World) (o : Obj) (g : Nat) (h : g = W.heap.size) : (W.alloc o).heap[g]? = some o := by subst h; exact heap_alloc_new _ _
theorem new2 (w : World) (o1 o2 o3 : Obj) : (((w.alloc o1).alloc o2).alloc o3).heap[w.heap.size + 1 + 1]? = some o3 := by
  have h := heap_alloc_new ((w.alloc o1).alloc o2) o3
  simpa using h
theorem all47 (a0 a1 a2 a3 a4 a5 a6 a7 a8 a9 a10 a11 a12 a13 a14 a15 a16 a17 a18 a19 a20 : Int) : (#[.int .i64 a0, .int .i64 a1, .int .i64 a2, .int .i64 a3, .int .i64 a4, .int .i64 a5, .int .i64 a6, .int .i64 a7, .int .i64 a8, .int .i64 a9, .int .i64 a10, .int .i64 a11, .int .i64 a12, .int .i64 a13, .int .i64 a14, .int .i64 a15, .int .i64 a16, .int .i64 a17, .int .i64 a18, .int .i64 a19, .int .i64 a20] : Array Value).all (·.oneCell') = true := by simp [Value.oneCell']
theorem sz47 (a0 a1 a2 a3 a4 a5 a6 a7 a8 a9 a10 a11 a12 a13 a14 a15 a16 a17 a18 a19 a20 : Int) : (Try.prog.info? 116).map (·.size) = some (#[.int .i64 a0, .int .i64 a1, .int .i64 a2, .int .i64 a3, .int .i64 a4, .int .i64 a5, .int .i64 a6, .int .i64 a7, .int .i64 a8, .int .i64 a9, .int .i64 a10, .int .i64 a11, .int .i64 a12, .int .i64 a13, .int .i64 a14, .int .i64 a15, .int .i64 a16, .int .i64 a17, .int .i64 a18, .int .i64 a19, .int .i64 a20] : Array Value).size := by kernel_rfl
theorem al47 (W : World) : (Instr.alloc 116 true (.tuple #[])).run Try.prog W = .ok (.pointer (some ⟨W.heap.size, 0, none⟩)) (W.alloc (.cells #[.int .i64 0, .int .i64 0, .int .i64 0, .int .i64 0, .int .i64 0, .int .i64 0, .int .i64 0, .int .i64 0, .int .i64 0, .int .i64 0, .int .i64 0, .int .i64 0, .int .i64 0, .int .i64 0, .int .i64 0, .int .i64 0, .int .i64 0, .int .i64 0, .int .i64 0, .int .i64 0, .int .i64 0] 116)) := by kernel_rfl
theorem wpList_alloc_run {P : Program} {ops : Array Oper} {rest : List Oper} {o : Oper} {a : Act} {w w' : World} {Q : Exit → Act → World → Prop} (hgd : o.guard = none) (ty : TypeId) (ho : o.op = .alloc ty) (v : Value)
    (hr : (Instr.alloc ty true (.tuple #[])).run P w = .ok v w') (h : wpList P ops Q rest (a.put o.dst v) w') : wpList P ops Q (o :: rest) a w := by
  refine wpList_plain hgd fun K hK => ?_
  unfold Oper.wp execOp
  simp only [ho, Sem.run_bind, hr, Result.andThen_ok]
  exact hK _ _ h
section
attribute [-go_sem] Instr.build Instr.fill
@[local go_sem] theorem b46 (x y z : Int) (W : World) : (Instr.build 115 #[(0, .int .i64 x), (1, .int .i64 y), (2, .int .i64 z)]).run Try.prog W = .ok (.agg #[.int .i64 x, .int .i64 y, .int .i64 z]) W := run_build W _ _ _ (by kernel_rfl)
@[local go_sem] theorem b47 (a1 a2 a3 b1 b2 b3 c1 c2 c3 d1 d2 d3 e1 e2 e3 f1 f2 f3 g1 g2 g3 : Int) (W : World) : (Instr.build 116 #[(0, .agg #[.int .i64 a1, .int .i64 a2, .int .i64 a3]), (1, .agg #[.int .i64 b1, .int .i64 b2, .int .i64 b3]), (2, .agg #[.int .i64 c1, .int .i64 c2, .int .i64 c3]), (3, .agg #[.int .i64 d1, .int .i64 d2, .int .i64 d3]), (4, .agg #[.int .i64 e1, .int .i64 e2, .int .i64 e3]), (5, .agg #[.int .i64 f1, .int .i64 f2, .int .i64 f3]), (6, .agg #[.int .i64 g1, .int .i64 g2, .int .i64 g3])]).run Try.prog W = .ok (.agg #[.int .i64 a1, .int .i64 a2, .int .i64 a3, .int .i64 b1, .int .i64 b2, .int .i64 b3, .int .i64 c1, .int .i64 c2, .int .i64 c3, .int .i64 d1, .int .i64 d2, .int .i64 d3, .int .i64 e1, .int .i64 e2, .int .i64 e3, .int .i64 f1, .int .i64 f2, .int .i64 f3, .int .i64 g1, .int .i64 g2, .int .i64 g3]) W := run_build W _ _ _ (by kernel_rfl)
@[local go_sem] theorem b26 (W : World) : (Instr.build 60 #[]).run Try.prog W = .ok (.agg #[.int .i64 0, .int .i64 0, .int .i64 0, .int .i64 0, .int .i64 0, .int .i64 0, .int .i64 0, .int .i64 0]) W := run_build W _ _ _ (by kernel_rfl)
@[local go_sem] theorem b51 (a1 a2 a3 b1 b2 b3 : Int) (W : World) : (Instr.build 120 #[(0, .agg #[.int .i64 a1, .int .i64 a2, .int .i64 a3]), (1, .agg #[.int .i64 b1, .int .i64 b2, .int .i64 b3])]).run Try.prog W = .ok (.agg #[.int .i64 a1, .int .i64 a2, .int .i64 a3, .int .i64 b1, .int .i64 b2, .int .i64 b3]) W := run_build W _ _ _ (by kernel_rfl)
theorem wpList_build_run {P : Program} {ops : Array Oper} {rest : List Oper} {o : Oper} {a : Act} {w : World} {Q : Exit → Act → World → Prop} (hgd : o.guard = none) (ty : TypeId) (parts : Array (Nat × Operand)) (ho : o.op = .build ty parts) (v : Value)
    (hr : (Instr.build ty (parts.map fun (i, x) => (i, a.eval x))).run P w = .ok v w) (h : wpList P ops Q rest (a.put o.dst v) w) : wpList P ops Q (o :: rest) a w := by
  refine wpList_plain hgd fun K hK => ?_
  unfold Oper.wp execOp
  simp only [ho, Sem.run_bind, hr, Result.andThen_ok]
  exact hK _ _ h
/-- What stands behind the first literal. -/
def FitAt (p : PlanP) (w W : World) : Prop :=
  Below w.heap.size w W ∧ W.heap[w.heap.size]? = some (.cells p.cells 31 (0, 0)) ∧ W.heap[w.heap.size + 1]? = some (.cells LayP.zero.cells 60 (0, 0)) ∧ W.heap[w.heap.size + 2]? = some (.cells (bndCells p.alone).toArray 116 (0, 0)) ∧ W.heap.size = w.heap.size + 3
theorem kp_sz (p : PlanP) : (Try.prog.info? 31).map (·.size) = some p.cells.size := by show _ = some 8; kernel_rfl
theorem kl_sz (p : LayP) : (Try.prog.info? 60).map (·.size) = some p.cells.size := by show _ = some 8; kernel_rfl
theorem kl_one (p : LayP) : p.cells.all (·.oneCell') = true := by simp [LayP.cells, Value.oneCell']
theorem setRow_other {w : World} {g j : Nat} {cs : Array Value} (h : j ≠ g) : (w.setRow g cs).heap[j]? = w.heap[j]? := by
  simp [World.setRow, Array.getElem?_modify, h.symm]
theorem setRow_size (w : World) (g : Nat) (cs : Array Value) : (w.setRow g cs).heap.size = w.heap.size := by simp [World.setRow]
theorem fit_first (p : PlanP) (w : World) (zs : Array Value) : FitAt p w ((((w.alloc (.cells p.cells 31)).alloc (.cells LayP.zero.cells 60)).alloc (.cells zs 116)).setRow (w.heap.size + 1 + 1) (bndCells p.alone).toArray) := by
  have s1 : (w.alloc (.cells p.cells 31)).heap.size = w.heap.size + 1 := by simp
  have s2 : ((w.alloc (.cells p.cells 31)).alloc (.cells LayP.zero.cells 60)).heap.size = w.heap.size + 1 + 1 := by simp
  refine ⟨?_, ?_, ?_, ?_, ?_⟩
  · exact below_setRow ((((Below.refl _ w).alloc (Nat.le_refl _) _).alloc (by omega) _).alloc (by omega) _) (by omega) _
  · rw [setRow_other (by omega), Below.heap_alloc _ _ _ (by omega), Below.heap_alloc _ _ _ (by omega)]
    exact heap_alloc_new _ _
  · rw [setRow_other (by omega), Below.heap_alloc _ _ _ (by omega)]
    have := heap_alloc_new (w.alloc (.cells p.cells 31)) (.cells LayP.zero.cells 60)
    rw [s1] at this
    exact this
  · have := heap_alloc_new ((w.alloc (.cells p.cells 31)).alloc (.cells LayP.zero.cells 60)) (.cells zs 116)
    rw [s2] at this
    exact setRow_heap _ _ _ _ _ _ this
  · rw [setRow_size]; simp
theorem fit_res (w : World) (z : Nat) (x : LayP) (n : Int) (a : Act) (h : w.heap[z]? = some (.cells x.cells 60 (0, 0))) (h2 : a.tmps.getD 2 undef = .pointer (some ⟨z, 0, none⟩)) (h3 : a.tmps.getD 3 undef = .int .i64 n) :
    (results Try.f20 a.tmps).run Try.prog w = .ok (.tuple #[.agg x.cells, .int .i64 n]) w := by
  have h2' : a.tmps[2]?.getD undef = .pointer (some ⟨z, 0, none⟩) := by simpa using h2
  have h3' : a.tmps[3]?.getD undef = .int .i64 n := by simpa using h3
  simp [results, Try.results20, h2', h3', asAddr, run_loadVar_row w z 60 60 x.cells (0, 0) _ h Try.underlying60 rfl (kl_sz x)]

theorem pow_many (p : PlanP) (d : Nat) (hd : p.depth = d) (h1 : 1 ≤ p.many) (h2 : p.many ≤ 256) : wrap64 ((2 : Int) ^ d) = p.many ∧ IntKind.i64.wrap ((2 : Int) ^ d) = p.many := by
  have e : p.many = ((2 : Int) ^ d) := by unfold PlanP.many; rw [hd]; simp
  rw [← e]
  exact ⟨IntWalk.wrap64_in _ ⟨by omega, by omega⟩, IntWalk.i64_in _ ⟨by omega, by omega⟩⟩
set_option maxRecDepth 100000 in
set_option maxHeartbeats 8000000 in
theorem fit_any (p : PlanP) (w : World) : Calls Try.prog 20 #[.agg p.cells] w fun e w' => e = .returned (.tuple #[.agg p.fit.cells, .int .i64 p.err]) ∧ Below w.heap.size w w' := by
  have hlen : p.alone.length = 7 := rfl
  have HM := Lib.hid (fun (W : World) (g : Nat) (h : W.heap[g]? = some (.cells (bndCells p.alone).toArray 116 (0, 0))) => met_any p.alone g _ W (by rw [hlen]; decide) h)
  rw [hlen] at HM
  go_enter Try.func20, Try.ntmps20
  go_upto_region 1 with (fail)
  go_cut [4] (fun v4 wc => v4 = .pointer (some ⟨w.heap.size + 2, 0, none⟩) ∧ FitAt p w wc)
  case first =>
    unfold PlanP.cells
    (go_wp2_with (first | (refine wpList_build_run (o := ⟨some 9, _, _, _, _, _⟩) rfl 115 _ rfl (.agg #[.int .i64 p.size, .int .i64 96, .int .i64 512]) ?_ ?_; kernel_rfl) | (refine wpList_build_run (o := ⟨some 12, _, _, _, _, _⟩) rfl 115 _ rfl (.agg #[.int .i64 p.sectors, .int .i64 1, .int .i64 16384]) ?_ ?_; kernel_rfl) | (refine wpList_build_run (o := ⟨some 15, _, _, _, _, _⟩) rfl 115 _ rfl (.agg #[.int .i64 p.regions, .int .i64 3, .int .i64 64]) ?_ ?_; kernel_rfl) | (refine wpList_build_run (o := ⟨some 18, _, _, _, _, _⟩) rfl 115 _ rfl (.agg #[.int .i64 p.rs, .int .i64 1, .int .i64 32]) ?_ ?_; kernel_rfl) | (refine wpList_build_run (o := ⟨some 21, _, _, _, _, _⟩) rfl 115 _ rfl (.agg #[.int .i64 p.log, .int .i64 4, .int .i64 256]) ?_ ?_; kernel_rfl) | (refine wpList_build_run (o := ⟨some 24, _, _, _, _, _⟩) rfl 115 _ rfl (.agg #[.int .i64 p.depth, .int .i64 0, .int .i64 8]) ?_ ?_; kernel_rfl) | (refine wpList_build_run (o := ⟨some 27, _, _, _, _, _⟩) rfl 115 _ rfl (.agg #[.int .i64 p.memory, .int .i64 8, .int .i64 256]) ?_ ?_; kernel_rfl) | (refine wpList_build_run (o := ⟨some 28, _, _, _, _, _⟩) rfl 116 _ rfl (.agg #[.int .i64 p.size, .int .i64 96, .int .i64 512, .int .i64 p.sectors, .int .i64 1, .int .i64 16384, .int .i64 p.regions, .int .i64 3, .int .i64 64, .int .i64 p.rs, .int .i64 1, .int .i64 32, .int .i64 p.log, .int .i64 4, .int .i64 256, .int .i64 p.depth, .int .i64 0, .int .i64 8, .int .i64 p.memory, .int .i64 8, .int .i64 256]) ?_ ?_; kernel_rfl) | (refine wpList_alloc_run (o := ⟨some 4, _, _, _, _, _⟩) rfl 116 rfl _ ?_ ?_; exact al47 _) | (refine wpList_store_row (o := ⟨none, _, _, _, _, _⟩) rfl 116 (.tmp 4) (.tmp 28) rfl (w.heap.size + 1 + 1) #[.int .i64 p.size, .int .i64 96, .int .i64 512, .int .i64 p.sectors, .int .i64 1, .int .i64 16384, .int .i64 p.regions, .int .i64 3, .int .i64 64, .int .i64 p.rs, .int .i64 1, .int .i64 32, .int .i64 p.log, .int .i64 4, .int .i64 256, .int .i64 p.depth, .int .i64 0, .int .i64 8, .int .i64 p.memory, .int .i64 8, .int .i64 256] rfl rfl 116 #[.int .i64 0, .int .i64 0, .int .i64 0, .int .i64 0, .int .i64 0, .int .i64 0, .int .i64 0, .int .i64 0, .int .i64 0, .int .i64 0, .int .i64 0, .int .i64 0, .int .i64 0, .int .i64 0, .int .i64 0, .int .i64 0, .int .i64 0, .int .i64 0, .int .i64 0, .int .i64 0, .int .i64 0] (new2 _ _ _ _) ?_ rfl ?_ ?_; kernel_rfl; kernel_rfl)))
    go_meet
    case rel =>
      have hf := fit_first p w #[.int .i64 0, .int .i64 0, .int .i64 0, .int .i64 0, .int .i64 0, .int .i64 0, .int .i64 0, .int .i64 0, .int .i64 0, .int .i64 0, .int .i64 0, .int .i64 0, .int .i64 0, .int .i64 0, .int .i64 0, .int .i64 0, .int .i64 0, .int .i64 0, .int .i64 0, .int .i64 0, .int .i64 0]
      rw [alone_cells] at hf
      exact ⟨rfl, hf⟩
  case rest =>
    obtain ⟨rfl, hB, hP, hZ, hA0, hs⟩ := hcut
    by_cases hall : p.alone.all Bnd.ok = true
    · have hA := (alone_iff p).1 hall
      have hlb := lay_bound hA
      have hmb := many_bound hA
      have HLAY := Lib.hid (lay_any p hA)
      have hbnd2 : (bndCells p.together).toArray = #[.int .i64 p.many, .int .i64 1, .int .i64 (p.lay.per * p.lay.per), .int .i64 p.lay.pages, .int .i64 (3 * p.lay.tree + 4), .int .i64 16384] := by simp [bndCells, PlanP.together, Bnd.cells]
      obtain ⟨d, hd⟩ : ∃ d : Nat, p.depth = d := ⟨p.depth.toNat, by have := hA.depth; omega⟩
      have hd8 : (d : Int) ≤ 8 := by have := hA.depth; omega
      obtain ⟨⟨per1, per2⟩, _, ⟨tr1, tr2⟩, _, ⟨pg1, pg2⟩, _⟩ := hlb
      obtain ⟨mn1, mn2⟩ := hmb
      have hpp := prod_bound (a := p.lay.per) (b := p.lay.per) (x := 41) (y := 41) (by omega) per2 (by omega) per2
      obtain ⟨pp1, pp2⟩ := hpp
      have hw1 : IntKind.i64.wrap (p.lay.per * p.lay.per) = p.lay.per * p.lay.per := IntWalk.i64_in _ ⟨by omega, by omega⟩
      have hw2 : IntKind.i64.wrap (3 * p.lay.tree) = 3 * p.lay.tree := IntWalk.i64_in _ ⟨by omega, by omega⟩
      have hw3 : IntKind.i64.wrap (3 * p.lay.tree + 4) = 3 * p.lay.tree + 4 := IntWalk.i64_in _ ⟨by omega, by omega⟩
      obtain ⟨hpow, hpow2⟩ := pow_many p d hd mn1 mn2
      have hl2 : p.together.length = 2 := rfl
      have HM2 := Lib.hid (fun (W : World) (g : Nat) (h : W.heap[g]? = some (.cells (bndCells p.together).toArray 120 (0, 0))) => met_any p.together g _ W (by rw [hl2]; decide) h)
      rw [hl2] at HM2
      have hcl : p.lay.cells = #[.int .i64 p.lay.log, .int .i64 p.lay.region, .int .i64 p.lay.page, .int .i64 p.lay.pages, .int .i64 p.lay.per, .int .i64 p.lay.slots, .int .i64 p.lay.tree, .int .i64 p.lay.room] := rfl
      rw [hall] at HM
      have HFIT : Hid (p.fit = if p.together.all Bnd.ok then p.lay else LayP.zero) := by unfold Hid PlanP.fit PlanP.fits; rw [hall, Bool.true_and]
      have HERR : Hid (p.err = if p.together.all Bnd.ok then 0 else 12) := by unfold Hid PlanP.err PlanP.fits; rw [hall, Bool.true_and]
      have HCL := Lib.hid hcl
      have HBND2 := Lib.hid hbnd2
      have HPD := Lib.hid hd
      clear hall hlen hl2 hbnd2 hcl hA hd
      generalize p.lay = x at *
      have HMA := Lib.hid (HM.out wc _ hA0)
      have HB := Lib.hid hB
      have HZ := Lib.hid hZ
      have HP := Lib.hid hP
      have HS := Lib.hid hs
      clear hB hP hZ hA0 hs HM
      go_upto_region 5 with (first
        | (go_at_call 54; (with_reducible refine HMA.out.mono ?_); rintro e w1 ⟨rfl, hb1⟩; have hp1 := (hb1.block w.heap.size (by rw [HS.out]; omega)).trans HP.out; have hz1 := (hb1.block (w.heap.size + 1) (by rw [HS.out]; omega)).trans HZ.out; have HB1 := Lib.hid hb1; have HZ1 := Lib.hid hz1; have HP1 := Lib.hid hp1; clear hb1 hz1 hp1)
        | (refine wpList_load_row (o := ⟨some 33, _, _, _, _, _⟩) rfl 31 (.tmp 1) rfl w.heap.size rfl 31 p.cells (0, 0) _ HP1.out Try.underlying31 rfl (kp_sz p) ?_)
        | (go_at_call 55; (with_reducible refine (HLAY.out _).mono ?_); rintro e w2 ⟨rfl, hb2⟩; have HB2 := Lib.hid hb2; clear hb2)
        | (refine wpList_store_row (o := ⟨none, _, _, _, _, _⟩) rfl 60 (.tmp 5) (.tmp 34) rfl w2.heap.size x.cells rfl rfl 60 LayP.zero.cells (heap_alloc_new _ _) (kl_sz _) rfl ?_ ?_; exact kl_one _))
      have HB3 : Hid (Below w.heap.size w (((w2.alloc (.cells LayP.zero.cells 60)).setRow w2.heap.size x.cells))) := by
        unfold Hid
        have hs := HS.out
        exact below_setRow ((HB.out.trans (HB1.out.mono (by omega))).trans (HB2.out.mono (by have := HB1.out.size; omega)) |>.alloc (by have := HB1.out.size; have := HB2.out.size; omega) _) (by have := HB1.out.size; have := HB2.out.size; omega) _
      have HX3 : Hid ((((w2.alloc (.cells LayP.zero.cells 60)).setRow w2.heap.size x.cells)).heap[w2.heap.size]? = some (.cells x.cells 60 (0, 0))) := setRow_heap _ _ _ _ _ _ (heap_alloc_new _ _)
      have hlt : w.heap.size + 2 < w1.heap.size ∧ w1.heap.size ≤ w2.heap.size := ⟨by have := HB1.out.size; have := HS.out; omega, HB2.out.size⟩
      obtain ⟨lt1, lt2⟩ := hlt
      have HP3 : Hid ((((w2.alloc (.cells LayP.zero.cells 60)).setRow w2.heap.size x.cells)).heap[w.heap.size]? = some (.cells p.cells 31 (0, 0))) := by
        unfold Hid
        rw [setRow_other (by omega), Below.heap_alloc _ _ _ (by omega), HB2.out.block _ (by omega)]
        exact HP1.out
      have HZ3 : Hid ((((w2.alloc (.cells LayP.zero.cells 60)).setRow w2.heap.size x.cells)).heap[w.heap.size + 1]? = some (.cells LayP.zero.cells 60 (0, 0))) := by
        unfold Hid
        rw [setRow_other (by omega), Below.heap_alloc _ _ _ (by omega), HB2.out.block _ (by omega)]
        exact HZ1.out
      have HLT : Hid (w.heap.size + 2 < w2.heap.size) := by unfold Hid; omega
      have hsz3 : ((w2.alloc (.cells LayP.zero.cells 60)).setRow w2.heap.size x.cells).heap.size = w2.heap.size + 1 := by rw [setRow_size]; simp
      change (Code.region _ _ _).wp _ _ _ ((w2.alloc (.cells LayP.zero.cells 60)).setRow w2.heap.size x.cells)
      generalize (w2.alloc (.cells LayP.zero.cells 60)).setRow w2.heap.size x.cells = W at *
      generalize w2.heap.size = X at *
      clear lt1 lt2
      have c5 : W.cell? ⟨w.heap.size, 5, none⟩ = some (.int .i64 d) := by have := blk_cell HP3.out 5; rw [this]; show some (Value.int .i64 p.depth) = _; rw [HPD.out]
      have k3 : W.cell? ⟨X, 3, none⟩ = some (.int .i64 x.pages) := blk_cell HX3.out 3
      have k4 : W.cell? ⟨X, 4, none⟩ = some (.int .i64 x.per) := blk_cell HX3.out 4
      have k6 : W.cell? ⟨X, 6, none⟩ = some (.int .i64 x.tree) := blk_cell HX3.out 6
      go_region_held3 (fun V => V.cell? ⟨w.heap.size, 5, none⟩ = some (.int .i64 d) ∧ V.cell? ⟨X, 3, none⟩ = some (.int .i64 x.pages) ∧ V.cell? ⟨X, 4, none⟩ = some (.int .i64 x.per) ∧ V.cell? ⟨X, 6, none⟩ = some (.int .i64 x.tree)) (first | exact ⟨c5, k3, k4, k6⟩ | go_keep) ((fail))
      have e5 : Hid (((W.alloc (.cells #[.int .i64 p.many, .int .i64 1, .int .i64 (x.per * x.per), .int .i64 x.pages, .int .i64 (3 * x.tree + 4), .int .i64 16384] 120)).drew).heap[X + 1]? = some (.cells (bndCells p.together).toArray 120 (0, 0))) := by
        unfold Hid
        rw [HBND2.out, ← hsz3]
        exact heap_alloc_new _ _
      have b5 : Hid (Below W.heap.size W ((W.alloc (.cells #[.int .i64 p.many, .int .i64 1, .int .i64 (x.per * x.per), .int .i64 x.pages, .int .i64 (3 * x.tree + 4), .int .i64 16384] 120)).drew)) := ((Below.refl _ W).alloc (Nat.le_refl _) _).drew
      obtain ⟨V, hV⟩ : ∃ V, ((W.alloc (.cells #[.int .i64 p.many, .int .i64 1, .int .i64 (x.per * x.per), .int .i64 x.pages, .int .i64 (3 * x.tree + 4), .int .i64 16384] 120)).drew) = V := ⟨_, rfl⟩
      rw [hV] at e5 b5 ⊢
      have HMV := Lib.hid (HM2.out V (X + 1) e5.out)
      have HZV : Hid (V.heap[w.heap.size + 1]? = some (.cells LayP.zero.cells 60 (0, 0))) := (b5.out.block _ (by have := HLT.out; omega)).trans HZ3.out
      have HXV : Hid (V.heap[X]? = some (.cells x.cells 60 (0, 0))) := (b5.out.block _ (by omega)).trans HX3.out
      have HSV : Hid (X + 1 < V.heap.size) := blk_lt e5.out
      have HBV : Hid (Below w.heap.size w V) := HB3.out.trans (b5.out.mono (by have := HLT.out; omega))
      clear hV e5 b5 HM2 hpow hpow2 hw1 hw2 hw3 c5 k3 k4 k6 pp1 pp2
      cases htog : p.together.all Bnd.ok with
      | true =>
        rw [htog] at HMV HFIT HERR
        rw [if_pos rfl] at HFIT HERR
        clear htog
        go_wp2_with (first
          | (go_at_call 54; (with_reducible refine HMV.out.mono ?_); rintro e w5 ⟨rfl, hb5⟩; have hz5 := (hb5.block (w.heap.size + 1) (by have := HSV.out; have := HLT.out; omega)).trans HZV.out; have hx5 := (hb5.block X (by have := HSV.out; omega)).trans HXV.out; have HB5 := Lib.hid hb5; have HZ5 := Lib.hid hz5; have HX5 := Lib.hid hx5; clear hb5 hz5 hx5)
          | (refine wpList_load_row (o := ⟨some 56, _, _, _, _, _⟩) rfl 60 (.tmp 5) rfl X rfl 60 x.cells (0, 0) _ HX5.out Try.underlying60 rfl (kl_sz x) ?_)
          | (refine wpList_store_row (o := ⟨none, _, _, _, _, _⟩) rfl 60 (.tmp 2) (.tmp 56) rfl (w.heap.size + 1) x.cells rfl rfl 60 LayP.zero.cells HZ5.out (kl_sz _) rfl ?_ ?_; exact kl_one _))
        have hend : (w5.setRow (w.heap.size + 1) x.cells).heap[w.heap.size + 1]? = some (.cells x.cells 60 (0, 0)) := setRow_heap _ _ _ _ _ _ HZ5.out
        refine bodyPost_ret (v := .tuple #[.agg x.cells, .int .i64 0]) (fit_res _ (w.heap.size + 1) _ _ _ hend rfl rfl) rfl ⟨by rw [HFIT.out, HERR.out], ?_⟩
        exact below_setRow (HBV.out.trans (HB5.out.mono HBV.out.size)) (by omega) _
      | false =>
        rw [htog] at HMV HFIT HERR
        rw [if_neg (by decide)] at HFIT HERR
        clear htog
        go_wp2_with (first
          | (go_at_call 54; (with_reducible refine HMV.out.mono ?_); rintro e w5 ⟨rfl, hb5⟩; have hz5 := (hb5.block (w.heap.size + 1) (by have := HSV.out; have := HLT.out; omega)).trans HZV.out; have HB5 := Lib.hid hb5; have HZ5 := Lib.hid hz5; clear hb5 hz5)
          | (refine wpList_store_row (o := ⟨none, _, _, _, _, _⟩) rfl 60 (.tmp 2) (.tmp 55) rfl (w.heap.size + 1) LayP.zero.cells rfl rfl 60 LayP.zero.cells HZ5.out (kl_sz _) rfl ?_ ?_; kernel_rfl))
        have hend : (w5.setRow (w.heap.size + 1) LayP.zero.cells).heap[w.heap.size + 1]? = some (.cells LayP.zero.cells 60 (0, 0)) := setRow_heap _ _ _ _ _ _ HZ5.out
        refine bodyPost_ret (v := .tuple #[.agg LayP.zero.cells, .int .i64 12]) (fit_res _ (w.heap.size + 1) _ _ _ hend rfl rfl) rfl ⟨by rw [HFIT.out, HERR.out], ?_⟩
        exact below_setRow (HBV.out.trans (HB5.out.mono HBV.out.size)) (by omega) _
    · have hall2 : p.alone.all Bnd.ok = false := by simpa using hall
      rw [hall2] at HM
      have HFIT : Hid (p.fit = LayP.zero) := by unfold Hid PlanP.fit PlanP.fits; rw [hall2]; rfl
      have HERR : Hid (p.err = 12) := by unfold Hid PlanP.err PlanP.fits; rw [hall2]; rfl
      clear hall hall2 hlen
      have HMA := Lib.hid (HM.out wc _ hA0)
      have HB := Lib.hid hB
      have HZ := Lib.hid hZ
      have HS := Lib.hid hs
      clear hB hP hZ hA0 hs HM
      go_wp2_with (first
        | (go_at_call 54; (with_reducible refine HMA.out.mono ?_); rintro e w1 ⟨rfl, hb1⟩; have hz1 := (hb1.block (w.heap.size + 1) (by rw [HS.out]; omega)).trans HZ.out; have HB1 := Lib.hid hb1; have HZ1 := Lib.hid hz1; clear hb1 hz1)
        | (refine wpList_store_row (o := ⟨none, _, _, _, _, _⟩) rfl 60 (.tmp 2) (.tmp 32) rfl (w.heap.size + 1) LayP.zero.cells rfl rfl 60 LayP.zero.cells HZ1.out (kl_sz _) rfl ?_ ?_; kernel_rfl))
      have hend : (w1.setRow (w.heap.size + 1) LayP.zero.cells).heap[w.heap.size + 1]? = some (.cells LayP.zero.cells 60 (0, 0)) := setRow_heap _ _ _ _ _ _ HZ1.out
      refine bodyPost_ret (v := .tuple #[.agg LayP.zero.cells, .int .i64 12]) (fit_res _ (w.heap.size + 1) _ _ _ hend rfl rfl) rfl ⟨by rw [HFIT.out, HERR.out], ?_⟩
      exact below_setRow (HB.out.trans (HB1.out.mono (by rw [HS.out]; omega))) (by omega) _
end
end Go.Proofs.Ytfdipeaddofjaaa

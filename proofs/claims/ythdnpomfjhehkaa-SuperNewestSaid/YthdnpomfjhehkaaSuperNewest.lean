/-
  Proved: of two heads of unlike turns the greater generation is told, whichever was saved last. Whatever two numbers and head come in, the law SuperNewest answers true and the arguments read as they did.
  Conditions: none.
-/
import Derived.Test.YthdnpomfjhehkaaSuperBack
import Derived.Test.YthdnpomfjhehkaaNewMath
import Derived.OrdersHeld
import Derived.Deep.RegionHeld
namespace Go.Proofs.Ythdnpomfjhehkaa
open Go.ChangeShapes Go.WideShapes Go.ChangeAt Go.RowKit Go.Deep
attribute [-go_sem] Instr.build Instr.fill
/-- Two heads of their own. -/
structure TwoHeads (w : World) (x y : HeadP) (P1 P2 : Nat) (V : World) : Prop where
  p1 : V.heap[P1]? = some (.cells x.cells 26 (0, 0))
  p2 : V.heap[P2]? = some (.cells y.cells 26 (0, 0))
  ne : P1 ≠ P2
  lo : w.heap.size ≤ P1 ∧ w.heap.size ≤ P2
  below : Below w.heap.size w V
theorem run_store_plan {w : World} {g : Nat} {t : TypeId} {x : HeadP} (hg : w.heap[g]? = some (.cells x.cells t (0, 0))) (q : PlanP) :
    (storeVar 24 ⟨g, 0, none⟩ (.agg q.cells)).run Try.prog w = .ok () (w.setRow g ({ x with plan := q }).cells) := by
  have hall : ∀ v ∈ q.cells.toList, v.oneCell' = true := by
    intro v hv
    simp only [PlanP.cells, List.mem_cons, List.not_mem_nil, or_false] at hv
    rcases hv with rfl | rfl | rfl | rfl | rfl | rfl | rfl | rfl <;> rfl
  have := run_storeCells_at (P := Try.prog) g 0 t q.cells.toList 0 x.cells w hg (by simp [PlanP.cells, HeadP.cells]) hall
  have hi := kr_szS q
  cases hq : Try.prog.info? 24 with
  | none => simp [hq] at hi
  | some i =>
    have hs : q.cells.size = i.size := by simp [hq] at hi; omega
    simp [storeVar, sizeOf, typeInfo, hq, Value.cells, hs, this]
    rw [← hs]
    rfl
theorem wpList_store_part {P : Program} {ops : Array Oper} {rest : List Oper} {o : Oper} {a : Act} {w w' : World} {Q : Exit → Act → World → Prop} (hgd : o.guard = none) (ty : TypeId) (x y : Operand) (ho : o.op = .store ty x y)
    (g : Nat) (cells : Array Value) (hx : a.eval x = .pointer (some ⟨g, 0, none⟩)) (hy : a.eval y = .agg cells) (hr : (storeVar ty ⟨g, 0, none⟩ (.agg cells)).run P w = .ok () w')
    (h : wpList P ops Q rest (a.put o.dst undef) w') : wpList P ops Q (o :: rest) a w := by
  refine wpList_plain hgd fun K hK => ?_
  unfold Oper.wp execOp
  simp only [ho, hx, hy, Instr.storeAt, Instr.sureAddr, Sem.run_bind, Sem.run_pure, Result.andThen_ok, hr]
  exact hK _ _ h
theorem TwoHeads.next {w W W' : World} {x y : HeadP} {P1 P2 : Nat} (h : TwoHeads w x y P1 P2 W) (hb : Below W.heap.size W W') : TwoHeads w x y P1 P2 W' :=
  ⟨(hb.block _ (blk_lt h.p1)).trans h.p1, (hb.block _ (blk_lt h.p2)).trans h.p2, h.ne, h.lo, h.below.trans (hb.mono h.below.size)⟩
theorem TwoHeads.plans {w W : World} {x y : HeadP} {P1 P2 : Nat} (h : TwoHeads w x y P1 P2 W) (q : PlanP) : TwoHeads w { x with plan := q } { y with plan := q } P1 P2 ((W.setRow P1 ({ x with plan := q }).cells).setRow P2 ({ y with plan := q }).cells) :=
  ⟨(setRow_other h.ne).trans (setRow_heap _ _ _ _ _ _ h.p1), setRow_heap _ _ _ _ _ _ ((setRow_other h.ne.symm).trans h.p2), h.ne, h.lo, below_setRow (below_setRow h.below h.lo.1 _) h.lo.2 _⟩
theorem TwoHeads.gens {w W : World} {x y : HeadP} {P1 P2 : Nat} (h : TwoHeads w x y P1 P2 W) (g1 g2 : Int) : TwoHeads w { x with gen := g1 } { y with gen := g2 } P1 P2 ((W.setCell ⟨P1, 8, none⟩ (.int .i64 g1)).setCell ⟨P2, 8, none⟩ (.int .i64 g2)) :=
  ⟨(Below.heap_setCell _ _ _ _ h.ne).trans (blk_set h.p1 8 _), blk_set ((Below.heap_setCell _ _ _ _ h.ne.symm).trans h.p2) 8 _, h.ne, h.lo, (h.below.setCell (p := ⟨P1, 8, none⟩) h.lo.1 _).setCell (p := ⟨P2, 8, none⟩) h.lo.2 _⟩
theorem run_op_load {P : Program} {o : Oper} {a : Act} {w : World} (ty : TypeId) (x : Operand) (ho : o.op = .load ty x)
    (g : Nat) (hx : a.eval x = .pointer (some ⟨g, 0, none⟩)) (t : TypeId) (cs : Array Value) (fr : Nat × Nat) (d : TypeDesc) (hg : w.heap[g]? = some (.cells cs t fr))
    (hu : P.underlying ty = some d) (hd : (match d with | .struct _ | .array _ _ => true | _ => false) = true) (hi : (P.info? ty).map (·.size) = some cs.size) :
    (execOp a.eval o).run P w = .ok (.value (.agg cs)) w := by
  unfold execOp
  simp only [ho, hx, Instr.loadAt, Instr.sureAddr, Sem.run_bind, Sem.run_pure, Result.andThen_ok, run_loadVar_row w g t ty cs fr d hg hu hd hi]
section
attribute [-go_sem] run_eql_struct run_eqGuard_agg
attribute [local go_sem] head_eql head_guard
set_option maxRecDepth 100000 in
set_option maxHeartbeats 16000000 in
theorem superNewest_walk (a b : BitVec 16) (x : HeadP) (w : World) (hq : x.I) : Calls Try.prog 5 #[.int .u16 (U a), .int .u16 (U b), .agg x.cells] w (Good w) := by
  go_enter Try.func5, Try.ntmps5
  go_upto_region 1 with fail
  obtain ⟨W, hW⟩ : ∃ W, w.alloc (.cells x.cells 26) = W := ⟨_, rfl⟩
  have hS : W.heap[w.heap.size]? = some (.cells x.cells 26 (0, 0)) := by rw [← hW]; exact heap_alloc_new _ _
  have hsz : W.heap.size = w.heap.size + 1 := by rw [← hW]; simp
  have HBW : Hid (Below w.heap.size w W) := by rw [← hW]; exact (Below.refl _ _).alloc (Nat.le_refl _) _
  rw [show w.alloc (.cells x.cells 26) = W from hW]
  clear hW
  go_cut [7, 8] (fun s7 s8 V => ∃ P1 P2, s7 = .pointer (some ⟨P1, 0, none⟩) ∧ s8 = .pointer (some ⟨P2, 0, none⟩) ∧ TwoHeads w x x P1 P2 V)
  case first =>
    rename_i K1 hK1
    have HK1 := Lib.hid hK1
    clear hK1
    refine wp_region_held (S := fun V => V.heap[w.heap.size]? = some (.cells x.cells 26 (0, 0))) (by kernel_rfl) ?_
    change wpAnyH _ _ _ _ _ _ _ _ W.drew
    have hS1 : W.drew.heap[w.heap.size]? = some (.cells x.cells 26 (0, 0)) := hS
    refine wpAnyH_take (i := 0) (oi := ⟨some 16, _, _, _, _, _⟩) (v := .agg x.cells) rfl (by kernel_rfl) (by kernel_rfl) (by kernel_rfl) (fun _ _ _ h => h) (Or.inl ⟨by rfl, fun V hV => run_op_load 26 (.tmp 5) rfl w.heap.size rfl 26 x.cells (0, 0) _ hV Try.underlying26 rfl (kx_sz _)⟩) hS1 ?_
    refine wpAnyH_take (i := 1) (oi := ⟨some 17, _, _, _, _, _⟩) (v := .agg x.cells) rfl (by kernel_rfl) (by kernel_rfl) (by kernel_rfl) (fun _ _ _ h => h) (Or.inl ⟨by rfl, fun V hV => run_op_load 26 (.tmp 5) rfl w.heap.size rfl 26 x.cells (0, 0) _ hV Try.underlying26 rfl (kx_sz _)⟩) hS1 ?_
    simp only [Act.put, List.setIfInBounds_toArray, List.set_cons_zero, List.set_cons_succ]
    obtain ⟨V0, hV0⟩ : ∃ V0, W.drew = V0 := ⟨_, rfl⟩
    have hz0 : V0.heap.size = w.heap.size + 1 := by rw [← hV0]; exact hsz
    have hb0 : Below w.heap.size w V0 := by rw [← hV0]; exact HBW.out.drew
    rw [hV0] at hS1 ⊢
    clear hV0 hS hsz HBW
    refine wpAnyH_ready (rs := [2, 3]) (by kernel_rfl) (by simp) ?_
    refine AllReadyH.cons rfl (fun K hK => ?_) (AllReadyH.cons rfl (fun K hK => ?_) AllReadyH.nil)
    · have a1 := heap_alloc_new V0 (.cells HeadP.zero.cells 26)
      have a2 := heap_alloc_new (V0.alloc (.cells HeadP.zero.cells 26)) (.cells HeadP.zero.cells 26)
      have a0 := blk_alloc (blk_alloc hS1 (.cells HeadP.zero.cells 26)) (.cells HeadP.zero.cells 26)
      have a1' := blk_alloc a1 (.cells HeadP.zero.cells 26)
      have hb2 := (hb0.alloc hb0.size (.cells HeadP.zero.cells 26)).alloc (by have := hb0.size; simp; omega) (.cells HeadP.zero.cells 26)
      have a0' := blk_alloc hS1 (.cells HeadP.zero.cells 26)
      rw [World.size_alloc] at a2
      go_simp
      change K _ (V0.alloc (.cells HeadP.zero.cells 26))
      obtain ⟨V1, hV1⟩ : ∃ V1, V0.alloc (.cells HeadP.zero.cells 26) = V1 := ⟨_, rfl⟩
      have hz1 : V1.heap.size = w.heap.size + 2 := by rw [← hV1]; simp [hz0]
      rw [hV1] at a0 a0' a1 a1' a2 hb2 ⊢
      refine hK.out _ _ a0' (fun _ => ?_)
      clear hK K hV1
      refine wpAnyH_ready (rs := [3]) (by kernel_rfl) (by simp) ?_
      refine AllReadyH.cons rfl (fun K hK => ?_) AllReadyH.nil
      go_simp
      change K _ (V1.alloc (.cells HeadP.zero.cells 26))
      obtain ⟨V2, hV2⟩ : ∃ V2, V1.alloc (.cells HeadP.zero.cells 26) = V2 := ⟨_, rfl⟩
      rw [hV2] at a0 a1' a2 hb2 ⊢
      rw [hz0] at a1' a2
      refine hK.out _ _ a0 (fun _ => ?_)
      clear hK K hV2 a1
      refine wpAnyH_ready (rs := [4]) (by kernel_rfl) (by simp) ?_
      refine AllReadyH.cons rfl (fun K hK => ?_) AllReadyH.nil
      rw [if_pos (by rfl)]
      refine wp_store_row 26 (.tmp 7) (.tmp 16) rfl (w.heap.size + 1) x.cells rfl rfl 26 HeadP.zero.cells a1' (kx_sz _) rfl (kh_one _) ?_
      have s1 := setRow_heap V2 (w.heap.size + 1) _ x.cells _ _ a1'
      have s2 := (setRow_other (cs := x.cells) (show (w.heap.size + 2) ≠ w.heap.size + 1 by omega)).trans a2
      have s0 := (setRow_other (cs := x.cells) (show w.heap.size ≠ w.heap.size + 1 by omega)).trans a0
      have hb3 := below_setRow hb2 (show w.heap.size ≤ w.heap.size + 1 by omega) x.cells
      obtain ⟨V3, hV3⟩ : ∃ V3, V2.setRow (w.heap.size + 1) x.cells = V3 := ⟨_, rfl⟩
      rw [hV3] at s1 s2 s0 hb3 ⊢
      refine hK.out _ _ s0 (fun _ => ?_)
      clear hK K hV3
      simp only [Act.put]
      refine wpAnyH_ready (rs := [5]) (by kernel_rfl) (by simp) ?_
      refine AllReadyH.cons rfl (fun K hK => ?_) AllReadyH.nil
      rw [if_pos (by rfl)]
      refine wp_store_row 26 (.tmp 8) (.tmp 17) rfl (w.heap.size + 2) x.cells rfl rfl 26 HeadP.zero.cells s2 (kx_sz _) rfl (kh_one _) ?_
      have q2 := setRow_heap V3 (w.heap.size + 2) _ x.cells _ _ s2
      have q1 := (setRow_other (cs := x.cells) (show (w.heap.size + 1) ≠ w.heap.size + 2 by omega)).trans s1
      have q0 := (setRow_other (cs := x.cells) (show w.heap.size ≠ w.heap.size + 2 by omega)).trans s0
      have hb4 := below_setRow hb3 (show w.heap.size ≤ w.heap.size + 2 by omega) x.cells
      refine hK.out _ _ q0 (fun _ => ?_)
      clear hK K
      refine wpAnyH_done (by kernel_rfl) ?_ _
      simp only [Act.put]
      refine HK1.out _ _ ?_
      go_meet
      exact ⟨w.heap.size + 1, w.heap.size + 2, rfl, rfl, q1, q2, by omega, by omega, hb4⟩
    · have a1 := heap_alloc_new V0 (.cells HeadP.zero.cells 26)
      have a2 := heap_alloc_new (V0.alloc (.cells HeadP.zero.cells 26)) (.cells HeadP.zero.cells 26)
      have a0 := blk_alloc (blk_alloc hS1 (.cells HeadP.zero.cells 26)) (.cells HeadP.zero.cells 26)
      have a1' := blk_alloc a1 (.cells HeadP.zero.cells 26)
      have hb2 := (hb0.alloc hb0.size (.cells HeadP.zero.cells 26)).alloc (by have := hb0.size; simp; omega) (.cells HeadP.zero.cells 26)
      have a0' := blk_alloc hS1 (.cells HeadP.zero.cells 26)
      rw [World.size_alloc] at a2
      go_simp
      change K _ (V0.alloc (.cells HeadP.zero.cells 26))
      obtain ⟨V1, hV1⟩ : ∃ V1, V0.alloc (.cells HeadP.zero.cells 26) = V1 := ⟨_, rfl⟩
      have hz1 : V1.heap.size = w.heap.size + 2 := by rw [← hV1]; simp [hz0]
      rw [hV1] at a0 a0' a1 a1' a2 hb2 ⊢
      refine hK.out _ _ a0' (fun _ => ?_)
      clear hK K hV1
      refine wpAnyH_ready (rs := [2]) (by kernel_rfl) (by simp) ?_
      refine AllReadyH.cons rfl (fun K hK => ?_) AllReadyH.nil
      go_simp
      change K _ (V1.alloc (.cells HeadP.zero.cells 26))
      obtain ⟨V2, hV2⟩ : ∃ V2, V1.alloc (.cells HeadP.zero.cells 26) = V2 := ⟨_, rfl⟩
      rw [hV2] at a0 a1' a2 hb2 ⊢
      rw [hz0] at a1' a2
      refine hK.out _ _ a0 (fun _ => ?_)
      clear hK K hV2 a1
      refine wpAnyH_ready (rs := [4]) (by kernel_rfl) (by simp) ?_
      refine AllReadyH.cons rfl (fun K hK => ?_) AllReadyH.nil
      rw [if_pos (by rfl)]
      refine wp_store_row 26 (.tmp 7) (.tmp 16) rfl (w.heap.size + 2) x.cells rfl rfl 26 HeadP.zero.cells a2 (kx_sz _) rfl (kh_one _) ?_
      have s1 := setRow_heap V2 (w.heap.size + 2) _ x.cells _ _ a2
      have s2 := (setRow_other (cs := x.cells) (show (w.heap.size + 1) ≠ w.heap.size + 2 by omega)).trans a1'
      have s0 := (setRow_other (cs := x.cells) (show w.heap.size ≠ w.heap.size + 2 by omega)).trans a0
      have hb3 := below_setRow hb2 (show w.heap.size ≤ w.heap.size + 2 by omega) x.cells
      obtain ⟨V3, hV3⟩ : ∃ V3, V2.setRow (w.heap.size + 2) x.cells = V3 := ⟨_, rfl⟩
      rw [hV3] at s1 s2 s0 hb3 ⊢
      refine hK.out _ _ s0 (fun _ => ?_)
      clear hK K hV3
      simp only [Act.put]
      refine wpAnyH_ready (rs := [5]) (by kernel_rfl) (by simp) ?_
      refine AllReadyH.cons rfl (fun K hK => ?_) AllReadyH.nil
      rw [if_pos (by rfl)]
      refine wp_store_row 26 (.tmp 8) (.tmp 17) rfl (w.heap.size + 1) x.cells rfl rfl 26 HeadP.zero.cells s2 (kx_sz _) rfl (kh_one _) ?_
      have q2 := setRow_heap V3 (w.heap.size + 1) _ x.cells _ _ s2
      have q1 := (setRow_other (cs := x.cells) (show (w.heap.size + 2) ≠ w.heap.size + 1 by omega)).trans s1
      have q0 := (setRow_other (cs := x.cells) (show w.heap.size ≠ w.heap.size + 1 by omega)).trans s0
      have hb4 := below_setRow hb3 (show w.heap.size ≤ w.heap.size + 1 by omega) x.cells
      refine hK.out _ _ q0 (fun _ => ?_)
      clear hK K
      refine wpAnyH_done (by kernel_rfl) ?_ _
      simp only [Act.put]
      refine HK1.out _ _ ?_
      go_meet
      exact ⟨w.heap.size + 2, w.heap.size + 1, rfl, rfl, q1, q2, by omega, by omega, hb4⟩
  case rest =>
    obtain ⟨P1, P2, rfl, rfl, hT⟩ := hcut
    have HSM := Lib.hid small_any
    have HT0 := Lib.hid hT
    clear hT
    go_upto_region 3 with (first
      | (go_at_call 14; have _t := HT0; (with_reducible refine (HSM.out _).mono ?_); rintro e v1 ⟨rfl, hb1⟩; have HT1 := Lib.hid (HT0.out.next hb1); clear _t HT0 hb1)
      | (go_at_call 14; have _t := HT1; (with_reducible refine (HSM.out _).mono ?_); rintro e v2 ⟨rfl, hb2⟩; have HT2 := Lib.hid (HT1.out.next hb2); clear _t HT1 hb2)
      | (refine wpList_store_part (o := ⟨none, _, _, _, _, _⟩) rfl 24 (.tmp 20) (.tmp 18) rfl P1 smallP.cells rfl rfl (run_store_plan HT2.out.p1 smallP) ?_)
      | (refine wpList_store_part (o := ⟨none, _, _, _, _, _⟩) rfl 24 (.tmp 21) (.tmp 19) rfl P2 smallP.cells rfl rfl (run_store_plan ((setRow_other HT2.out.ne.symm).trans HT2.out.p2) smallP) ?_))
    have hT3 := HT2.out.plans smallP
    generalize (v2.setRow P1 ({ x with plan := smallP }).cells).setRow P2 ({ x with plan := smallP }).cells = v3 at hT3 ⊢
    have ha0 := U_nonneg a
    have hb0 := U_nonneg b
    have ha1 := U_lt a
    have hb1 := U_lt b
    obtain ⟨ga, hga⟩ : ∃ ga, U a = ga := ⟨_, rfl⟩
    obtain ⟨gb, hgb⟩ : ∃ gb, U b = gb := ⟨_, rfl⟩
    rw [hga] at ha0 ha1 ⊢
    rw [hgb] at hb0 hb1 ⊢
    have ea : ga ≤ 65535 := by omega
    have eb : gb ≤ 65535 := by omega
    clear HT2 ha1 hb1 hga hgb
    have c1 := (head_all hT3.p1 (Below.refl _ _)).2.2.2.2.2.2.2.2.1
    have c2 := (head_all hT3.p2 (Below.refl _ _)).2.2.2.2.2.2.2.2.1
    have f1 := blk_frozen hT3.p1 8
    have f2 := blk_frozen hT3.p2 8
    have hne := hT3.ne
    have hne2 := hT3.ne.symm
    have hT4 := hT3.gens (2 * ga + 1) (2 * gb + 2)
    have HT4 := Lib.hid hT4
    clear hT3 hT4
    go_upto_region 4 with fail
    obtain ⟨B, hBB⟩ : ∃ B, (v3.setCell ⟨P1, 8, none⟩ (.int .i64 (2 * ga + 1))).setCell ⟨P2, 8, none⟩ (.int .i64 (2 * gb + 2)) = B := ⟨_, rfl⟩
    rw [hBB] at HT4 ⊢
    clear hBB c1 c2 f1 f2 hne hne2
    obtain ⟨X, hX⟩ : ∃ X : HeadP, ({ ({ x with plan := smallP } : HeadP) with gen := 2 * ga + 1 } : HeadP) = X := ⟨_, rfl⟩
    obtain ⟨Y, hY⟩ : ∃ Y : HeadP, ({ ({ x with plan := smallP } : HeadP) with gen := 2 * gb + 2 } : HeadP) = Y := ⟨_, rfl⟩
    have px : X.plan = smallP := by rw [← hX]
    have py : Y.plan = smallP := by rw [← hY]
    have gx : X.gen = 2 * ga + 1 := by rw [← hX]
    have gy : Y.gen = 2 * gb + 2 := by rw [← hY]
    have wx : X.Wf := by rw [← hX]; exact ⟨by show 2 * ga + 1 ≤ _; omega, hq.stamp.2, hq.log.2, hq.region.2⟩
    have wy : Y.Wf := by rw [← hY]; exact ⟨by show 2 * gb + 2 ≤ _; omega, hq.stamp.2, hq.log.2, hq.region.2⟩
    rw [hX, hY] at HT4
    clear hX hY hq
    have gx2 : X.gen % 2 = 1 := by omega
    have gy2 : Y.gen % 2 = 0 := by omega
    clear gx gy ha0 hb0 ea eb
    have HNEW : Hid (Calls Try.prog 11 #[.int .i64 60, .int .i64 96] B fun e W' => ∃ D, e = .returned (.pointer (some ⟨D, 0, none⟩)) ∧ DevHere B D (Dev.new 60 96) W' ∧ Below B.heap.size B W') := here_new 60 96 (by decide) (Below.refl _ _)
    have HOX := Lib.hid (of_any X)
    have HOY : Hid (∀ W, Calls Try.prog 7 #[.agg #[.int .i64 Y.plan.sectors, .int .i64 Y.plan.size, .int .i64 Y.plan.regions, .int .i64 Y.plan.rs, .int .i64 Y.plan.log, .int .i64 Y.plan.depth, .int .i64 Y.plan.memory, .int .u64 (U Y.plan.seed), .int .i64 Y.gen, .int .i64 Y.page, .int .i64 Y.stamp, .int .i64 Y.depth, .int .i64 Y.log, .int .i64 Y.region, .int .i64 Y.time]] W (AggRet Y.cells W)) := of_any Y
    have HOZ := Lib.hid (of_any Y)
    have HAW := Lib.hid awake10
    have HTN := Lib.hid (fun D d W (h : DevHere B D d W) => HT4.out.next h.below)
    have HBW := Lib.hid HT4.out.below
    by_cases hx : X.err = 0
    · have e1 := newest_first hx px
      have HS1 : Hid (∀ D W, DevHere B D (Dev.new 60 96) W → Calls Try.prog 15 #[.pointer (some ⟨D, 0, none⟩), .agg X.cells] W (Did B D (nw1 X) (.int .i64 0))) := fun D W h => by
        have := save_here h X wx (small_new 60 96) (by decide)
        rwa [e1] at this
      by_cases hy : Y.err = 0
      · obtain ⟨q1, q2, q3, q4, q5, q6⟩ := newest_all hx hy wx wy px py gx2 gy2
        have HS2 : Hid (∀ D W, DevHere B D (nw1 X) W → Calls Try.prog 15 #[.pointer (some ⟨D, 0, none⟩), .agg Y.cells] W (Did B D (nw2 X Y) (.int .i64 0))) := fun D W h => by
          have := save_here h Y wy ((small_new 60 96).saved X) (by decide)
          rwa [q1] at this
        have HS3 : Hid (∀ Q D W, DevApart B Q D (nw2 X Y) W → Calls Try.prog 15 #[.pointer (some ⟨D, 0, none⟩), .agg X.cells] W (DidApart B Q D (nw3 X Y) (.int .i64 0) W)) := fun Q D W h => by
          have := save_apart h X wx (((small_new 60 96).saved X).saved Y) (by decide)
          rwa [q2] at this
        have zs := newest_sort X Y
        obtain ⟨zg, zo⟩ := newest_gens gx2 gy2
        obtain ⟨Z, hZ⟩ : ∃ Z, newer X Y = Z := ⟨_, rfl⟩
        obtain ⟨O, hO⟩ : ∃ O, older X Y = O := ⟨_, rfl⟩
        rw [hZ, hO] at zs zo
        rw [hZ] at zg
        have HL1 : Hid (∀ D W, DevHere B D (nw2 X Y) W → Calls Try.prog 10 #[.pointer (some ⟨D, 0, none⟩)] W (Loaded Z 0 W)) := fun D W h => by
          have := load_here h
          rw [q3] at this
          have e1 : loadH (nw2 X Y) = Z := by unfold loadH; rw [q5, zs]; rfl
          have e2 : loadErr (nw2 X Y) = 0 := by unfold loadErr; rw [q5]; rfl
          rw [e1, e2] at this
          exact this
        have HL2 : Hid (∀ D W, DevHere B D (nw3 X Y) W → Calls Try.prog 10 #[.pointer (some ⟨D, 0, none⟩)] W (Loaded Z 0 W)) := fun D W h => by
          have := load_here h
          rw [q4] at this
          have e1 : loadH (nw3 X Y) = Z := by unfold loadH; rw [q6, zs]; rfl
          have e2 : loadErr (nw3 X Y) = 0 := by unfold loadErr; rw [q6]; rfl
          rw [e1, e2] at this
          exact this
        have HHD : Hid (∀ D W, DevHere B D (nw3 X Y) W → Calls Try.prog 16 #[.pointer (some ⟨D, 0, none⟩)] W fun e W' => ∃ g c, e = .returned (.slice (some ⟨g, 0, none⟩) 2 c) ∧ (W'.cell? ⟨g, 8, none⟩ = some (.int .i64 Z.gen) ∧ W'.cell? ⟨g, 23, none⟩ = some (.int .i64 O.gen)) ∧ Below W.heap.size W W') := fun D W h => by
          refine (heads_here h).mono ?_
          rintro e W' ⟨v, he, hr, hb⟩
          rw [q6, zs] at hr
          obtain ⟨g, c, rfl, _⟩ := slice_cells hr (by simp)
          have h8 : (rowsH [Z, O])[8]? = some (.int .i64 Z.gen) := rfl
          have h23 : (rowsH [Z, O])[23]? = some (.int .i64 O.gen) := rfl
          have c8 := hr.cells rfl _ _ h8
          have c23 := hr.cells rfl _ _ h23
          rw [add_plain, Nat.zero_add] at c8 c23
          exact ⟨g, c, he, ⟨c8, c23⟩, hb⟩
        have hif : max X.gen Y.gen = Z.gen := zg.symm
        have HIF := Lib.hid hif
        have HZO := Lib.hid zo
        clear q1 q2 q3 q4 q5 q6 zs zg zo hif e1 hx hy px py gx2 gy2 wx wy hZ hO
        generalize nw1 X = d1 at *
        generalize nw2 X Y = d2 at *
        generalize nw3 X Y = d3 at *
        go_upto_region 5 with (go_at_call 11; (with_reducible refine HNEW.out.mono ?_); rintro e w1 ⟨D, rfl, hd1, hb1⟩; have HD1 := Lib.hid hd1; clear hd1 hb1)
        have HT5 := Lib.hid (HTN.out _ _ _ HD1.out)
        clear HNEW
        go_upto_region 8 with (first
          | (refine wpList_load_row (o := ⟨some 34, _, _, _, _, _⟩) rfl 26 (.tmp 7) rfl P1 rfl 26 X.cells (0, 0) _ (HT5.out.p1) Try.underlying26 rfl (kx_sz _) ?_)
          | (go_at_call 7; have _t := HD1; (with_reducible refine (HOX.out _).mono ?_); rintro e w2 ⟨rfl, hb2⟩; have HD2 := Lib.hid (HD1.out.on hb2); clear _t HD1 hb2)
          | (go_at_call 15; (with_reducible refine (HS1.out _ _ HD2.out).mono ?_); rintro e w3 ⟨rfl, hd3⟩; have HD3 := Lib.hid hd3; obtain ⟨d0, d1, d2, d3, d4, d5, d6, d7, d8, d9, d10, d11, d12, d13, d14⟩ := head_all (HTN.out _ _ _ hd3).p2 (Below.refl _ _); clear hd3 HD2)
          | (go_at_call 7; have _t := HD3; (with_reducible refine (HOY.out _).mono ?_); rintro e w4 ⟨rfl, hb4⟩; have HD4 := Lib.hid (HD3.out.on hb4); clear _t HD3 hb4 d0 d1 d2 d3 d4 d5 d6 d7 d8 d9 d10 d11 d12 d13 d14)
          | (go_at_call 15; (with_reducible refine (HS2.out _ _ HD4.out).mono ?_); rintro e w5 ⟨rfl, hd5⟩; have HD5 := Lib.hid hd5; clear hd5 HD4)
          | (go_at_call 10; have _t := HD5; (with_reducible refine (HL1.out _ _ HD5.out).mono ?_); rintro e w6 ⟨rfl, hb6⟩; have HD6 := Lib.hid (HD5.out.on hb6); clear _t HD5 hb6)
          | (refine wpList_store_row (o := ⟨none, _, _, _, _, _⟩) rfl 35 (.tmp 10) (.tmp 49) rfl w6.heap.size Z.cells rfl rfl 35 HeadP.zero.cells (heap_alloc_new _ _) (kh_sz _) rfl ?_ ?_; exact kh_one _))
        change (Code.region _ _ _).wp _ _ _ ((w6.alloc (.cells HeadP.zero.cells 35)).setRow w6.heap.size Z.cells)
        obtain ⟨hb7, hx7⟩ := row_put w6 Z
        generalize (w6.alloc (.cells HeadP.zero.cells 35)).setRow w6.heap.size Z.cells = w7 at hb7 hx7 ⊢
        have HB7 := Lib.hid hb7
        have HX7 := Lib.hid hx7
        have HT7 := Lib.hid (HTN.out _ _ _ (HD6.out.on hb7))
        have HPB : Hid (B.heap.size ≤ w6.heap.size) := HD6.out.size
        clear hb7 hx7
        generalize hP : w6.heap.size = P at HX7 ⊢
        have HP := Lib.hid hP
        clear hP
        go_upto_region 10 with (first
          | (refine wpList_load_row (o := ⟨some 52, _, _, _, _, _⟩) rfl 26 (.tmp 7) rfl P1 rfl 26 X.cells (0, 0) _ (HT7.out.p1) Try.underlying26 rfl (kx_sz _) ?_)
          | (go_at_call 7; have _t := HB7; (with_reducible refine (HOX.out _).mono ?_); rintro e w8 ⟨rfl, hb8⟩; have HX8 := Lib.hid ((hb8.block _ (blk_lt HX7.out)).trans HX7.out); have HA8 := Lib.hid (apart_of (Q := fun k => k = P) HD6.out (HB7.out.trans (hb8.mono HB7.out.size)) (fun k e => by rw [e, ← HP.out]; exact Nat.le_refl _) (fun k e => by rw [e]; exact blk_lt HX8.out)); clear _t HB7 hb8 HX7)
          | (go_at_call 15; (with_reducible refine (HS3.out _ _ _ HA8.out).mono ?_); rintro e w9 ⟨rfl, hd9, hs9⟩; have HD9 := Lib.hid hd9.here; have HX9 := Lib.hid ((hs9.2 P rfl).trans HX8.out); clear hd9 hs9 HA8 HX8)
          | (go_at_call 10; have _t := HD9; (with_reducible refine (HL2.out _ _ HD9.out).mono ?_); rintro e wA ⟨rfl, hbA⟩; have HDA := Lib.hid (HD9.out.on hbA); have HXA := Lib.hid ((hbA.block _ (blk_lt HX9.out)).trans HX9.out); clear _t HD9 HX9 hbA)
          | (refine wpList_store_row (o := ⟨none, _, _, _, _, _⟩) rfl 35 (.tmp 13) (.tmp 58) rfl wA.heap.size Z.cells rfl rfl 35 HeadP.zero.cells (heap_alloc_new _ _) (kh_sz _) rfl ?_ ?_; exact kh_one _))
        change (Code.region _ _ _).wp _ _ _ ((wA.alloc (.cells HeadP.zero.cells 35)).setRow wA.heap.size Z.cells)
        obtain ⟨hbB, hxB⟩ := row_put wA Z
        generalize (wA.alloc (.cells HeadP.zero.cells 35)).setRow wA.heap.size Z.cells = wB at hbB hxB ⊢
        have HDB := Lib.hid (HDA.out.on hbB)
        have HXB := Lib.hid ((hbB.block _ (blk_lt HXA.out)).trans HXA.out)
        have HYB := Lib.hid hxB
        clear hbB hxB
        generalize wA.heap.size = P3 at *
        go_upto_region 11 with (go_at_call 16; (with_reducible refine (HHD.out _ _ HDB.out).mono ?_); rintro e V ⟨gl, cl, rfl, ⟨l8, l23⟩, hbV⟩; have HDV := Lib.hid (HDB.out.on hbV); have HXV := Lib.hid ((hbV.block _ (blk_lt HXB.out)).trans HXB.out); have HYV := Lib.hid ((hbV.block _ (blk_lt HYB.out)).trans HYB.out); clear hbV)
        have HTV := HTN.out _ _ _ HDV.out
        have hX := HXV.out
        have hY := HYV.out
        have m1 := after_cell (blk_cell HTV.p1 8)
        have m2 := after_cell (blk_cell HTV.p2 8)
        have m3 := after_cell l8
        have m4 := after_cell l23
        replace m1 : ∀ p : After V, p.v.cell? ⟨P1, 8, none⟩ = some (.int .i64 X.gen) := m1
        replace m2 : ∀ p : After V, p.v.cell? ⟨P2, 8, none⟩ = some (.int .i64 Y.gen) := m2
        obtain ⟨ca0, ca1, ca2, ca3, ca4, ca5, ca6, ca7, ca8, ca9, ca10, ca11, ca12, ca13, ca14⟩ : ((∀ p : After V, p.v.cell? ⟨P, 0, none⟩ = some (.int .i64 Z.plan.sectors)) ∧ (∀ p : After V, p.v.cell? ⟨P, 1, none⟩ = some (.int .i64 Z.plan.size)) ∧ (∀ p : After V, p.v.cell? ⟨P, 2, none⟩ = some (.int .i64 Z.plan.regions)) ∧ (∀ p : After V, p.v.cell? ⟨P, 3, none⟩ = some (.int .i64 Z.plan.rs)) ∧ (∀ p : After V, p.v.cell? ⟨P, 4, none⟩ = some (.int .i64 Z.plan.log)) ∧ (∀ p : After V, p.v.cell? ⟨P, 5, none⟩ = some (.int .i64 Z.plan.depth)) ∧ (∀ p : After V, p.v.cell? ⟨P, 6, none⟩ = some (.int .i64 Z.plan.memory)) ∧ (∀ p : After V, p.v.cell? ⟨P, 7, none⟩ = some (.int .u64 (U Z.plan.seed))) ∧ (∀ p : After V, p.v.cell? ⟨P, 8, none⟩ = some (.int .i64 Z.gen)) ∧ (∀ p : After V, p.v.cell? ⟨P, 9, none⟩ = some (.int .i64 Z.page)) ∧ (∀ p : After V, p.v.cell? ⟨P, 10, none⟩ = some (.int .i64 Z.stamp)) ∧ (∀ p : After V, p.v.cell? ⟨P, 11, none⟩ = some (.int .i64 Z.depth)) ∧ (∀ p : After V, p.v.cell? ⟨P, 12, none⟩ = some (.int .i64 Z.log)) ∧ (∀ p : After V, p.v.cell? ⟨P, 13, none⟩ = some (.int .i64 Z.region)) ∧ (∀ p : After V, p.v.cell? ⟨P, 14, none⟩ = some (.int .i64 Z.time))) := ⟨after_cell (blk_cell hX 0), after_cell (blk_cell hX 1), after_cell (blk_cell hX 2), after_cell (blk_cell hX 3), after_cell (blk_cell hX 4), after_cell (blk_cell hX 5), after_cell (blk_cell hX 6), after_cell (blk_cell hX 7), after_cell (blk_cell hX 8), after_cell (blk_cell hX 9), after_cell (blk_cell hX 10), after_cell (blk_cell hX 11), after_cell (blk_cell hX 12), after_cell (blk_cell hX 13), after_cell (blk_cell hX 14)⟩
        obtain ⟨cb0, cb1, cb2, cb3, cb4, cb5, cb6, cb7, cb8, cb9, cb10, cb11, cb12, cb13, cb14⟩ : ((∀ p : After V, p.v.cell? ⟨P3, 0, none⟩ = some (.int .i64 Z.plan.sectors)) ∧ (∀ p : After V, p.v.cell? ⟨P3, 1, none⟩ = some (.int .i64 Z.plan.size)) ∧ (∀ p : After V, p.v.cell? ⟨P3, 2, none⟩ = some (.int .i64 Z.plan.regions)) ∧ (∀ p : After V, p.v.cell? ⟨P3, 3, none⟩ = some (.int .i64 Z.plan.rs)) ∧ (∀ p : After V, p.v.cell? ⟨P3, 4, none⟩ = some (.int .i64 Z.plan.log)) ∧ (∀ p : After V, p.v.cell? ⟨P3, 5, none⟩ = some (.int .i64 Z.plan.depth)) ∧ (∀ p : After V, p.v.cell? ⟨P3, 6, none⟩ = some (.int .i64 Z.plan.memory)) ∧ (∀ p : After V, p.v.cell? ⟨P3, 7, none⟩ = some (.int .u64 (U Z.plan.seed))) ∧ (∀ p : After V, p.v.cell? ⟨P3, 8, none⟩ = some (.int .i64 Z.gen)) ∧ (∀ p : After V, p.v.cell? ⟨P3, 9, none⟩ = some (.int .i64 Z.page)) ∧ (∀ p : After V, p.v.cell? ⟨P3, 10, none⟩ = some (.int .i64 Z.stamp)) ∧ (∀ p : After V, p.v.cell? ⟨P3, 11, none⟩ = some (.int .i64 Z.depth)) ∧ (∀ p : After V, p.v.cell? ⟨P3, 12, none⟩ = some (.int .i64 Z.log)) ∧ (∀ p : After V, p.v.cell? ⟨P3, 13, none⟩ = some (.int .i64 Z.region)) ∧ (∀ p : After V, p.v.cell? ⟨P3, 14, none⟩ = some (.int .i64 Z.time))) := ⟨after_cell (blk_cell hY 0), after_cell (blk_cell hY 1), after_cell (blk_cell hY 2), after_cell (blk_cell hY 3), after_cell (blk_cell hY 4), after_cell (blk_cell hY 5), after_cell (blk_cell hY 6), after_cell (blk_cell hY 7), after_cell (blk_cell hY 8), after_cell (blk_cell hY 9), after_cell (blk_cell hY 10), after_cell (blk_cell hY 11), after_cell (blk_cell hY 12), after_cell (blk_cell hY 13), after_cell (blk_cell hY 14)⟩
        have hif := HIF.out
        have hzo := HZO.out
        clear l8 l23 hX hY HTV HTN HS1 HS2 HS3 HL1 HL2 HHD HOX HOY HOZ HSM HT4 HT5 HT7 HXV HYV HXB HYB HXA HDB HDA
        refine wp_region_after (by kernel_rfl) (by kernel_rfl) ?_
        repeat (go_big_quiet_step ((go_at_call 8; with_reducible exact after_call (HAW.out _))))
        refine wpQuiet_nil ?_
        rintro W9 ⟨⟨_, hW9⟩, rfl⟩
        have b9 := HDV.out.below.trans (hW9.mono HDV.out.size)
        have HW9 := Lib.hid (HBW.out.trans (b9.mono HBW.out.size))
        clear b9 hW9 m1 m2 m3 m4 ca0 ca1 ca2 ca3 ca4 ca5 ca6 ca7 ca8 ca9 ca10 ca11 ca12 ca13 ca14 cb0 cb1 cb2 cb3 cb4 cb5 cb6 cb7 cb8 cb9 cb10 cb11 cb12 cb13 cb14
        go_wp2
        go_ret
        exact ⟨rfl, HW9.out⟩
      · have e2 := newest_not (d := nw1 X) hy
        have HS2 : Hid (∀ D W, DevHere B D (nw1 X) W → Calls Try.prog 15 #[.pointer (some ⟨D, 0, none⟩), .agg Y.cells] W (Did B D ((nw1 X).saved Y) (.int .i64 Y.err))) := fun D W h => by
          have := save_here h Y wy ((small_new 60 96).saved X) (by decide)
          rwa [e2] at this
        have e0 : (Y.err == (0 : Int)) = false := by simpa using hy
        clear e1 e2 hx hy px py gx2 gy2 wx wy
        generalize Y.err = er at HS2 e0
        generalize (nw1 X).saved Y = d2 at *
        generalize nw1 X = d1 at *
        go_upto_region 5 with (go_at_call 11; (with_reducible refine HNEW.out.mono ?_); rintro e w1 ⟨D, rfl, hd1, hb1⟩; have HD1 := Lib.hid hd1; clear hd1 hb1)
        have HT5 := Lib.hid (HTN.out _ _ _ HD1.out)
        clear HNEW
        go_wp2_with (first
          | (refine wpList_load_row (o := ⟨some 34, _, _, _, _, _⟩) rfl 26 (.tmp 7) rfl P1 rfl 26 X.cells (0, 0) _ (HT5.out.p1) Try.underlying26 rfl (kx_sz _) ?_)
          | (go_at_call 7; have _t := HD1; (with_reducible refine (HOX.out _).mono ?_); rintro e w2 ⟨rfl, hb2⟩; have HD2 := Lib.hid (HD1.out.on hb2); clear _t HD1 hb2)
          | (go_at_call 15; (with_reducible refine (HS1.out _ _ HD2.out).mono ?_); rintro e w3 ⟨rfl, hd3⟩; have HD3 := Lib.hid hd3; obtain ⟨d0, d1, d2, d3, d4, d5, d6, d7, d8, d9, d10, d11, d12, d13, d14⟩ := head_all (HTN.out _ _ _ hd3).p2 (Below.refl _ _); clear hd3 HD2)
          | (go_at_call 7; have _t := HD3; (with_reducible refine (HOY.out _).mono ?_); rintro e w4 ⟨rfl, hb4⟩; have HD4 := Lib.hid (HD3.out.on hb4); clear _t HD3 hb4 d0 d1 d2 d3 d4 d5 d6 d7 d8 d9 d10 d11 d12 d13 d14)
          | (go_at_call 15; (with_reducible refine (HS2.out _ _ HD4.out).mono ?_); rintro e w5 ⟨rfl, hd5⟩; have HD5 := Lib.hid hd5; clear hd5 HD4)
          | (go_at_call 8; (with_reducible refine (HAW.out _).mono ?_); rintro e w6 ⟨rfl, hb6⟩; have HD6 := Lib.hid (HD5.out.on hb6); clear hb6))
        go_ret
        exact ⟨rfl, HBW.out.trans (HD6.out.below.mono HBW.out.size)⟩
    · have e2 := newest_not (d := Dev.new 60 96) hx
      have HS1 : Hid (∀ D W, DevHere B D (Dev.new 60 96) W → Calls Try.prog 15 #[.pointer (some ⟨D, 0, none⟩), .agg X.cells] W (Did B D ((Dev.new 60 96).saved X) (.int .i64 X.err))) := fun D W h => by
        have := save_here h X wx (small_new 60 96) (by decide)
        rwa [e2] at this
      have e0 : (X.err == (0 : Int)) = false := by simpa using hx
      have e0' : (X.err != (0 : Int)) = true := by simpa using hx
      clear e2 hx px py gx2 gy2 wx wy
      generalize X.err = er at HS1 e0 e0'
      generalize (Dev.new 60 96).saved X = d1 at *
      go_upto_region 5 with (go_at_call 11; (with_reducible refine HNEW.out.mono ?_); rintro e w1 ⟨D, rfl, hd1, hb1⟩; have HD1 := Lib.hid hd1; clear hd1 hb1)
      have HT5 := Lib.hid (HTN.out _ _ _ HD1.out)
      clear HNEW
      go_wp2_with (first
        | (refine wpList_load_row (o := ⟨some 34, _, _, _, _, _⟩) rfl 26 (.tmp 7) rfl P1 rfl 26 X.cells (0, 0) _ (HT5.out.p1) Try.underlying26 rfl (kx_sz _) ?_)
        | (go_at_call 7; have _t := HD1; (with_reducible refine (HOX.out _).mono ?_); rintro e w2 ⟨rfl, hb2⟩; have HD2 := Lib.hid (HD1.out.on hb2); clear _t HD1 hb2)
        | (go_at_call 15; (with_reducible refine (HS1.out _ _ HD2.out).mono ?_); rintro e w3 ⟨rfl, hd3⟩; have HD3 := Lib.hid hd3; clear hd3 HD2)
        | (go_at_call 8; (with_reducible refine (HAW.out _).mono ?_); rintro e w6 ⟨rfl, hb6⟩; have HD6 := Lib.hid (HD3.out.on hb6); clear hb6))
      go_ret
      exact ⟨rfl, HBW.out.trans (HD6.out.below.mono HBW.out.size)⟩
end

set_option maxRecDepth 100000 in
theorem superNewest_lifted (os : Os) (started : os.Started) (H : Type) (enc : TypeId × Value → H) :
    ReturnsInHanded {} Try.checked os 5 .any (Rows.superNewestSpec.pre6 enc Try.prog Try.f5 Rows.superNewestRow.domain false) (Rows.superNewestSpec.post enc Try.prog Try.f5 false true false false) :=
  law_lifted 5 Try.f5 Rows.superNewestSpec Try.func5 (by kernel_rfl) rfl rfl
    (fun ds h => by match ds, h with | [_, _, _], _ => rfl) (by kernel_rfl) os started
    (ChangeSpec.witness6 (enc := enc) (C := Try.checked) false ⟨#[], #[.int .u16 0, .int .u16 0, .agg #[.int .i64 0, .int .i64 0, .int .i64 0, .int .i64 0, .int .i64 0, .int .i64 0, .int .i64 0, .int .u64 0, .int .i64 0, .int .i64 0, .int .i64 0, .int .i64 0, .int .i64 0, .int .i64 0, .int .i64 0]], []⟩ 8 (by kernel_rfl) (by kernel_rfl) (by kernel_rfl) (by kernel_rfl))
    fun W args ds ps hval hA => by
      rw [Try.params5] at hA hval
      obtain ⟨v0, vs0, d0, ds0, p0, q0, hargs, rfl, rfl, h0, r0⟩ := trodAll_cons hA
      obtain ⟨v1, vs1, d1, ds1, p1, q1, rfl, rfl, rfl, h1, r1⟩ := trodAll_cons r0
      obtain ⟨v2, vs2, d2, ds2, p2, q2, rfl, rfl, rfl, h2, r2⟩ := trodAll_cons r1
      obtain ⟨rfl, rfl, rfl⟩ := trodAll_nil r2
      obtain rfl : args = #[v0, v1, v2] := by cases args; simp_all
      obtain ⟨b0, o0⟩ := hval 0 _ v0 rfl rfl
      obtain ⟨b1, o1⟩ := hval 1 _ v1 rfl rfl
      obtain ⟨b2, o2⟩ := hval 2 _ v2 rfl rfl
      obtain ⟨a0, rfl, rfl, rfl, w0⟩ := open_int Try.underlying51 o0 h0
      obtain ⟨x0, rfl⟩ := wf_u16 w0
      obtain ⟨a1, rfl, rfl, rfl, w1⟩ := open_int Try.underlying51 o1 h1
      obtain ⟨x1, rfl⟩ := wf_u16 w1
      obtain ⟨q2, rfl, hq2⟩ := open_head o2 h2
      exact superNewest_walk x0 x1 q2 W hq2

/-- The statement. -/
theorem superNewest_holds : Rows.SuperNewestSaid :=
  OpenClaim.holds_of_wide 5 Try.f5 rfl rfl rfl rfl rfl rfl rfl ⟨rfl, rfl, rfl, rfl, rfl⟩ rfl rfl rfl rfl rfl (by kernel_rfl) Try.func5 (by kernel_rfl)
    (of_decide_eq_true (by kernel_rfl)) (by unfold Func.isWrapper; first | (rw [if_pos (by decide +kernel)]; kernel_rfl) | (rw [if_neg (by decide +kernel)]; exact ⟨rfl, rfl⟩))
    (fun os started H enc _ => superNewest_lifted os started H enc)
#print axioms superNewest_holds

end Go.Proofs.Ythdnpomfjhehkaa

/-
  Proved: a document's head comes back from its bytes; of one that has none, an error is told.
  Conditions: none.
-/
import Derived.Test.YthdnpomfjhehkaaSup16
import Derived.Test.YthdnpomfjhehkaaQuietB
import Derived.Laws.StructEq
import Derived.BigRegionIn
namespace Go.Proofs.Ythdnpomfjhehkaa
open Go.ChangeShapes Go.WideShapes Go.ChangeAt Go.RowKit Go.Deep
attribute [-go_sem] Instr.build Instr.fill

theorem kx_sz (x : HeadP) : (Try.prog.info? 26).map (·.size) = some x.cells.size := by show _ = some 15; kernel_rfl
section
variable (n : Nat)
theorem int_in (a : Int) (W : World) : (Op.equalIn (n + 1) 3 (.int .i64 a) (.int .i64 a)).run Try.prog W = .ok true W := by
  rw [run_equalIn_int W n 3 .i64 _ a a Try.underlying3, beq_self_eq_true]
theorem u64_in (a : Int) (W : World) : (Op.equalIn (n + 1) 22 (.int .u64 a) (.int .u64 a)).run Try.prog W = .ok true W := by
  rw [run_equalIn_int W n 22 .u64 _ a a Try.underlying22, beq_self_eq_true]
set_option maxRecDepth 100000 in
theorem ref_in (a b : Int) (W : World) : (Op.equalIn (n + 2) 33 (.agg #[.int .i64 a, .int .i64 b]) (.agg #[.int .i64 a, .int .i64 b])).run Try.prog W = .ok true W := by
  rw [show n + 2 = (n + 1) + 1 from rfl, run_equalIn_struct _ _ _ _ _ (by kernel_rfl) (by kernel_rfl)]
  have h3 := fun (a : Int) (W : World) => int_in n a W
  simp [Program.fieldsOf, Try.underlying33, Op.eqFields, part, h3]
set_option maxRecDepth 100000 in
theorem plan_in (a0 a1 a2 a3 a4 a5 a6 a7 : Int) (W : World) : (Op.equalIn (n + 2) 31 (.agg #[.int .i64 a0, .int .i64 a1, .int .i64 a2, .int .i64 a3, .int .i64 a4, .int .i64 a5, .int .i64 a6, .int .u64 a7]) (.agg #[.int .i64 a0, .int .i64 a1, .int .i64 a2, .int .i64 a3, .int .i64 a4, .int .i64 a5, .int .i64 a6, .int .u64 a7])).run Try.prog W = .ok true W := by
  rw [show n + 2 = (n + 1) + 1 from rfl, run_equalIn_struct _ _ _ _ _ (by kernel_rfl) (by kernel_rfl)]
  have h3 := fun (a : Int) (W : World) => int_in n a W
  have h22 := fun (a : Int) (W : World) => u64_in n a W
  simp [Program.fieldsOf, Try.underlying31, Op.eqFields, part, h3, h22]
end
set_option maxRecDepth 100000 in
theorem head_eql (a0 a1 a2 a3 a4 a5 a6 a7 a8 a9 a10 a11 a12 a13 a14 : Int) (V : World) : (binOp .eql 35 (.agg #[.int .i64 a0, .int .i64 a1, .int .i64 a2, .int .i64 a3, .int .i64 a4, .int .i64 a5, .int .i64 a6, .int .u64 a7, .int .i64 a8, .int .i64 a9, .int .i64 a10, .int .i64 a11, .int .i64 a12, .int .i64 a13, .int .i64 a14]) (.agg #[.int .i64 a0, .int .i64 a1, .int .i64 a2, .int .i64 a3, .int .i64 a4, .int .i64 a5, .int .i64 a6, .int .u64 a7, .int .i64 a8, .int .i64 a9, .int .i64 a10, .int .i64 a11, .int .i64 a12, .int .i64 a13, .int .i64 a14])).run Try.prog V = .ok (.bool true) V := by
  rw [run_eql_struct, show (10000 : Nat) = 9999 + 1 from rfl, run_equalIn_struct _ _ _ _ _ (by kernel_rfl) (by kernel_rfl)]
  have h3 := fun (a : Int) (W : World) => int_in 9998 a W
  have hp := fun (a0 a1 a2 a3 a4 a5 a6 a7 : Int) (W : World) => plan_in 9997 a0 a1 a2 a3 a4 a5 a6 a7 W
  have hr := fun (a b : Int) (W : World) => ref_in 9997 a b W
  simp only [Nat.reduceAdd] at h3 hp hr
  simp [Program.fieldsOf, Try.underlying35, Op.eqFields, part, h3, hp, hr]
theorem head_guard (a0 a1 a2 a3 a4 a5 a6 a7 a8 a9 a10 a11 a12 a13 a14 : Int) (x y : Operand) (V : World) : (eqGuard .eql 35 x y (.agg #[.int .i64 a0, .int .i64 a1, .int .i64 a2, .int .i64 a3, .int .i64 a4, .int .i64 a5, .int .i64 a6, .int .u64 a7, .int .i64 a8, .int .i64 a9, .int .i64 a10, .int .i64 a11, .int .i64 a12, .int .i64 a13, .int .i64 a14]) (.agg #[.int .i64 a0, .int .i64 a1, .int .i64 a2, .int .i64 a3, .int .i64 a4, .int .i64 a5, .int .i64 a6, .int .u64 a7, .int .i64 a8, .int .i64 a9, .int .i64 a10, .int .i64 a11, .int .i64 a12, .int .i64 a13, .int .i64 a14])).run Try.prog V = .ok () V := run_eqGuard_agg _ _ _ _ _ _ _ (by kernel_rfl)

section
attribute [-go_sem] run_eql_struct run_eqGuard_agg
attribute [local go_sem] head_eql head_guard
set_option maxRecDepth 100000 in
set_option maxHeartbeats 4000000 in
theorem superBack_walk (x : HeadP) (w : World) (hq : x.I) : Calls Try.prog 3 #[.agg x.cells] w (Good w) := by
  have HOF := Lib.hid (of_any x)
  have HPK := Lib.hid (spack_any x hq.wf)
  have hlen : x.load.length ≤ 549755813888 := by unfold HeadP.load; split <;> simp [HeadP.bytes_len]
  have HUN : Hid (∀ (u : Value) (b : Nat) (W : World), W.ownsRow b 5 1 u x.load.length (cellsOf x.load) → ∃ a cap, u = .slice a x.load.length cap ∧ Calls Try.prog 9 #[.int .i64 x.gen, u] W (SUnp x.gen x.load W)) := fun u b W h => by
    have hb := BytesAt.of_owns h
    obtain ⟨a, cap, hu, _⟩ := id hb
    exact ⟨a, cap, hu, sunp_any x.gen u x.load W hb hlen⟩
  by_cases he : x.err = 0
  · have hl : x.load = x.bytes := by unfold HeadP.load; rw [if_pos he]
    obtain ⟨hg, ho⟩ := round_head x he hq.wf
    have e1 : headErr x.gen x.bytes = 0 := by unfold headErr; rw [if_pos hg]
    have HL : Hid (x.bytes.length = 63) := x.bytes_len
    rw [hl, he] at HPK
    unfold SUnp at HUN
    rw [hl, ho, e1, HL.out] at HUN
    unfold SPacked at HPK
    rw [HL.out] at HPK
    clear hl he hg ho e1 hlen
    go_enter Try.func3, Try.ntmps3
    go_upto_region 5 with (first
      | (refine wpList_load_row (o := ⟨some 8, _, _, _, _, _⟩) rfl 26 (.tmp 1) rfl w.heap.size rfl 26 x.cells (0, 0) _ (heap_alloc_new _ _) Try.underlying26 rfl (kx_sz _) ?_)
      | (go_at_call 7; (with_reducible refine (HOF.out _).mono ?_); rintro e w1 ⟨rfl, hb1⟩; have HB1 := Lib.hid (((Below.refl w.heap.size w).alloc (Nat.le_refl _) (.cells x.cells 26)).trans (hb1.mono (by simp))); have HX1 := Lib.hid ((hb1.block _ (blk_lt (heap_alloc_new w (.cells x.cells 26)))).trans (heap_alloc_new _ _)); clear hb1)
      | (go_at_call 6; (with_reducible refine (HPK.out _).mono ?_); rintro e w2 ⟨u, rfl, hu2, hb2⟩; obtain ⟨ua, uc, rfl, HU2⟩ := HUN.out u _ _ hu2; have HB2 := Lib.hid (HB1.out.trans (hb2.mono HB1.out.size)); have HX2 := Lib.hid ((hb2.block _ (blk_lt HX1.out)).trans HX1.out); have c8 : w2.cell? ⟨w.heap.size, 8, none⟩ = some (.int .i64 x.gen) := blk_cell HX2.out 8; clear hu2 hb2)
      | (go_at_call 9; (with_reducible refine HU2.mono ?_); rintro e w3 ⟨rfl, hb3⟩; have HB3 := Lib.hid (HB2.out.trans (hb3.mono HB2.out.size)); have HX3 := Lib.hid ((hb3.block _ (blk_lt HX2.out)).trans HX2.out); clear hb3 c8)
      | (refine wpList_store_row (o := ⟨none, _, _, _, _, _⟩) rfl 35 (.tmp 5) (.tmp 26) rfl w3.heap.size x.cells rfl rfl 35 HeadP.zero.cells (heap_alloc_new _ _) (kh_sz _) rfl ?_ ?_; exact kh_one _))
    have hY : ((w3.alloc (.cells HeadP.zero.cells 35)).setRow w3.heap.size x.cells).heap[w3.heap.size]? = some (.cells x.cells 35 (0, 0)) := setRow_heap _ _ _ _ _ _ (heap_alloc_new _ _)
    have hbl := blk_lt HX3.out
    have hX : ((w3.alloc (.cells HeadP.zero.cells 35)).setRow w3.heap.size x.cells).heap[w.heap.size]? = some (.cells x.cells 26 (0, 0)) := by
      rw [setRow_other (by omega), Below.heap_alloc _ _ _ (by omega)]
      exact HX3.out
    have hB : Below w.heap.size w ((w3.alloc (.cells HeadP.zero.cells 35)).setRow w3.heap.size x.cells) := below_setRow (HB3.out.alloc HB3.out.size _) (by have := HB3.out.size; omega) _
    change (Code.region _ _ _).wp _ _ _ ((w3.alloc (.cells HeadP.zero.cells 35)).setRow w3.heap.size x.cells)
    generalize (w3.alloc (.cells HeadP.zero.cells 35)).setRow w3.heap.size x.cells = V at hX hY hB ⊢
    have HBV := Lib.hid hB
    clear hB
    obtain ⟨ca0, ca1, ca2, ca3, ca4, ca5, ca6, ca7, ca8, ca9, ca10, ca11, ca12, ca13, ca14⟩ : ((∀ p : After V, p.v.cell? ⟨w.heap.size, 0, none⟩ = some (.int .i64 x.plan.sectors)) ∧ (∀ p : After V, p.v.cell? ⟨w.heap.size, 1, none⟩ = some (.int .i64 x.plan.size)) ∧ (∀ p : After V, p.v.cell? ⟨w.heap.size, 2, none⟩ = some (.int .i64 x.plan.regions)) ∧ (∀ p : After V, p.v.cell? ⟨w.heap.size, 3, none⟩ = some (.int .i64 x.plan.rs)) ∧ (∀ p : After V, p.v.cell? ⟨w.heap.size, 4, none⟩ = some (.int .i64 x.plan.log)) ∧ (∀ p : After V, p.v.cell? ⟨w.heap.size, 5, none⟩ = some (.int .i64 x.plan.depth)) ∧ (∀ p : After V, p.v.cell? ⟨w.heap.size, 6, none⟩ = some (.int .i64 x.plan.memory)) ∧ (∀ p : After V, p.v.cell? ⟨w.heap.size, 7, none⟩ = some (.int .u64 (U x.plan.seed))) ∧ (∀ p : After V, p.v.cell? ⟨w.heap.size, 8, none⟩ = some (.int .i64 x.gen)) ∧ (∀ p : After V, p.v.cell? ⟨w.heap.size, 9, none⟩ = some (.int .i64 x.page)) ∧ (∀ p : After V, p.v.cell? ⟨w.heap.size, 10, none⟩ = some (.int .i64 x.stamp)) ∧ (∀ p : After V, p.v.cell? ⟨w.heap.size, 11, none⟩ = some (.int .i64 x.depth)) ∧ (∀ p : After V, p.v.cell? ⟨w.heap.size, 12, none⟩ = some (.int .i64 x.log)) ∧ (∀ p : After V, p.v.cell? ⟨w.heap.size, 13, none⟩ = some (.int .i64 x.region)) ∧ (∀ p : After V, p.v.cell? ⟨w.heap.size, 14, none⟩ = some (.int .i64 x.time))) := ⟨after_cell (blk_cell hX 0), after_cell (blk_cell hX 1), after_cell (blk_cell hX 2), after_cell (blk_cell hX 3), after_cell (blk_cell hX 4), after_cell (blk_cell hX 5), after_cell (blk_cell hX 6), after_cell (blk_cell hX 7), after_cell (blk_cell hX 8), after_cell (blk_cell hX 9), after_cell (blk_cell hX 10), after_cell (blk_cell hX 11), after_cell (blk_cell hX 12), after_cell (blk_cell hX 13), after_cell (blk_cell hX 14)⟩
    obtain ⟨cb0, cb1, cb2, cb3, cb4, cb5, cb6, cb7, cb8, cb9, cb10, cb11, cb12, cb13, cb14⟩ : ((∀ p : After V, p.v.cell? ⟨w3.heap.size, 0, none⟩ = some (.int .i64 x.plan.sectors)) ∧ (∀ p : After V, p.v.cell? ⟨w3.heap.size, 1, none⟩ = some (.int .i64 x.plan.size)) ∧ (∀ p : After V, p.v.cell? ⟨w3.heap.size, 2, none⟩ = some (.int .i64 x.plan.regions)) ∧ (∀ p : After V, p.v.cell? ⟨w3.heap.size, 3, none⟩ = some (.int .i64 x.plan.rs)) ∧ (∀ p : After V, p.v.cell? ⟨w3.heap.size, 4, none⟩ = some (.int .i64 x.plan.log)) ∧ (∀ p : After V, p.v.cell? ⟨w3.heap.size, 5, none⟩ = some (.int .i64 x.plan.depth)) ∧ (∀ p : After V, p.v.cell? ⟨w3.heap.size, 6, none⟩ = some (.int .i64 x.plan.memory)) ∧ (∀ p : After V, p.v.cell? ⟨w3.heap.size, 7, none⟩ = some (.int .u64 (U x.plan.seed))) ∧ (∀ p : After V, p.v.cell? ⟨w3.heap.size, 8, none⟩ = some (.int .i64 x.gen)) ∧ (∀ p : After V, p.v.cell? ⟨w3.heap.size, 9, none⟩ = some (.int .i64 x.page)) ∧ (∀ p : After V, p.v.cell? ⟨w3.heap.size, 10, none⟩ = some (.int .i64 x.stamp)) ∧ (∀ p : After V, p.v.cell? ⟨w3.heap.size, 11, none⟩ = some (.int .i64 x.depth)) ∧ (∀ p : After V, p.v.cell? ⟨w3.heap.size, 12, none⟩ = some (.int .i64 x.log)) ∧ (∀ p : After V, p.v.cell? ⟨w3.heap.size, 13, none⟩ = some (.int .i64 x.region)) ∧ (∀ p : After V, p.v.cell? ⟨w3.heap.size, 14, none⟩ = some (.int .i64 x.time))) := ⟨after_cell (blk_cell hY 0), after_cell (blk_cell hY 1), after_cell (blk_cell hY 2), after_cell (blk_cell hY 3), after_cell (blk_cell hY 4), after_cell (blk_cell hY 5), after_cell (blk_cell hY 6), after_cell (blk_cell hY 7), after_cell (blk_cell hY 8), after_cell (blk_cell hY 9), after_cell (blk_cell hY 10), after_cell (blk_cell hY 11), after_cell (blk_cell hY 12), after_cell (blk_cell hY 13), after_cell (blk_cell hY 14)⟩
    have HC : Hid (x.cells = #[.int .i64 x.plan.sectors, .int .i64 x.plan.size, .int .i64 x.plan.regions, .int .i64 x.plan.rs, .int .i64 x.plan.log, .int .i64 x.plan.depth, .int .i64 x.plan.memory, .int .u64 (U x.plan.seed), .int .i64 x.gen, .int .i64 x.page, .int .i64 x.stamp, .int .i64 x.depth, .int .i64 x.log, .int .i64 x.region, .int .i64 x.time]) := rfl
    rw [HC.out] at HOF
    have HAW := Lib.hid awake10
    clear hX hY HC HPK HUN HB1 HX1 HB2 HX2 HB3 HX3 HU2
    refine wp_region_after (by kernel_rfl) (by kernel_rfl) ?_
    repeat (go_big_quiet_step ((first | (go_at_call 7; with_reducible exact after_call (HOF.out _)) | (go_at_call 8; with_reducible exact after_call (HAW.out _)))))
    refine wpQuiet_nil ?_
    rintro W9 ⟨⟨_, hW9⟩, rfl⟩
    have HW9 := Lib.hid (HBV.out.trans (hW9.mono HBV.out.size))
    clear hW9 ca0 ca1 ca2 ca3 ca4 ca5 ca6 ca7 ca8 ca9 ca10 ca11 ca12 ca13 ca14 cb0 cb1 cb2 cb3 cb4 cb5 cb6 cb7 cb8 cb9 cb10 cb11 cb12 cb13 cb14
    go_wp2
    go_ret
    exact ⟨rfl, HW9.out⟩
  · have hl : x.load = [] := by unfold HeadP.load; rw [if_neg he]
    have e0 : (x.err == (0 : Int)) = false := by simpa using he
    rw [hl] at HPK HUN
    unfold SPacked at HPK
    clear hl he hlen
    have HAW := Lib.hid awake10
    generalize x.err = er at HPK e0
    go_enter Try.func3, Try.ntmps3
    go_wp2_with (first
      | (refine wpList_load_row (o := ⟨some 8, _, _, _, _, _⟩) rfl 26 (.tmp 1) rfl w.heap.size rfl 26 x.cells (0, 0) _ (heap_alloc_new _ _) Try.underlying26 rfl (kx_sz _) ?_)
      | (go_at_call 7; (with_reducible refine (HOF.out _).mono ?_); rintro e w1 ⟨rfl, hb1⟩; have HB1 := Lib.hid (((Below.refl w.heap.size w).alloc (Nat.le_refl _) (.cells x.cells 26)).trans (hb1.mono (by simp))); clear hb1)
      | (go_at_call 6; (with_reducible refine (HPK.out _).mono ?_); rintro e w2 ⟨u, rfl, hu2, hb2⟩; obtain ⟨ua, uc, rfl, HU2⟩ := HUN.out u _ _ hu2; have HB2 := Lib.hid (HB1.out.trans (hb2.mono HB1.out.size)); clear hu2 hb2 HU2)
      | (go_at_call 8; (with_reducible refine (HAW.out _).mono ?_); rintro e w3 ⟨rfl, hb3⟩; have HB3 := Lib.hid (HB2.out.trans (hb3.mono HB2.out.size)); clear hb3))
    all_goals go_ret
    all_goals exact ⟨rfl, HB3.out⟩
end

set_option maxRecDepth 100000 in
theorem superBack_lifted (os : Os) (started : os.Started) (H : Type) (enc : TypeId × Value → H) :
    ReturnsInHanded {} Try.checked os 3 .any (Rows.superBackSpec.pre6 enc Try.prog Try.f3 Rows.superBackRow.domain false) (Rows.superBackSpec.post enc Try.prog Try.f3 false true false false) :=
  law_lifted 3 Try.f3 Rows.superBackSpec Try.func3 (by kernel_rfl) rfl rfl
    (fun ds h => by match ds, h with | [_], _ => rfl) (by kernel_rfl) os started
    (ChangeSpec.witness6 (enc := enc) (C := Try.checked) false ⟨#[], #[.agg #[.int .i64 0, .int .i64 0, .int .i64 0, .int .i64 0, .int .i64 0, .int .i64 0, .int .i64 0, .int .u64 0, .int .i64 0, .int .i64 0, .int .i64 0, .int .i64 0, .int .i64 0, .int .i64 0, .int .i64 0]], []⟩ 8 (by kernel_rfl) (by kernel_rfl) (by kernel_rfl) (by kernel_rfl))
    fun W args ds ps hval hA => by
      rw [Try.params3] at hA hval
      obtain ⟨v0, vs0, d0, ds0, p0, q0, hargs, rfl, rfl, h0, r0⟩ := trodAll_cons hA
      obtain ⟨rfl, rfl, rfl⟩ := trodAll_nil r0
      obtain rfl : args = #[v0] := by cases args; simp_all
      obtain ⟨b0, o0⟩ := hval 0 _ v0 rfl rfl
      obtain ⟨q0, rfl, hq0⟩ := open_head o0 h0
      exact superBack_walk q0 W hq0

/-- The statement. -/
theorem superBack_holds : Rows.SuperBackSaid :=
  OpenClaim.holds_of_wide 3 Try.f3 rfl rfl rfl rfl rfl rfl rfl ⟨rfl, rfl, rfl, rfl, rfl⟩ rfl rfl rfl rfl rfl (by kernel_rfl) Try.func3 (by kernel_rfl)
    (of_decide_eq_true (by kernel_rfl)) (by unfold Func.isWrapper; first | (rw [if_pos (by decide +kernel)]; kernel_rfl) | (rw [if_neg (by decide +kernel)]; exact ⟨rfl, rfl⟩))
    (fun os started H enc _ => superBack_lifted os started H enc)
#print axioms superBack_holds

end Go.Proofs.Ythdnpomfjhehkaa

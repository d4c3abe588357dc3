/-
  Proved: a plan that has a layout comes back from its bytes. Whatever plan comes in, the law PlanBack answers true and the argument reads as it did.
  Conditions: none.
-/
import Derived.Test.YtcaahpnpddhiiaaPlanUnpack
import Derived.Laws.StructEq
import Derived.BigRegionIn
import Derived.Deep.RegionHeld3
namespace Go.Proofs.Ytcaahpnpddhiiaa
open Go.ChangeShapes Go.WideShapes Go.ChangeAt Go.RowKit

theorem numOf_bytes (p : PlanP) (k : Nat) (hk : k < 8) : numOf p.bytes k = leOf (p.parts[k]?.getD []) := by
  have h8 : p.parts.length = 8 := rfl
  have e : p.bytes = p.row k ++ (p.parts[k]?.getD [] ++ (p.parts.drop (k + 1)).flatten) := by
    unfold PlanP.bytes PlanP.row
    rw [List.getElem?_eq_getElem (by omega), Option.getD_some, ← List.flatten_cons, ← List.drop_eq_getElem_cons (by omega), ← List.flatten_append, List.take_append_drop]
  have h1 := row_len p k (by omega)
  have h2 : (p.parts[k]?.getD []).length = wid k := by
    rcases (by omega : k = 0 ∨ k = 1 ∨ k = 2 ∨ k = 3 ∨ k = 4 ∨ k = 5 ∨ k = 6 ∨ k = 7) with rfl | rfl | rfl | rfl | rfl | rfl | rfl | rfl <;> simp [PlanP.parts, leB_len, wid]
  unfold numOf
  rw [e, ← h1, List.drop_left, ← h2, List.take_left]
theorem leOf_back (k : Nat) (hk : k ≤ 8) (x : BitVec 64) (h : x.toNat < 256 ^ k) : leOf (leB k x) = x := by
  apply BitVec.eq_of_toNat_eq
  rw [leOf_toNat _ (by rw [leB_len]; exact hk), leNat_leB, Nat.mod_eq_of_lt h]
theorem int_back (k : Nat) (hk : k ≤ 8) (n : Int) (h0 : 0 ≤ n) (h : n < 65536) (hp : 65536 ≤ 256 ^ k) : wrap64 (U (leOf (leB k (BitVec.ofInt 64 n)))) = n := by
  obtain ⟨m, rfl⟩ : ∃ m : Nat, n = m := ⟨n.toNat, by omega⟩
  have e : (BitVec.ofInt 64 (m : Int)).toNat = m := by
    rw [BitVec.ofInt_natCast, BitVec.toNat_ofNat]
    exact Nat.mod_eq_of_lt (by omega)
  have hlt : m < 256 ^ k := Nat.lt_of_lt_of_le (by omega) hp
  rw [leOf_back k hk _ (by rw [e]; exact hlt)]
  unfold U
  rw [e]
  exact IntWalk.wrap64_in _ ⟨by omega, by omega⟩
theorem bytes_back (p : PlanP) (h : p.Alone) : PlanP.ofBytes p.bytes = p := by
  have hs := h.sectors; have hz := h.size; have hr := h.regions; have hrs := h.rs; have hl := h.log; have hd := h.depth; have hm := h.memory
  unfold PlanP.ofBytes numInt
  rw [numOf_bytes p 0 (by decide), numOf_bytes p 1 (by decide), numOf_bytes p 2 (by decide), numOf_bytes p 3 (by decide), numOf_bytes p 4 (by decide), numOf_bytes p 5 (by decide), numOf_bytes p 6 (by decide), numOf_bytes p 7 (by decide)]
  show PlanP.mk (wrap64 (U (leOf (leB 4 (BitVec.ofInt 64 p.sectors))))) (wrap64 (U (leOf (leB 4 (BitVec.ofInt 64 p.size))))) (wrap64 (U (leOf (leB 2 (BitVec.ofInt 64 p.regions))))) (wrap64 (U (leOf (leB 2 (BitVec.ofInt 64 p.rs))))) (wrap64 (U (leOf (leB 2 (BitVec.ofInt 64 p.log))))) (wrap64 (U (leOf (leB 2 (BitVec.ofInt 64 p.depth))))) (wrap64 (U (leOf (leB 2 (BitVec.ofInt 64 p.memory))))) (leOf (leB 8 p.seed)) = p
  rw [int_back 4 (by decide) _ (by omega) (by omega) (by decide), int_back 4 (by decide) _ (by omega) (by omega) (by decide), int_back 2 (by decide) _ (by omega) (by omega) (by decide), int_back 2 (by decide) _ (by omega) (by omega) (by decide), int_back 2 (by decide) _ (by omega) (by omega) (by decide), int_back 2 (by decide) _ (by omega) (by omega) (by decide), int_back 2 (by decide) _ (by omega) (by omega) (by decide), leOf_back 8 (by decide) _ (by have := p.seed.isLt; omega)]

theorem bytes_len (p : PlanP) : p.bytes.length = 26 := row_len p 8 (by decide)
/-- Behind the call whose result is laid in a block of its own: all else is as it was. -/
theorem round_row {W w1 : World} (z cs : Array Value) (T : TypeId) {B : Nat} {bs : Array Value} {t : TypeId} (hB : W.heap[B]? = some (.cells bs t (0, 0))) (h : Below W.heap.size W w1) :
    ((w1.alloc (.cells z T)).setRow w1.heap.size cs).heap[B]? = some (.cells bs t (0, 0)) ∧ ((w1.alloc (.cells z T)).setRow w1.heap.size cs).heap[w1.heap.size]? = some (.cells cs T (0, 0)) ∧
      Below W.heap.size W ((w1.alloc (.cells z T)).setRow w1.heap.size cs) ∧ W.heap.size ≤ w1.heap.size ∧ B < w1.heap.size := by
  have l1 := h.size
  have lB := blk_lt hB
  refine ⟨?_, setRow_heap _ _ _ _ _ _ (heap_alloc_new _ _), ?_, by omega, by omega⟩
  · rw [setRow_other (by omega), Below.heap_alloc _ _ _ (by omega), h.block _ (by omega)]
    exact hB
  · exact below_setRow (h.alloc (by omega) _) (by omega) _

set_option maxRecDepth 100000 in
theorem plan_eql (a0 a1 a2 a3 a4 a5 a6 a7 : Int) (V : World) : (binOp .eql 30 (.agg #[.int .i64 a0, .int .i64 a1, .int .i64 a2, .int .i64 a3, .int .i64 a4, .int .i64 a5, .int .i64 a6, .int .u64 a7]) (.agg #[.int .i64 a0, .int .i64 a1, .int .i64 a2, .int .i64 a3, .int .i64 a4, .int .i64 a5, .int .i64 a6, .int .u64 a7])).run Try.prog V = .ok (.bool true) V := by
  rw [run_eql_struct, show (10000 : Nat) = 9999 + 1 from rfl, run_equalIn_struct _ _ _ _ _ (by kernel_rfl) (by kernel_rfl)]
  have h3 : ∀ (a : Int) (W : World), (Op.equalIn 9999 3 (.int .i64 a) (.int .i64 a)).run Try.prog W = .ok true W := fun a W => by
    rw [show (9999 : Nat) = 9998 + 1 from rfl, run_equalIn_int W 9998 3 .i64 _ a a Try.underlying3, beq_self_eq_true]
  have h22 : ∀ (a : Int) (W : World), (Op.equalIn 9999 22 (.int .u64 a) (.int .u64 a)).run Try.prog W = .ok true W := fun a W => by
    rw [show (9999 : Nat) = 9998 + 1 from rfl, run_equalIn_int W 9998 22 .u64 _ a a Try.underlying22, beq_self_eq_true]
  simp [Program.fieldsOf, Try.underlying30, Op.eqFields, part, h3, h22]
set_option maxRecDepth 100000 in
theorem plan_guard (a0 a1 a2 a3 a4 a5 a6 a7 : Int) (x y : Operand) (V : World) : (eqGuard .eql 30 x y (.agg #[.int .i64 a0, .int .i64 a1, .int .i64 a2, .int .i64 a3, .int .i64 a4, .int .i64 a5, .int .i64 a6, .int .u64 a7]) (.agg #[.int .i64 a0, .int .i64 a1, .int .i64 a2, .int .i64 a3, .int .i64 a4, .int .i64 a5, .int .i64 a6, .int .u64 a7])).run Try.prog V = .ok () V := run_eqGuard_agg _ _ _ _ _ _ _ (by kernel_rfl)
section
attribute [-go_sem] run_eql_struct run_eqGuard_agg
attribute [local go_sem] plan_eql plan_guard
set_option maxRecDepth 100000 in
set_option maxHeartbeats 4000000 in
theorem planBack_walk (p : PlanP) (w : World) : Calls Try.prog 6 #[.agg p.cells] w (Good w) := by
  have HF := Lib.hid (fit_any p)
  have HPK := Lib.hid (pack_any p)
  have HUN := Lib.hid (fun (u : Value) (W : World) (h : W.ownsRow W.heap.size 5 1 u p.bytes.length (cellsOf p.bytes)) => h)
  clear HUN
  have HUN : Hid (∀ (u : Value) (b : Nat) (W : World), W.ownsRow b 5 1 u p.bytes.length (cellsOf p.bytes) → Calls Try.prog 14 #[u] W fun e w' => e = .returned (.tuple #[.agg (PlanP.ofBytes p.bytes).unp.cells, .int .i64 (PlanP.ofBytes p.bytes).err]) ∧ Below W.heap.size W w') := fun u b W h => unpack_any u p.bytes (bytes_len p) W (BytesAt.of_owns h)
  obtain ⟨q, hq⟩ : ∃ q, (PlanP.ofBytes p.bytes).unp = q := ⟨_, rfl⟩
  obtain ⟨n, hn⟩ : ∃ n, (PlanP.ofBytes p.bytes).err = n := ⟨_, rfl⟩
  have HQ : Hid (p.fits = true → q = p ∧ n = 0) := by
    intro hf
    have hb := bytes_back p ((fits_iff p).1 hf).1
    rw [hb] at hq hn
    rw [← hq, ← hn]
    refine ⟨?_, (fit_yes hf).2⟩
    unfold PlanP.unp
    rw [hf]; rfl
  rw [hq, hn] at HUN
  clear hq hn
  go_enter Try.func6, Try.ntmps6
  go_upto_region 2 with (first
    | (refine wpList_load_row (o := ⟨some 8, _, _, _, _, _⟩) rfl 24 (.tmp 1) rfl w.heap.size rfl 24 p.cells (0, 0) _ (heap_alloc_new _ _) Try.underlying24 rfl (kr_sz _) ?_)
    | (go_at_call 9; (with_reducible refine (of06 p _).mono ?_); rintro e w1 ⟨rfl, hb1⟩; have HB1 := Lib.hid hb1; clear hb1)
    | (go_at_call 8; (with_reducible refine (HF.out _).mono ?_); rintro e w2 ⟨rfl, hb2⟩; have HB2 := Lib.hid hb2; clear hb2)
    | (refine wpList_store_row (o := ⟨none, _, _, _, _, _⟩) rfl 26 (.tmp 3) (.tmp 11) rfl w2.heap.size p.fit.cells rfl rfl 26 LayP.zero.cells (heap_alloc_new _ _) (kl_sz _) rfl ?_ ?_; exact kl_one _))
  have hr := round_lay p.fit (heap_alloc_new w (.cells p.cells 24)) HB1.out HB2.out
  change (Code.region _ _ _).wp _ _ _ ((w2.alloc (.cells LayP.zero.cells 26)).setRow w2.heap.size p.fit.cells)
  generalize (w2.alloc (.cells LayP.zero.cells 26)).setRow w2.heap.size p.fit.cells = V at hr ⊢
  obtain ⟨hp1, _, hb3, _, _⟩ := hr
  have HP1 := Lib.hid hp1
  have HB3 : Hid (Below w.heap.size w V) := ((Below.refl w.heap.size w).alloc (Nat.le_refl _) _).trans (hb3.mono (by simp))
  clear hp1 hb3 HB1 HB2 HF
  go_upto_region 3 with (first
    | (refine wpList_load_row (o := ⟨some 14, _, _, _, _, _⟩) rfl 24 (.tmp 1) rfl w.heap.size rfl 24 p.cells (0, 0) _ HP1.out Try.underlying24 rfl (kr_sz _) ?_)
    | (go_at_call 9; (with_reducible refine (of06 p _).mono ?_); rintro e w3 ⟨rfl, hb3⟩; have HC3 := Lib.hid hb3; clear hb3)
    | (go_at_call 11; (with_reducible refine (HPK.out _).mono ?_); rintro e w4 ⟨u, rfl, hu4, hb4⟩; have HU4 := Lib.hid (HUN.out u _ _ hu4); have HC4 := Lib.hid hb4; clear hu4 hb4)
    | (go_at_call 14; (with_reducible refine HU4.out.mono ?_); rintro e w5 ⟨rfl, hb5⟩; have HC5 := Lib.hid hb5; clear hb5)
    | (refine wpList_store_row (o := ⟨none, _, _, _, _, _⟩) rfl 30 (.tmp 5) (.tmp 18) rfl w5.heap.size q.cells rfl rfl 30 PlanP.zero.cells (heap_alloc_new _ _) (kp_sz _) rfl ?_ ?_; exact kp_one _))
  have hr := round_row PlanP.zero.cells q.cells 30 HP1.out ((HC3.out.trans (HC4.out.mono HC3.out.size)).trans (HC5.out.mono (Nat.le_trans HC3.out.size HC4.out.size)))
  change (Code.region _ _ _).wp _ _ _ ((w5.alloc (.cells PlanP.zero.cells 30)).setRow w5.heap.size q.cells)
  generalize (w5.alloc (.cells PlanP.zero.cells 30)).setRow w5.heap.size q.cells = V2 at hr ⊢
  obtain ⟨hp2, hq2, hb6, _, _⟩ := hr
  have HP2 := Lib.hid hp2
  have HQ2 := Lib.hid hq2
  have HB6 : Hid (Below w.heap.size w V2) := HB3.out.trans (hb6.mono HB3.out.size)
  clear hp2 hq2 hb6 HC3 HC4 HC5 HU4 HPK HUN HP1 HB3
  cases hfit : p.fits with
  | false =>
    obtain ⟨_, e2⟩ := fit_no hfit
    rw [e2]
    clear hfit e2 HQ
    go_wp2_with (go_at_call 13; (with_reducible refine (awake06 _).mono ?_); rintro e w7 ⟨rfl, hb7⟩)
    go_ret
    exact ⟨rfl, HB6.out.trans (hb7.mono HB6.out.size)⟩
  | true =>
    obtain ⟨_, e2⟩ := fit_yes hfit
    obtain ⟨rfl, rfl⟩ := HQ.out hfit
    rw [e2]
    clear hfit e2 HQ
    go_upto_region 5 with (fail)
    have HS : Hid (∀ W, Below V2.heap.size V2 W → W.cell? ⟨w5.heap.size, 0, none⟩ = some (.int .i64 q.sectors) ∧ W.cell? ⟨w5.heap.size, 1, none⟩ = some (.int .i64 q.size) ∧ W.cell? ⟨w5.heap.size, 2, none⟩ = some (.int .i64 q.regions) ∧ W.cell? ⟨w5.heap.size, 3, none⟩ = some (.int .i64 q.rs) ∧ W.cell? ⟨w5.heap.size, 4, none⟩ = some (.int .i64 q.log) ∧ W.cell? ⟨w5.heap.size, 5, none⟩ = some (.int .i64 q.depth) ∧ W.cell? ⟨w5.heap.size, 6, none⟩ = some (.int .i64 q.memory) ∧ W.cell? ⟨w5.heap.size, 7, none⟩ = some (.int .u64 (U q.seed)) ∧ W.cell? ⟨w.heap.size, 0, none⟩ = some (.int .i64 q.sectors) ∧ W.cell? ⟨w.heap.size, 1, none⟩ = some (.int .i64 q.size) ∧ W.cell? ⟨w.heap.size, 2, none⟩ = some (.int .i64 q.regions) ∧ W.cell? ⟨w.heap.size, 3, none⟩ = some (.int .i64 q.rs) ∧ W.cell? ⟨w.heap.size, 4, none⟩ = some (.int .i64 q.log) ∧ W.cell? ⟨w.heap.size, 5, none⟩ = some (.int .i64 q.depth) ∧ W.cell? ⟨w.heap.size, 6, none⟩ = some (.int .i64 q.memory) ∧ W.cell? ⟨w.heap.size, 7, none⟩ = some (.int .u64 (U q.seed))) := fun W hW => by
      have h1 := (hW.block _ (blk_lt HQ2.out)).trans HQ2.out
      have h2 := (hW.block _ (blk_lt HP2.out)).trans HP2.out
      exact ⟨blk_cell (h1) 0, blk_cell (h1) 1, blk_cell (h1) 2, blk_cell (h1) 3, blk_cell (h1) 4, blk_cell (h1) 5, blk_cell (h1) 6, blk_cell (h1) 7, blk_cell (h2) 0, blk_cell (h2) 1, blk_cell (h2) 2, blk_cell (h2) 3, blk_cell (h2) 4, blk_cell (h2) 5, blk_cell (h2) 6, blk_cell (h2) 7⟩
    have HOF := Lib.hid (of06 q)
    have HC : Hid (q.cells = #[.int .i64 q.sectors, .int .i64 q.size, .int .i64 q.regions, .int .i64 q.rs, .int .i64 q.log, .int .i64 q.depth, .int .i64 q.memory, .int .u64 (U q.seed)]) := rfl
    rw [HC.out] at HOF
    have hBc := Lib.hid ((Below.refl V2.heap.size V2).drew)
    clear HP2 HQ2 HC
    go_region_held3 (fun W => W.cell? ⟨w5.heap.size, 0, none⟩ = some (.int .i64 q.sectors) ∧ W.cell? ⟨w5.heap.size, 1, none⟩ = some (.int .i64 q.size) ∧ W.cell? ⟨w5.heap.size, 2, none⟩ = some (.int .i64 q.regions) ∧ W.cell? ⟨w5.heap.size, 3, none⟩ = some (.int .i64 q.rs) ∧ W.cell? ⟨w5.heap.size, 4, none⟩ = some (.int .i64 q.log) ∧ W.cell? ⟨w5.heap.size, 5, none⟩ = some (.int .i64 q.depth) ∧ W.cell? ⟨w5.heap.size, 6, none⟩ = some (.int .i64 q.memory) ∧ W.cell? ⟨w5.heap.size, 7, none⟩ = some (.int .u64 (U q.seed)) ∧ W.cell? ⟨w.heap.size, 0, none⟩ = some (.int .i64 q.sectors) ∧ W.cell? ⟨w.heap.size, 1, none⟩ = some (.int .i64 q.size) ∧ W.cell? ⟨w.heap.size, 2, none⟩ = some (.int .i64 q.regions) ∧ W.cell? ⟨w.heap.size, 3, none⟩ = some (.int .i64 q.rs) ∧ W.cell? ⟨w.heap.size, 4, none⟩ = some (.int .i64 q.log) ∧ W.cell? ⟨w.heap.size, 5, none⟩ = some (.int .i64 q.depth) ∧ W.cell? ⟨w.heap.size, 6, none⟩ = some (.int .i64 q.memory) ∧ W.cell? ⟨w.heap.size, 7, none⟩ = some (.int .u64 (U q.seed)))
      (exact HS.out _ hBc.out)
      (first
        | (go_at_call 9; (with_reducible refine (HOF.out _).mono ?_); rintro e w7 ⟨rfl, hb7⟩; have hBn := hBc.out.trans (hb7.mono hBc.out.size); clear hBc hb7; have hBc := Lib.hid hBn; clear hBn)
        | (go_at_call 13; (with_reducible refine (awake06 _).mono ?_); rintro e w8 ⟨rfl, hb8⟩; have hBn := hBc.out.trans (hb8.mono hBc.out.size); clear hBc hb8; have hBc := Lib.hid hBn; clear hBn))
    all_goals go_wp2
    all_goals go_ret
    all_goals exact ⟨rfl, HB6.out.trans (hBc.out.mono HB6.out.size)⟩
end

set_option maxRecDepth 100000 in
theorem planBack_lifted (os : Os) (started : os.Started) (H : Type) (enc : TypeId × Value → H) :
    ReturnsInHanded {} Try.checked os 6 .any (Rows.planBackSpec.pre6 enc Try.prog Try.f6 Rows.planBackRow.domain false) (Rows.planBackSpec.post enc Try.prog Try.f6 false true false false) :=
  law_lifted 6 Try.f6 Rows.planBackSpec Try.func6 (by kernel_rfl) rfl rfl
    (fun ds h => by match ds, h with | [_], _ => rfl) (by kernel_rfl) os started
    (ChangeSpec.witness6 (enc := enc) (C := Try.checked) false ⟨#[], #[.agg #[.int .i64 0, .int .i64 0, .int .i64 0, .int .i64 0, .int .i64 0, .int .i64 0, .int .i64 0, .int .u64 0]], []⟩ 8 (by kernel_rfl) (by kernel_rfl) (by kernel_rfl) (by kernel_rfl))
    fun W args ds ps hval hA => by
      rw [Try.params6] at hA hval
      obtain ⟨v0, vs0, d0, ds0, p0, q0, hargs, rfl, rfl, h0, r0⟩ := trodAll_cons hA
      obtain ⟨rfl, rfl, rfl⟩ := trodAll_nil r0
      obtain rfl : args = #[v0] := by cases args; simp_all
      obtain ⟨b0, o0⟩ := hval 0 _ v0 rfl rfl
      obtain ⟨q0, rfl, hq0⟩ := open_plan o0 h0
      exact planBack_walk q0 W

/-- The statement. -/
theorem planBack_holds : Rows.PlanBackSaid :=
  OpenClaim.holds_of_wide 6 Try.f6 rfl rfl rfl rfl rfl rfl rfl ⟨rfl, rfl, rfl, rfl, rfl⟩ rfl rfl rfl rfl rfl (by kernel_rfl) Try.func6 (by kernel_rfl)
    (of_decide_eq_true (by kernel_rfl)) (by unfold Func.isWrapper; first | (rw [if_pos (by decide +kernel)]; kernel_rfl) | (rw [if_neg (by decide +kernel)]; exact ⟨rfl, rfl⟩))
    (fun os started H enc _ => planBack_lifted os started H enc)
#print axioms planBack_holds

end Go.Proofs.Ytcaahpnpddhiiaa

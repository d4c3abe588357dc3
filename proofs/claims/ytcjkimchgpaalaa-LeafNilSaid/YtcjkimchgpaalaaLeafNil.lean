/-
  LeafNil: of no device an error is told.
  Conditions: none.
-/
import Derived.Test.YtcjkimchgpaalaaLeafLaw
import Derived.Test.YtcjkimchgpaalaaCrcAddL
namespace Go.Proofs.Ytcjkimchgpaalaa
open Go.ChangeShapes Go.WideShapes Go.ChangeAt Go.RowKit Go.Shelf
attribute [local go_sem] Oper.semAt_some

theorem asked_nil5 (n : Int) (w : World) : Calls Try.prog 38 #[.pointer none, .int .i64 n] w fun e w' => e = .returned (.int .i64 1) ∧ w = w' := by
  have hr : ∀ W, Calls Try.prog 58 #[.pointer none] W fun e w' => e = .returned (.int .i64 1) ∧ W = w' := fun W => by
    go_enter Try.func58, Try.ntmps58
    go_wp2
    go_ret
    exact ⟨rfl, rfl⟩
  go_enter Try.func38, Try.ntmps38
  go_wp2_with (go_at_call 58; (with_reducible refine (hr _).mono ?_); rintro e w' ⟨rfl, rfl⟩)
  go_ret
  exact ⟨rfl, rfl⟩
theorem read_nil5 (n : Int) (w : World) : Calls Try.prog 23 #[.pointer none, .int .i64 n] w fun e w' => e = .returned (.tuple #[.slice none 0 0, .int .i64 1]) ∧ w = w' := by
  go_enter Try.func23, Try.ntmps23
  go_wp2_with ((go_at_call 38; (with_reducible refine (asked_nil5 n _).mono ?_); rintro e w' ⟨rfl, rfl⟩))
  go_ret2
  exact ⟨rfl, rfl⟩
theorem sectors_nil5 (w : World) : Calls Try.prog 61 #[.pointer none] w fun e w' => e = .returned (.int .i64 0) ∧ w = w' := by
  go_enter Try.func61, Try.ntmps61
  go_wp2
  go_ret
  exact ⟨rfl, rfl⟩

set_option maxHeartbeats 400000 in
theorem sectorsOf_in (F : Fence) (n : Nat) (h4 : F.fn 46) (hro : F.round = none) (w : World) :
    CallsIn F n Try.prog 46 #[.pointer none] w fun e w' => e = .returned (.func (.func 60) #[] #[.pointer (some ⟨w.heap.size, 0, none⟩)]) ∧ w.alloc (.cells #[.pointer none] 46) = w' := by
  refine callsIn_of_wp Try.func46 rfl h4 ?_ hro
  simp only [Try.ntmps46, List.size_toArray, List.length_cons, List.length_nil, Nat.reduceAdd, Nat.reduceSub, Array.replicate_succ, Array.replicate_zero, List.push_toArray, List.append_toArray, List.nil_append, List.cons_append]
  gi_wp2
  go_ret
  exact ⟨rfl, rfl⟩

set_option maxRecDepth 100000 in
set_option maxHeartbeats 1000000 in
theorem sectorsOf1_in (F : Fence) (n : Nat) (h6 : F.fn 60) (hro : F.round = none) (hn : 1 ≤ n) (hs : F.fn 61) (hsec : ∀ W : World, CallsIn F (n - 1) Try.prog 61 #[.pointer none] W fun e w' => e = .returned (.int .i64 0) ∧ W = w') (l Bp : Nat) (J Jx : List Unit → World → Prop)
    (W : World) (hBp : W.cell? ⟨Bp, 0, none⟩ = some (.pointer none)) (h0 : J [] W) :
    CallsIn F n Try.prog 60 #[.func (.yield l) #[] #[], .pointer (some ⟨Bp, 0, none⟩)] W fun e W' => (∃ v, e = .returned v) ∧
      ((∃ ys, ys = [] ∧ J ys W') ∨ (∃ pre, True ∧ Jx pre W')) := by
  refine callsIn_of_wp Try.func60 rfl h6 ?_ hro
  simp only [Try.ntmps60, List.size_toArray, List.length_cons, List.length_nil, Nat.reduceAdd, Nat.reduceSub, Array.replicate_succ, Array.replicate_zero, List.push_toArray, List.append_toArray, List.nil_append, List.cons_append]
  gi_wp2_with (gi_at_call 61; (with_reducible refine (hsec _).mono ?_); rintro e w' ⟨rfl, rfl⟩)
  gi_loopw [8] (fun i wr => i = .int .i64 0 ∧ wr = W) (fun _ _ => 0)
  case atStart => exact ⟨rfl, rfl⟩
  case round =>
    obtain ⟨rfl, rfl⟩ := hrel
    gi_wp2
    go_end0
    exact ⟨⟨_, rfl⟩, .inl ⟨_, rfl, h0⟩⟩

theorem sectorsOf_stops (F : Fence) (n : Nat) (h6 : F.fn 60) (hro : F.round = none) (hn : 1 ≤ n) (hs : F.fn 61) (hsec : ∀ W : World, CallsIn F (n - 1) Try.prog 61 #[.pointer none] W fun e w' => e = .returned (.int .i64 0) ∧ W = w') (Bp n₀ : Nat) (w : World) (hBp : Bp < w.heap.size)
    (hc : w.cell? ⟨Bp, 0, none⟩ = some (.pointer none)) :
    SeqStopsK F n Try.prog 60 #[.pointer (some ⟨Bp, 0, none⟩)] (fun _ : Unit => #[Value.int .i64 0, Value.slice none 0 0]) (Below n₀) (fun ys => ys = []) (fun _ => True) 0 w := fun l J Jx W hW _ _ _ h0 =>
  sectorsOf1_in F n h6 hro hn hs hsec l Bp J Jx W ((hW.cell (p := ⟨Bp, 0, none⟩) hBp).trans hc) h0

theorem sectorsOf_nil (w : World) : Calls Try.prog 46 #[.pointer none] w fun e w' => e = .returned (.func (.func 60) #[] #[.pointer (some ⟨w.heap.size, 0, none⟩)]) ∧ w.alloc (.cells #[.pointer none] 46) = w' :=
  callsIn_wide.1 (sectorsOf_in Fence.wide 3 trivial rfl w)

set_option maxRecDepth 100000 in
set_option maxHeartbeats 2000000 in
theorem foul_nil (w : World) : Calls Try.prog 22 #[.pointer none] w fun e W' => e = .returned (.slice none 0 0) ∧ Below w.heap.size w W' := by
  refine (callsIn_wide (n := 3)).1 ?_
  refine callsIn_of_wp_marks Try.func22 rfl trivial ?_ rfl
  simp only [Try.ntmps22, List.size_toArray, List.length_cons, List.length_nil, Nat.reduceAdd, Nat.reduceSub, Array.replicate_succ, Array.replicate_zero, List.push_toArray, List.append_toArray, List.nil_append, List.cons_append]
  refine wpIn_wide.2 ?_
  go_wp2
  go_step3
  go_wp2
  go_step3
  go_wp2_with (go_at_call 46; (with_reducible refine (sectorsOf_nil _).mono ?_); rintro e w' ⟨rfl, rfl⟩)
  have hB3 : Below w.heap.size w (((w.alloc (.cells #[.pointer none] 46)).alloc (.cells #[.slice none 0 0] 43)).alloc (.cells #[.pointer none] 46)) := (((Below.refl _ _).alloc (Nat.le_refl _) _).alloc (by simp) _).alloc (by simp; omega) _
  have bV : Boxed (((w.alloc (.cells #[.pointer none] 46)).alloc (.cells #[.slice none 0 0] 43)).alloc (.cells #[.pointer none] 46)) (w.heap.size + 1) 43 (.slice none 0 0) := by
    show _ = _
    rw [Below.heap_alloc _ _ _ (by simp)]
    have := heap_alloc_new (w.alloc (.cells #[.pointer none] 46)) (.cells #[.slice none 0 0] 43)
    simpa using this
  have cD : (((w.alloc (.cells #[.pointer none] 46)).alloc (.cells #[.slice none 0 0] 43)).alloc (.cells #[.pointer none] 46)).cell? ⟨w.heap.size + 1 + 1, 0, none⟩ = some (.pointer none) := by
    have := heap_alloc_new ((w.alloc (.cells #[.pointer none] 46)).alloc (.cells #[.slice none 0 0] 43)) (.cells #[.pointer none] 46)
    rw [show ((w.alloc (.cells #[.pointer none] 46)).alloc (.cells #[.slice none 0 0] 43)).heap.size = w.heap.size + 1 + 1 by simp] at this
    exact blk_cell this 0
  have hlt3 : w.heap.size + 1 + 1 < (((w.alloc (.cells #[.pointer none] 46)).alloc (.cells #[.slice none 0 0] 43)).alloc (.cells #[.pointer none] 46)).heap.size := by simp
  refine (wpIn_wide (n := 3)).1 ?_
  refine rangeFunc_open (F := Fence.wide) rfl (by decide) (gf := 60) (lb := #[.pointer (some ⟨w.heap.size + 1 + 1, 0, none⟩)]) rfl trivial (enters_of Try.func60 (by kernel_rfl) rfl)
    (sectorsOf_stops Fence.wide (3 - 1) trivial rfl (by decide) trivial (fun W => callsIn_wide.2 (sectors_nil5 W)) (w.heap.size + 1 + 1) w.heap.size _ hlt3 cD) belowK_t (belowK_b hB3.size) (Below.refl _ _) (fun _ => rfl)
    (fun _ W => Boxed W (w.heap.size + 1) 43 (.slice none 0 0) ∧ Below w.heap.size w W)
    (fun _ _ _ => False)
    (OwnFrom.and (Own.from (holdsBlock_own (w.heap.size + 1) 43 (fun _ => #[.slice none 0 0])) _) (ownFrom_below (Nat.le_refl _) hB3.size))
    (fun _ _ _ _ _ hs _ _ => hs)
    ⟨bV, hB3⟩ ?round ?done ?stop
  case round =>
    apply Exists.intro
    apply And.intro
    · intro l x W K hK
      gi_wp2
      exact hK
    · intro l pre x W _ hlt
      exact absurd hlt (by simp)
  case done =>
    rintro D ys W hD rfl ⟨hv, hB⟩ hK
    have hc := hv.cell
    go_wp2
    rw [Exit.noGoto_ret]
    refine ⟨by simp, .inl ⟨_, _, rfl, run_takeDeferred hK, ?_⟩⟩
    exact ⟨_, results_tmp rfl _ _ _, rfl, hB.trans (belowK_b (w := w) (Nat.le_refl _) W D _ _ (by have := hB3.size; omega) hK rfl rfl)⟩
  case stop =>
    rintro D c pre W _ _ h _
    exact h.elim
theorem get_res (w : World) (z : Nat) (x : LeafP) (u : Value) (n : Int) (a : Act) (h : w.heap[z]? = some (.cells (x.cells u) 29 (0, 0))) (h2 : a.tmps.getD 8 undef = .pointer (some ⟨z, 0, none⟩)) (h3 : a.tmps.getD 9 undef = .int .i64 n) :
    (results Try.f24 a.tmps).run Try.prog w = .ok (.tuple #[.agg (x.cells u), .int .i64 n]) w := by
  have h2' : a.tmps[8]?.getD undef = .pointer (some ⟨z, 0, none⟩) := by simpa using h2
  have h3' : a.tmps[9]?.getD undef = .int .i64 n := by simpa using h3
  simp [results, Try.results24, h2', h3', asAddr, run_loadVar_row w z 29 29 (x.cells u) (0, 0) _ h Try.underlying29 rfl (leaf_sz x u)]
set_option maxRecDepth 100000 in
set_option maxHeartbeats 1000000 in
theorem get_nil (at_ k p : Int) (w : World) : Calls Try.prog 24 #[.pointer none, .int .i64 at_, .int .i64 k, .int .i64 p] w fun e w' => e = .returned (.tuple #[.agg (LeafP.zero.cells (.slice none 0 0)), .int .i64 1]) ∧ Below w.heap.size w w' := by
  have HZ : Hid ((w.alloc (.cells (LeafP.zero.cells (.slice none 0 0)) 29)).heap[w.heap.size]? = some (.cells (LeafP.zero.cells (.slice none 0 0)) 29 (0, 0))) := heap_alloc_new _ _
  have HB0 : Hid (Below w.heap.size w (w.alloc (.cells (LeafP.zero.cells (.slice none 0 0)) 29))) := (Below.refl _ _).alloc (Nat.le_refl _) _
  go_enter Try.func24, Try.ntmps24
  go_upto_region 1 with (fail)
  change (Code.region _ _ _).wp _ _ _ (w.alloc (.cells (LeafP.zero.cells (.slice none 0 0)) 29))
  generalize w.alloc (.cells (LeafP.zero.cells (.slice none 0 0)) 29) = w0 at HZ HB0 ⊢
  go_wp2_with (first
    | (go_at_call 23; (with_reducible refine (read_nil5 _ _).mono ?_); rintro e w1 ⟨rfl, rfl⟩)
    | (refine wpList_store_row (o := ⟨none, _, _, _, _, _⟩) rfl 29 (.tmp 8) (.tmp 21) rfl w.heap.size (LeafP.zero.cells (.slice none 0 0)) rfl rfl 29 (LeafP.zero.cells (.slice none 0 0)) HZ.out (leaf_sz _ _) rfl ?_ ?_; exact leaf_one _))
  have hend : (w0.setRow w.heap.size (LeafP.zero.cells (.slice none 0 0))).heap[w.heap.size]? = some (.cells (LeafP.zero.cells (.slice none 0 0)) 29 (0, 0)) := setRow_heap _ _ _ _ _ _ HZ.out
  exact bodyPost_ret (get_res _ w.heap.size LeafP.zero _ 1 _ hend rfl rfl) rfl ⟨rfl, below_setRow HB0.out (Nat.le_refl _) _⟩
theorem put_nil (at_ : Int) (w : World) : Calls Try.prog 20 #[.pointer none, .int .i64 at_, .agg #[.int .i64 0, .int .i64 0, .int .i64 0, .slice none 0 0]] w fun e w' => e = .returned (.int .i64 1) ∧ Below w.heap.size w w' := by
  go_enter Try.func20, Try.ntmps20
  go_wp2
  go_ret
  exact ⟨rfl, (Below.refl _ _).alloc (Nat.le_refl _) _⟩

set_option maxRecDepth 100000 in
set_option maxHeartbeats 2000000 in
theorem leafNil_walk (n : Int) (w : World) : Calls Try.prog 8 #[.int .i64 n] w (Good w) := by
  have HAW := Lib.hid (fun W => awake05 W)
  have HFO := Lib.hid (fun W => foul_nil W)
  have HPU := Lib.hid (fun W => put_nil n W)
  have HGE := Lib.hid (get_nil n 1 0 w)
  go_enter Try.func8, Try.ntmps8
  go_upto_region 2 with (first
    | (go_at_call 24; (with_reducible refine HGE.out.mono ?_); rintro e w1 ⟨rfl, hb⟩; have HB1 := Lib.hid hb; clear hb)
    | (refine wpList_store_row (o := ⟨none, _, _, _, _, _⟩) rfl 29 (.tmp 3) (.tmp 8) rfl w1.heap.size (LeafP.zero.cells (.slice none 0 0)) rfl rfl 29 (LeafP.zero.cells (.slice none 0 0)) (heap_alloc_new _ _) (leaf_sz _ _) rfl ?_ ?_; exact leaf_one _))
  have hbw : Below w1.heap.size w1 ((w1.alloc (.cells (LeafP.zero.cells (.slice none 0 0)) 29)).setRow w1.heap.size (LeafP.zero.cells (.slice none 0 0))) := below_setRow ((Below.refl _ _).alloc (Nat.le_refl _) _) (Nat.le_refl _) _
  have hP2 : ((w1.alloc (.cells (LeafP.zero.cells (.slice none 0 0)) 29)).setRow w1.heap.size (LeafP.zero.cells (.slice none 0 0))).heap[w1.heap.size]? = some (.cells #[.int .i64 0, .int .i64 0, .int .i64 0, .slice none 0 0] 29 (0, 0)) := setRow_heap _ _ _ _ _ _ (heap_alloc_new _ _)
  change (Code.region _ _ _).wp _ _ _ ((w1.alloc (.cells (LeafP.zero.cells (.slice none 0 0)) 29)).setRow w1.heap.size (LeafP.zero.cells (.slice none 0 0)))
  generalize (w1.alloc (.cells (LeafP.zero.cells (.slice none 0 0)) 29)).setRow w1.heap.size (LeafP.zero.cells (.slice none 0 0)) = w2 at hbw hP2 ⊢
  obtain ⟨c0, c1, c2, c3⟩ := leaf_cells hP2 (Below.refl w2.heap.size w2)
  have HEND := Lib.hid (HB1.out.trans (hbw.mono HB1.out.size))
  obtain ⟨P, hP⟩ : ∃ P, w1.heap.size = P := ⟨_, rfl⟩
  rw [hP] at c0 c1 c2 c3 ⊢
  clear hbw hP2 hP
  go_wp2_with (first
    | (go_at_call 20; (with_reducible refine (HPU.out _).mono ?_); rintro e w3 ⟨rfl, hb⟩; have HB3 := Lib.hid hb; clear hb)
    | (go_at_call 22; (with_reducible refine (HFO.out _).mono ?_); rintro e w4 ⟨rfl, hb⟩; have HB4 := Lib.hid hb; clear hb)
    | (go_at_call 14; (with_reducible refine (HAW.out _).mono ?_); rintro e w5 ⟨rfl, hb⟩; have HB5 := Lib.hid hb; clear hb))
  go_ret
  exact ⟨rfl, HEND.out.trans ((HB3.out.trans ((HB4.out.trans (HB5.out.mono HB4.out.size)).mono HB3.out.size)).mono HEND.out.size)⟩

set_option maxRecDepth 100000 in
theorem leafNil_lifted (os : Os) (started : os.Started) (H : Type) (enc : TypeId × Value → H) :
    ReturnsInHanded {} Try.checked os 8 .any (Rows.leafNilSpec.pre6 enc Try.prog Try.f8 Rows.leafNilRow.domain false) (Rows.leafNilSpec.post enc Try.prog Try.f8 false true false false) :=
  law_lifted 8 Try.f8 Rows.leafNilSpec Try.func8 (by kernel_rfl) rfl rfl
    (fun ds h => by match ds, h with | [_], _ => rfl) (by kernel_rfl) os started
    (ChangeSpec.witness6 (enc := enc) (C := Try.checked) false ⟨#[], #[.int .i64 0], []⟩ 8 (by kernel_rfl) (by kernel_rfl) (by kernel_rfl) (by kernel_rfl))
    fun W args ds ps hval hA => by
      rw [Try.params8] at hA hval
      obtain ⟨v0, vs0, d0, ds0, p0, q0, hargs, rfl, rfl, h0, r0⟩ := trodAll_cons hA
      obtain ⟨rfl, rfl, rfl⟩ := trodAll_nil r0
      obtain rfl : args = #[v0] := by cases args; simp_all
      obtain ⟨b0, o0⟩ := hval 0 _ v0 rfl rfl
      obtain ⟨a0, rfl, rfl, rfl, w0⟩ := open_int Try.underlying3 o0 h0
      exact leafNil_walk a0 W

/-- The statement. -/
theorem leafNil_holds : Rows.LeafNilSaid :=
  OpenClaim.holds_of_wide 8 Try.f8 rfl rfl rfl rfl rfl rfl rfl ⟨rfl, rfl, rfl, rfl, rfl⟩ rfl rfl rfl rfl rfl (by kernel_rfl) Try.func8 (by kernel_rfl)
    (of_decide_eq_true (by kernel_rfl)) (by unfold Func.isWrapper; first | (rw [if_pos (by decide +kernel)]; kernel_rfl) | (rw [if_neg (by decide +kernel)]; exact ⟨rfl, rfl⟩))
    (fun os started H enc _ => leafNil_lifted os started H enc)
#print axioms leafNil_holds
end Go.Proofs.Ytcjkimchgpaalaa

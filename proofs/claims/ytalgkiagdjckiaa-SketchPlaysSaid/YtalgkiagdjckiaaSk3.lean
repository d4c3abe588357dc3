/-
  sketch: Guess.
  Conditions: none.
-/
import Derived.Test.YtalgkiagdjckiaaSk2
import Derived.Test.YtalgkiagdjckiaaQuietT
namespace Go.Proofs.Ytalgkiagdjckiaa
open Go.RowKit Go.Shelf
attribute [local go_sem] Oper.semAt_some

/-- The least of a number's counts in these rows, 15 at most. -/
def gssL (C : Nat → Nat → Nat) (N : Nat) (h : BitVec 64) : List (Fin 4) → Nat → Nat
  | [], m => m
  | r :: rs, m => gssL C N h rs (min m (C r.val (plc N h r.val)))
theorem gssL_snoc (C : Nat → Nat → Nat) (N : Nat) (h : BitVec 64) (xs : List (Fin 4)) (r : Fin 4) (m : Nat) : gssL C N h (xs ++ [r]) m = min (gssL C N h xs m) (C r.val (plc N h r.val)) := by
  induction xs generalizing m with
  | nil => rfl
  | cons x xs ih => exact ih _
theorem gssL_le (C : Nat → Nat → Nat) (N : Nat) (h : BitVec 64) (xs : List (Fin 4)) (m : Nat) : gssL C N h xs m ≤ m := by
  induction xs generalizing m with
  | nil => exact Nat.le_refl _
  | cons x xs ih => exact Nat.le_trans (ih _) (Nat.min_le_left _ _)
/-- A number's guess. -/
def gss (C : Nat → Nat → Nat) (N : Nat) (h : BitVec 64) : Nat := gssL C N h rows4 15
theorem gss_le (C : Nat → Nat → Nat) (N : Nat) (h : BitVec 64) : gss C N h ≤ 15 := gssL_le _ _ _ _ _

/-- What a round of a guess keeps: the box of the least count. -/
structure GsAt (w w3 : World) (B : Nat) (m : Nat) (W : World) : Prop where
  box : Boxed W B 5 (.int .u8 (m : Int))
  keeps : KeepsAt (fun k => k < w3.heap.size ∧ k ≠ B) w3 W
  below : Below w.heap.size w W
  size : w3.heap.size ≤ W.heap.size
theorem boxed_kept1 {X Y : World} {row : Option Nat} {B : Nat} {t : TypeId} {v : Value} (hv : Boxed X B t v) (hg : X.grownBy Y row) (hrow : ∀ r, row = some r → ∃ o : Obj, X.heap[r]? = some o ∧ o.isCells = false) : Boxed Y B t v := by
  refine hv.kept hg fun e' => ?_
  obtain ⟨o, ho, hc⟩ := hrow B e'.symm
  rw [show X.heap[B]? = _ from hv] at ho; cases ho; cases hc
theorem keepsAt_own1 {S : Nat → Prop} {w0 X Y : World} {row : Option Nat} (hk : KeepsAt S w0 X) (hg : X.grownBy Y row) (hrow : ∀ r, row = some r → ∃ o : Obj, X.heap[r]? = some o ∧ o.isCells = false) : KeepsAt S w0 Y := by
  intro b hb c t z e
  have h1 := hk b hb c t z e
  refine (hg.block b (Array.getElem?_eq_some_iff.1 h1).1 (fun e' => ?_)).trans h1
  obtain ⟨o, ho, hc⟩ := hrow b e'.symm
  rw [h1] at ho; cases ho; cases hc
theorem gs_own {β : Type} (w w3 : World) (hw : w.heap.size ≤ w3.heap.size) (B : Nat) (f : β → Nat) : OwnFrom w3.heap.size (fun xs W => GsAt w w3 B (f xs) W) := by
  rintro s X Y row ⟨hb, hk, hl, hs⟩ hg hrow
  exact ⟨boxed_kept1 hb hg fun r e => (hrow r e).2, keepsAt_own1 hk hg fun r e => (hrow r e).2,
    hl.grown hg (Nat.le_trans hw hs) (fun j e => Nat.le_trans hw (hrow j e).1), Nat.le_trans hs hg.size⟩
theorem GsAt.cell {w w3 W : World} {B m : Nat} (h : GsAt w w3 B m W) {g i : Nat} {v : Value} (h1 : g < w3.heap.size) (h2 : g ≠ B) (hc : w3.cell? ⟨g, i, none⟩ = some v) : W.drew.cell? ⟨g, i, none⟩ = some v := h.keeps.cell (p := ⟨g, i, none⟩) ⟨h1, h2⟩ hc
/-- The box is written. -/
theorem GsAt.put {w w3 W : World} {B m : Nat} (h : GsAt w w3 B m W) (hB : w.heap.size ≤ B) (m' : Nat) : GsAt w w3 B m' (W.drew.setCell ⟨B, 0, none⟩ (.int .u8 (m' : Int))) := by
  have hb : Boxed W.drew B 5 (.int .u8 (m : Int)) := h.box
  exact ⟨hb.set _, h.keeps.trans (KeepsAt.setCell W.drew ⟨B, 0, none⟩ _ (fun e => e.2 rfl)), (h.below.drew).setCell (p := ⟨B, 0, none⟩) hB _, Nat.le_trans h.size ((Below.refl 0 W.drew).setCell (p := ⟨B, 0, none⟩) (Nat.zero_le _) _).size⟩
set_option maxRecDepth 100000 in
set_option maxHeartbeats 2000000 in
theorem guess_in {w : World} {G : Nat} {b : Nat → Nat} {N age : Nat} {C : Nat → Nat → Nat} (hS : SkAt w G b N age C) (hk : BitVec 64) :
    CallsIn Fence.wide 3 Try.prog 22 #[.pointer (some ⟨G, 0, none⟩), .int .u64 (U hk)] w fun e w' => e = .returned (.int .i64 ((gss C N hk : Nat) : Int)) ∧ Below w.heap.size w w' := by
  have hN := hS.wide.le
  have HSK := Lib.hid hS
  have HW := Lib.hid (fun V (hb : Below w.heap.size w V) => width_any (hS.same hb))
  have n0 : ¬ ((N : Int) = 0) := by omega
  have n1 : ((N : Int) == 0) = false := beq_eq_false_iff_ne.2 n0
  have HP := Lib.hid (fun W => places_in G hk W)
  have HN := Lib.hid hN
  clear hS hN
  refine callsIn_of_wp_marks Try.func22 rfl trivial ?_ rfl
  simp only [Try.ntmps22, List.size_toArray, List.length_cons, List.length_nil, Nat.reduceAdd, Nat.reduceSub, Array.replicate_succ, Array.replicate_zero, List.push_toArray, List.append_toArray, List.nil_append, List.cons_append]
  have t1 : Fence.wide.fn 32 := trivial
  have t2 : Fence.wide.fn 10 := trivial
  gi_wp2_with (first
    | (gi_at_call 10; (with_reducible refine (callsIn_wide.2 (HW.out _ ((Below.refl _ w).alloc (Nat.le_refl _) _))).mono ?_); rintro e w' ⟨rfl, rfl⟩)
    | (gi_at_call 32; (with_reducible refine (HP.out _).mono ?_); rintro e w' ⟨rfl, hw3⟩))
  have z3 : w'.heap.size = w.heap.size + 4 := by rw [← hw3]; simp
  have b3 : Below w.heap.size w w' := by rw [← hw3]; exact ((((Below.refl _ w).alloc (Nat.le_refl _) _).alloc (by simp) _).alloc (by simp; omega) _).alloc (by simp; omega) _
  have c0 : w'.cell? ⟨w.heap.size, 0, none⟩ = some (.pointer (some ⟨G, 0, none⟩)) := by
    rw [← hw3]
    exact blk_cell (blk_alloc (blk_alloc (blk_alloc (heap_alloc_new w _) _) _) _) 0
  have bB : Boxed w' (w.heap.size + 1) 5 (.int .u8 ((15 : Nat) : Int)) := by
    rw [← hw3]
    have := heap_alloc_new (w.alloc (.cells #[.pointer (some ⟨G, 0, none⟩)] 23)) (.cells #[.int .u8 15] 5)
    rw [World.size_alloc] at this
    exact blk_alloc (blk_alloc this _) _
  have c2 : w'.cell? ⟨w.heap.size + 1 + 1, 0, none⟩ = some (.pointer (some ⟨G, 0, none⟩)) := by
    rw [← hw3]
    have := heap_alloc_new ((w.alloc (.cells #[.pointer (some ⟨G, 0, none⟩)] 23)).alloc (.cells #[.int .u8 15] 5)) (.cells #[.pointer (some ⟨G, 0, none⟩)] 23)
    rw [World.size_alloc, World.size_alloc] at this
    exact blk_cell (blk_alloc this _) 0
  have c3 : w'.cell? ⟨w.heap.size + 1 + 1 + 1, 0, none⟩ = some (.int .u64 (U hk)) := by
    rw [← hw3]
    have := heap_alloc_new (((w.alloc (.cells #[.pointer (some ⟨G, 0, none⟩)] 23)).alloc (.cells #[.int .u8 15] 5)).alloc (.cells #[.pointer (some ⟨G, 0, none⟩)] 23)) (.cells #[.int .u64 (U hk)] 32)
    rw [World.size_alloc, World.size_alloc, World.size_alloc] at this
    exact blk_cell this 0
  have hSK := HSK.out.same b3
  have hGl := blk_lt HSK.out.blk
  have HSK3 := Lib.hid hSK
  have C0 := Lib.hid c0
  have HB3 := Lib.hid b3
  have Z3 := Lib.hid z3
  clear hw3 HW HP
  refine rangeFunc_open rfl (by decide) (gf := 35) (lb := #[.pointer (some ⟨w.heap.size + 1 + 1 + 1, 0, none⟩), .pointer (some ⟨w.heap.size + 1 + 1, 0, none⟩)]) rfl trivial (enters_of Try.func35 (by kernel_rfl) rfl)
    (places_stops (w.heap.size + 1 + 1 + 1) (w.heap.size + 1 + 1) G N N ⟨b 0, 0, none⟩ hk HN.out (fun k => k < w'.heap.size ∧ k ≠ w.heap.size + 1) w' ⟨by omega, by omega⟩ ⟨by omega, by omega⟩ ⟨by omega, by omega⟩ c3 c2 hSK.slot0) keepsAt_t keepsAt_b (Below.refl _ _) (fun _ => rfl)
    (fun xs W => GsAt w w' (w.heap.size + 1) (gssL C N hk xs 15) W)
    (fun _ _ _ => False)
    (gs_own w w' (by omega) _ _)
    (fun _ _ _ _ _ hs _ _ => hs) ⟨bB, KeepsAt.refl _ _, b3, Nat.le_refl _⟩ ?round ?done ?stop
  case round =>
    apply Exists.intro
    apply And.intro
    · intro l x W K hK
      gi_wp2
      exact hK
    · rintro l pre x W hgs hlt
      have HG := Lib.hid hgs
      have q0 : W.drew.cell? ⟨w.heap.size, 0, none⟩ = some (.pointer (some ⟨G, 0, none⟩)) := hgs.cell (by have := Z3.out; omega) (by omega) C0.out
      have q1 : W.drew.cell? ⟨w.heap.size + 1, 0, none⟩ = some (.int .u8 ((gssL C N hk pre 15 : Nat) : Int)) := hgs.box.cell
      have q1f : W.drew.frozen? ⟨w.heap.size + 1, 0, none⟩ = false := hgs.box.frozen
      have q2 : W.drew.cell? ⟨G, x.val, none⟩ = some (.slice (some ⟨b x.val, 0, none⟩) N N) := hgs.cell (by have := Z3.out; omega) (by omega) (HSK3.out.slot x.isLt)
      have hbl := blk_lt (HSK.out.row x.val x.isLt)
      have q3 : W.drew.cell? ⟨b x.val, plc N hk x.val, none⟩ = some (.int .u8 ((C x.val (plc N hk x.val) : Nat) : Int)) := hgs.cell (by have := Z3.out; omega) (by omega) (HSK3.out.count x.isLt (plc_lt (by have := HN.out; omega) hk x.val))
      have x4 : ((x.val : Nat) : Int) < 4 := by have := x.isLt; omega
      have pN : ((plc N hk x.val : Nat) : Int) < N := by have := plc_lt (N := N) (by have := HN.out; omega) hk x.val; omega
      have HM := Lib.hid (gssL_snoc C N hk pre x 15)
      clear hgs hbl
      generalize gssL C N hk pre 15 = m at *
      obtain ⟨p, hp⟩ : ∃ p, plc N hk x.val = p := ⟨_, rfl⟩
      rw [hp] at q3 pN HM ⊢
      clear hp
      obtain ⟨c, hc⟩ : ∃ c, C x.val p = c := ⟨_, rfl⟩
      rw [hc] at q3 HM
      clear hc
      generalize x.val = r at *
      gi_wp2
      refine wpIn_region_tail 11 (by kernel_rfl) (fun ⟨_, _, h⟩ => by rcases h with ⟨_, ⟨h, _⟩ | ⟨h, _⟩⟩ <;> cases h) (by kernel_rfl) (by kernel_rfl) ?_
      simp only [List.take_succ_cons, List.take_zero, List.drop_succ_cons, List.drop_zero]
      repeat still_step
      try refine wpStill_nil ?_
      go_wp2
      · have e : min m c = c := Nat.min_eq_right (by omega)
        have k1 : KeepsOthers W.drew (W.drew.setCell _ _) := KeepsOthers.setCell W.drew ⟨w.heap.size + 1, 0, none⟩ (.int .u8 (c : Int))
        have k2 : KeepsOthers W (W.drew.setCell _ _) := ⟨k1.size, k1.same⟩
        refine ⟨k2.from _, KeepsAt.setCell W.drew ⟨w.heap.size + 1, 0, none⟩ _ (fun h => h.2 rfl), ?_⟩
        show GsAt w w' (w.heap.size + 1) (gssL C N hk (pre ++ [x]) 15) _
        rw [HM.out, e]
        exact HG.out.put (by omega) c
      · have e : min m c = m := Nat.min_eq_left (by omega)
        have k1 : KeepsOthers W.drew (W.drew.setCell _ _) := KeepsOthers.setCell W.drew ⟨w.heap.size + 1, 0, none⟩ (.int .u8 (m : Int))
        have k2 : KeepsOthers W (W.drew.setCell _ _) := ⟨k1.size, k1.same⟩
        refine ⟨k2.from _, KeepsAt.setCell W.drew ⟨w.heap.size + 1, 0, none⟩ _ (fun h => h.2 rfl), ?_⟩
        show GsAt w w' (w.heap.size + 1) (gssL C N hk (pre ++ [x]) 15) _
        rw [HM.out, e]
        exact HG.out.put (by omega) m
  case done =>
    rintro D ys W hD rfl hgs hK
    have q1 := hgs.box.cell
    have HG := Lib.hid hgs
    have h15 := gss_le C N hk
    have HQ := Lib.hid (show gssL C N hk rows4 15 = gss C N hk from rfl)
    rw [HQ.out] at q1 HG
    obtain ⟨m, hm⟩ : ∃ m, gss C N hk = m := ⟨_, rfl⟩
    rw [hm] at q1 HG h15
    have HM := Lib.hid hm
    clear hm HQ
    have e1 : wrap64 (m : Int) = (m : Int) := IntWalk.wrap64_in _ ⟨by omega, by omega⟩
    clear hgs
    gi_wp2
    refine ⟨by simp, .inl ⟨_, _, rfl, run_takeDeferred hK, ?_⟩⟩
    refine ⟨_, results_tmp rfl _ _ _, by rw [HM.out]; rfl, ?_⟩
    exact HG.out.below.trans ((Below.refl _ W).grown (grownBy_putObj' _ D _) (by have := (Array.getElem?_eq_some_iff.1 hK).1; have := HG.out.below.size; omega) (fun k e => by cases e; omega))
  case stop =>
    rintro D c pre W _ _ h _
    exact h.elim
theorem guess_any {w : World} {G : Nat} {b : Nat → Nat} {N age : Nat} {C : Nat → Nat → Nat} (hS : SkAt w G b N age C) (h : BitVec 64) :
    Calls Try.prog 22 #[.pointer (some ⟨G, 0, none⟩), .int .u64 (U h)] w fun e w' => e = .returned (.int .i64 ((gss C N h : Nat) : Int)) ∧ Below w.heap.size w w' := callsIn_wide.1 (guess_in hS h)
end Go.Proofs.Ytalgkiagdjckiaa

/-
  sketch: grow, Mark, Admit.
  Conditions: none.
-/
import Derived.Test.YtalgkiagdjckiaaSk3
import Derived.Test.YtalgkiagdjckiaaSk4
import Derived.Test.YtalgkiagdjckiaaQuietR
namespace Go.Proofs.Ytalgkiagdjckiaa
open Go.RowKit Go.Shelf
attribute [local go_sem] Oper.semAt_some

/-- A count of a row grows, if it is the least one and below 15. -/
def grow1 (C : Nat → Nat → Nat) (N : Nat) (h : BitVec 64) (least : Nat) (r : Nat) : Nat → Nat → Nat :=
  if C r (plc N h r) = least ∧ C r (plc N h r) < 15 then fun s i => if s = r ∧ i = plc N h r then C r (plc N h r) + 1 else C s i else C
def growL (N : Nat) (h : BitVec 64) (least : Nat) : List (Fin 4) → (Nat → Nat → Nat) → (Nat → Nat → Nat)
  | [], C => C
  | r :: rs, C => growL N h least rs (grow1 C N h least r.val)
theorem growL_snoc (N : Nat) (h : BitVec 64) (least : Nat) (xs : List (Fin 4)) (r : Fin 4) (C : Nat → Nat → Nat) : growL N h least (xs ++ [r]) C = grow1 (growL N h least xs C) N h least r.val := by
  induction xs generalizing C with
  | nil => rfl
  | cons x xs ih => exact ih _

/-- What a round of grow keeps. -/
structure GwAt (w w3 : World) (G : Nat) (b : Nat → Nat) (N age : Nat) (C : Nat → Nat → Nat) (W : World) : Prop where
  sk : SkAt W G b N age C
  keeps : KeepsAt (fun k => k < w3.heap.size ∧ ∀ r, r < 4 → k ≠ b r) w3 W
  moves : Moves (SkS G b) w W
  size : w3.heap.size ≤ W.heap.size
theorem block_own1 {X Y : World} {row : Option Nat} {B : Nat} {c : Array Value} {t : TypeId} {z : Nat × Nat} (hv : X.heap[B]? = some (.cells c t z)) (hg : X.grownBy Y row) (hrow : ∀ r, row = some r → ∃ o : Obj, X.heap[r]? = some o ∧ o.isCells = false) : Y.heap[B]? = some (.cells c t z) := by
  refine (hg.block B (Array.getElem?_eq_some_iff.1 hv).1 (fun e' => ?_)).trans hv
  obtain ⟨o, ho, hc⟩ := hrow B e'.symm
  rw [hv] at ho; cases ho; cases hc
theorem SkAt.own1 {X Y : World} {row : Option Nat} {G : Nat} {b : Nat → Nat} {N age : Nat} {C : Nat → Nat → Nat} (h : SkAt X G b N age C) (hg : X.grownBy Y row) (hrow : ∀ r, row = some r → ∃ o : Obj, X.heap[r]? = some o ∧ o.isCells = false) : SkAt Y G b N age C :=
  ⟨h.wide, h.age_le, h.small, h.inj, block_own1 h.blk hg hrow, fun r hr => block_own1 (h.row r hr) hg hrow⟩
theorem gw_own {β : Type} (w w3 : World) (hw : w.heap.size ≤ w3.heap.size) (G : Nat) (b : Nat → Nat) (N age : Nat) (f : β → Nat → Nat → Nat) : OwnFrom w3.heap.size (fun xs W => GwAt w w3 G b N age (f xs) W) := by
  rintro s X Y row ⟨hb, hk, hl, hs⟩ hg hrow
  refine ⟨hb.own1 hg fun r e => (hrow r e).2, keepsAt_own1 hk hg fun r e => (hrow r e).2, ?_, Nat.le_trans hs hg.size⟩
  exact hl.trans (T := fun k => row = some k) ⟨hg.os, hg.tape, hg.output, hg.size, fun k hk he => hg.block k hk (fun e => he e.symm)⟩ (fun i hi e => absurd (hrow i e).1 (by omega))
theorem GwAt.cell {w w3 W : World} {G : Nat} {b : Nat → Nat} {N age : Nat} {C : Nat → Nat → Nat} (h : GwAt w w3 G b N age C W) {g i : Nat} {v : Value} (h1 : g < w3.heap.size) (h2 : ∀ r, r < 4 → g ≠ b r) (hc : w3.cell? ⟨g, i, none⟩ = some v) : W.cell? ⟨g, i, none⟩ = some v := h.keeps.cell (p := ⟨g, i, none⟩) ⟨h1, h2⟩ hc
theorem GwAt.after {w w3 W V : World} {G : Nat} {b : Nat → Nat} {N age : Nat} {C : Nat → Nat → Nat} (h : GwAt w w3 G b N age C W) (hb : Below W.heap.size W V) : GwAt w w3 G b N age C V :=
  ⟨h.sk.same hb, fun k hk c t z e => (hb.block k (Array.getElem?_eq_some_iff.1 (h.keeps k hk c t z e)).1).trans (h.keeps k hk c t z e), h.moves.trans (T := fun _ => False) (Moves.of_below hb) (fun _ _ e => e.elim), Nat.le_trans h.size hb.size⟩
/-- A count is written. -/
theorem GwAt.put {w w3 W : World} {G : Nat} {b : Nat → Nat} {N age : Nat} {C : Nat → Nat → Nat} (h : GwAt w w3 G b N age C W) {r j v : Nat} (hr : r < 4) (hv : v ≤ 15) : GwAt w w3 G b N age (fun s i => if s = r ∧ i = j then v else C s i) (W.setCell ⟨b r, j, none⟩ (.int .u8 ((v : Nat) : Int))) :=
  ⟨h.sk.put hr hv, h.keeps.trans (KeepsAt.setCell W ⟨b r, j, none⟩ _ (fun e => e.2 r hr rfl)), h.moves.setCell (p := ⟨b r, j, none⟩) (fun _ => .inr ⟨r, hr, rfl⟩) _, Nat.le_trans h.size ((Below.refl 0 W).setCell (p := ⟨b r, j, none⟩) (Nat.zero_le _) _).size⟩
set_option maxRecDepth 100000 in
set_option maxHeartbeats 2000000 in
theorem grow_in {w : World} {G : Nat} {b : Nat → Nat} {N age : Nat} {C : Nat → Nat → Nat} (hS : SkAt w G b N age C) (hk : BitVec 64) (least : Nat) (hl : least ≤ 15) :
    CallsIn Fence.wide 3 Try.prog 31 #[.pointer (some ⟨G, 0, none⟩), .int .u64 (U hk), .int .u8 (least : Int)] w fun e w' => e = .returned (.tuple #[]) ∧ SkAt w' G b N age (growL N hk least rows4 C) ∧ Moves (SkS G b) w w' := by
  have hN := hS.wide.le
  have HSK := Lib.hid hS
  have HP := Lib.hid (fun W => places_in G hk W)
  have HN := Lib.hid hN
  have HL := Lib.hid hl
  clear hS hN hl
  refine callsIn_of_wp_marks Try.func31 rfl trivial ?_ rfl
  simp only [Try.ntmps31, List.size_toArray, List.length_cons, List.length_nil, Nat.reduceAdd, Nat.reduceSub, Array.replicate_succ, Array.replicate_zero, List.push_toArray, List.append_toArray, List.nil_append, List.cons_append]
  have t1 : Fence.wide.fn 32 := trivial
  gi_wp2_with (gi_at_call 32; (with_reducible refine (HP.out _).mono ?_); rintro e w' ⟨rfl, hw3⟩)
  have z3 : w'.heap.size = w.heap.size + 4 := by rw [← hw3]; simp
  have b3 : Below w.heap.size w w' := by rw [← hw3]; exact ((((Below.refl _ w).alloc (Nat.le_refl _) _).alloc (by simp) _).alloc (by simp; omega) _).alloc (by simp; omega) _
  have c0 : w'.cell? ⟨w.heap.size, 0, none⟩ = some (.pointer (some ⟨G, 0, none⟩)) := by
    rw [← hw3]
    exact blk_cell (blk_alloc (blk_alloc (blk_alloc (heap_alloc_new w _) _) _) _) 0
  have c1 : w'.cell? ⟨w.heap.size + 1, 0, none⟩ = some (.int .u8 (least : Int)) := by
    rw [← hw3]
    have := heap_alloc_new (w.alloc (.cells #[.pointer (some ⟨G, 0, none⟩)] 23)) (.cells #[.int .u8 (least : Int)] 5)
    rw [World.size_alloc] at this
    exact blk_cell (blk_alloc (blk_alloc this _) _) 0
  have c2 : w'.cell? ⟨w.heap.size + 1 + 1, 0, none⟩ = some (.pointer (some ⟨G, 0, none⟩)) := by
    rw [← hw3]
    have := heap_alloc_new ((w.alloc (.cells #[.pointer (some ⟨G, 0, none⟩)] 23)).alloc (.cells #[.int .u8 (least : Int)] 5)) (.cells #[.pointer (some ⟨G, 0, none⟩)] 23)
    rw [World.size_alloc, World.size_alloc] at this
    exact blk_cell (blk_alloc this _) 0
  have c3 : w'.cell? ⟨w.heap.size + 1 + 1 + 1, 0, none⟩ = some (.int .u64 (U hk)) := by
    rw [← hw3]
    have := heap_alloc_new (((w.alloc (.cells #[.pointer (some ⟨G, 0, none⟩)] 23)).alloc (.cells #[.int .u8 (least : Int)] 5)).alloc (.cells #[.pointer (some ⟨G, 0, none⟩)] 23)) (.cells #[.int .u64 (U hk)] 32)
    rw [World.size_alloc, World.size_alloc, World.size_alloc] at this
    exact blk_cell this 0
  have hSK := HSK.out.same b3
  have hGl := blk_lt HSK.out.blk
  have hbl : ∀ r, r < 4 → b r < w.heap.size := fun r hr => blk_lt (HSK.out.row r hr)
  have HGB : Hid (∀ r, r < 4 → G ≠ b r) := fun r hr => HSK.out.ne hr
  have HBL := Lib.hid hbl
  have HSK3 := Lib.hid hSK
  have C0 := Lib.hid c0
  have C1 := Lib.hid c1
  have HB3 := Lib.hid b3
  have Z3 := Lib.hid z3
  clear hw3 HP
  refine rangeFunc_open rfl (by decide) (gf := 35) (lb := #[.pointer (some ⟨w.heap.size + 1 + 1 + 1, 0, none⟩), .pointer (some ⟨w.heap.size + 1 + 1, 0, none⟩)]) rfl trivial (enters_of Try.func35 (by kernel_rfl) rfl)
    (places_stops (w.heap.size + 1 + 1 + 1) (w.heap.size + 1 + 1) G N N ⟨b 0, 0, none⟩ hk HN.out (fun k => k < w'.heap.size ∧ ∀ r, r < 4 → k ≠ b r) w' ⟨by omega, fun r hr => by have := hbl r hr; omega⟩ ⟨by omega, fun r hr => by have := hbl r hr; omega⟩ ⟨by omega, fun r hr => HGB.out r hr⟩ c3 c2 hSK.slot0) keepsAt_t keepsAt_b (Below.refl _ _) (fun _ => rfl)
    (fun xs W => GwAt w w' G b N age (growL N hk least xs C) W)
    (fun _ _ _ => False)
    (gw_own w w' (by omega) G b N age _)
    (fun _ _ _ _ _ hs _ _ => hs) ⟨hSK, KeepsAt.refl _ _, Moves.of_below b3, Nat.le_refl _⟩ ?round ?done ?stop
  case round =>
    apply Exists.intro
    apply And.intro
    · intro l x W K hK
      gi_wp2
      exact hK
    · rintro l pre x W hgs hlt
      have HG := Lib.hid hgs
      have q0 : W.cell? ⟨w.heap.size, 0, none⟩ = some (.pointer (some ⟨G, 0, none⟩)) := hgs.cell (by have := Z3.out; omega) (fun r hr => by have := hbl r hr; omega) C0.out
      have q1 : W.cell? ⟨w.heap.size + 1, 0, none⟩ = some (.int .u8 (least : Int)) := hgs.cell (by have := Z3.out; omega) (fun r hr => by have := hbl r hr; omega) C1.out
      have q2 : W.cell? ⟨G, x.val, none⟩ = some (.slice (some ⟨b x.val, 0, none⟩) N N) := hgs.sk.slot x.isLt
      have q3 : W.cell? ⟨b x.val, plc N hk x.val, none⟩ = some (.int .u8 ((growL N hk least pre C x.val (plc N hk x.val) : Nat) : Int)) := hgs.sk.count x.isLt (plc_lt (by have := HN.out; omega) hk x.val)
      have q4 : W.frozen? ⟨b x.val, plc N hk x.val, none⟩ = false := blk_frozen (hgs.sk.row x.val x.isLt) _
      have x4 : ((x.val : Nat) : Int) < 4 := by have := x.isLt; omega
      have pN : ((plc N hk x.val : Nat) : Int) < N := by have := plc_lt (N := N) (by have := HN.out; omega) hk x.val; omega
      have HM := Lib.hid (growL_snoc N hk least pre x C)
      have hc15 := hgs.sk.small x.val (plc N hk x.val)
      have HPL := Lib.hid (plc_lt (N := N) (by have := HN.out; omega) hk x.val)
      clear hgs hbl z3 b3 c0 c1 c2 c3 hSK hlt
      unfold grow1 at HM
      obtain ⟨p, hp⟩ : ∃ p, plc N hk x.val = p := ⟨_, rfl⟩
      rw [hp] at q3 q4 pN HM hc15 HPL ⊢
      clear hp
      obtain ⟨D, hD⟩ : ∃ D, growL N hk least pre C = D := ⟨_, rfl⟩
      rw [hD] at q3 HM HG hc15
      clear hD
      obtain ⟨c, hc⟩ : ∃ c, D x.val p = c := ⟨_, rfl⟩
      rw [hc] at q3 HM hc15
      clear hc
      have HBE := Lib.hid (fun V (hb : Below W.heap.size W V) => (show KeepsFrom w'.heap.size W V ∧ KeepsAt (fun k => k < w'.heap.size ∧ ∀ (r : Nat), r < 4 → k ≠ b r) W V from ⟨(KeepsOthers.mk hb.size fun k o hk _ => (hb.block k (Array.getElem?_eq_some_iff.1 hk).1).trans hk).from _, fun k _ c t z e => (hb.block k (Array.getElem?_eq_some_iff.1 e).1).trans e⟩))
      have X4 := Lib.hid x.isLt
      have g1 : ∀ q : After W, q.v.cell? ⟨w.heap.size + 1, 0, none⟩ = some (.int .u8 (least : Int)) := after_cell q1
      have g3 : ∀ q : After W, q.v.cell? ⟨b x.val, p, none⟩ = some (.int .u8 (c : Int)) := after_cell q3
      have Q3 := Lib.hid q3
      have Q4 := Lib.hid q4
      by_cases h1 : c = least
      · subst h1
        by_cases h2 : c < 15
        · have h3 : (c : Int) < 15 := by omega
          rw [if_pos ⟨rfl, h2⟩] at HM
          gi_wp2
          refine wpIn_region_round (by kernel_rfl) (by kernel_rfl) (by kernel_rfl) ?_
          repeat (gi_big_quiet_step (fail))
          refine wpQuietIn_nil ?_
          rintro W9 ⟨⟨_, hW9⟩, rfl⟩
          have d3 : W9.cell? ⟨b x.val, p, none⟩ = some (.int .u8 (c : Int)) := g3 ⟨W9, hW9⟩
          have HG9 := Lib.hid (HG.out.after hW9)
          have d4 : W9.frozen? ⟨b x.val, p, none⟩ = false := blk_frozen (HG9.out.sk.row x.val X4.out) p
          have HB9 := Lib.hid (HBE.out _ hW9)
          have e9 : ((c : Int) + 1) % 256 = ((c + 1 : Nat) : Int) := by omega
          clear hW9 g1 g3 q0 q1 q2 q3 q4
          gi_wp2
          have k1 : KeepsOthers W9 (W9.setCell ⟨b x.val, p, none⟩ (.int .u8 ((c + 1 : Nat) : Int))) := KeepsOthers.setCell W9 _ _
          refine ⟨HB9.out.1.trans (k1.from _), HB9.out.2.trans (KeepsAt.setCell W9 ⟨b x.val, p, none⟩ _ (fun e => e.2 _ X4.out rfl)), ?_⟩
          show GwAt w w' G b N age (growL N hk c (pre ++ [x]) C) _
          rw [HM.out]
          exact HG9.out.put (j := p) X4.out (by omega)
        · have h3 : ¬ ((c : Int) < 15) := by omega
          rw [if_neg (fun h => h2 h.2)] at HM
          gi_wp2
          refine wpIn_region_round (by kernel_rfl) (by kernel_rfl) (by kernel_rfl) ?_
          repeat (gi_big_quiet_step (fail))
          refine wpQuietIn_nil ?_
          rintro W9 ⟨⟨_, hW9⟩, rfl⟩
          have HG9 := Lib.hid (HG.out.after hW9)
          have HB9 := Lib.hid (HBE.out _ hW9)
          clear hW9 g1 g3 q0 q1 q2 q3 q4
          gi_wp2
          refine ⟨HB9.out.1, HB9.out.2, ?_⟩
          show GwAt w w' G b N age (growL N hk c (pre ++ [x]) C) _
          rw [HM.out]
          exact HG9.out
      · have h3 : ((c : Int) == (least : Int)) = false := beq_eq_false_iff_ne.2 (by omega)
        rw [if_neg (fun h => h1 h.1)] at HM
        gi_wp2
        refine wpIn_region_round (by kernel_rfl) (by kernel_rfl) (by kernel_rfl) ?_
        repeat (gi_big_quiet_step (fail))
        refine wpQuietIn_nil ?_
        rintro W9 ⟨⟨_, hW9⟩, rfl⟩
        have HG9 := Lib.hid (HG.out.after hW9)
        have HB9 := Lib.hid (HBE.out _ hW9)
        clear hW9 g1 g3 q0 q1 q2 q3 q4
        gi_wp2
        refine ⟨HB9.out.1, HB9.out.2, ?_⟩
        show GwAt w w' G b N age (growL N hk least (pre ++ [x]) C) _
        rw [HM.out]
        exact HG9.out
  case done =>
    rintro D ys W hD rfl hgs hK
    have HG := Lib.hid (hgs.sk.own1 (grownBy_putObj' W D (.deferred none)) (fun r e => by cases e; exact ⟨_, hK, rfl⟩))
    have HM := Lib.hid (hgs.moves.trans (c := W.putObj D (.deferred none)) (T := fun k => k = D) ⟨rfl, rfl, rfl, by rw [World.putObj_size]; exact Nat.le_refl _, fun k _ hne => World.putObj_heap_other (o := .deferred none) hne⟩ (fun i hi e => absurd hi (by omega)))
    clear hgs
    gi_wp2
    refine ⟨by simp, .inl ⟨_, _, rfl, run_takeDeferred hK, ?_⟩⟩
    exact ⟨_, results_none rfl _ _ _, rfl, HG.out, HM.out⟩
  case stop =>
    rintro D c pre W _ _ h _
    exact h.elim
end Go.Proofs.Ytalgkiagdjckiaa

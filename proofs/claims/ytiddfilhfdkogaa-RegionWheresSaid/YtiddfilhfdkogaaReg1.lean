/-
  region: a log in memory; what only reads it: regionRoom, position, Oldest, Last, Where, isThere, mayHold.
  Conditions: none.
-/
import Derived.Test.YtiddfilhfdkogaaJF2
import Derived.Test.YtiddfilhfdkogaaJQ
namespace Go.Proofs.Ytiddfilhfdkogaa
open Go.RowKit

/-- A log: where its regions begin, how many, how many sectors each, how many bytes a sector's load; the region begun last, the sector under way, what stands in it. -/
structure LogS where
  first : Nat
  regions : Nat
  sectors : Nat
  room : Nat
  last : Nat
  sector : Nat
  row : List (BitVec 8)
def LogS.rr (x : LogS) : Nat := x.sectors * x.room
def LogS.pos (x : LogS) : Nat := x.sector * x.room + x.row.length
def LogS.oldest (x : LogS) : Int := max ((x.last : Int) - x.regions + 1) 1
structure LogS.Ok (x : LogS) : Prop where
  r1 : 1 ≤ x.regions
  s1 : 1 ≤ x.sectors
  m1 : 1 ≤ x.room
  m2 : x.room ≤ 493
  tot : x.first + x.regions * x.sectors ≤ 16384
  l2 : x.last ≤ 1099511627776 * 2
  sec : x.sector ≤ x.sectors
  rlt : x.row.length ≤ x.room
  full : x.sector = x.sectors → x.row = []
theorem LogS.Ok.r2 {x : LogS} (h : x.Ok) : x.regions ≤ 16384 := by
  have h1 : x.regions * 1 ≤ x.regions * x.sectors := Nat.mul_le_mul_left _ h.s1
  have := h.tot
  omega
theorem LogS.Ok.s2 {x : LogS} (h : x.Ok) : x.sectors ≤ 16384 := by
  have h1 : 1 * x.sectors ≤ x.regions * x.sectors := Nat.mul_le_mul_right _ h.r1
  have := h.tot
  omega
theorem LogS.Ok.rr_le {x : LogS} (h : x.Ok) : x.rr ≤ 8077312 := by
  have : x.sectors * x.room ≤ 16384 * 493 := Nat.mul_le_mul h.s2 h.m2
  exact this
theorem LogS.Ok.rr_pos {x : LogS} (h : x.Ok) : 1 ≤ x.rr := Nat.mul_pos h.s1 h.m1
theorem LogS.Ok.sec_le {x : LogS} (h : x.Ok) : x.sector * x.room ≤ x.rr := Nat.mul_le_mul_right _ h.sec
theorem LogS.Ok.pos_le {x : LogS} (h : x.Ok) : x.pos ≤ x.rr := by
  unfold LogS.pos
  by_cases e : x.sector = x.sectors
  · have := h.full e
    rw [this]
    have := h.sec_le
    simpa using this
  · have h1 := h.sec
    have h2 : (x.sector + 1) * x.room ≤ x.sectors * x.room := Nat.mul_le_mul_right _ (by omega)
    have h3 := h.rlt
    rw [Nat.add_mul, Nat.one_mul] at h2
    unfold LogS.rr
    omega
/-- Its cells. -/
def LogS.cells (x : LogS) (D : Nat) (rv : Value) : Array Value := #[.pointer (some ⟨D, 0, none⟩), .int .i64 x.first, .int .i64 x.regions, .int .i64 x.sectors, .int .i64 x.room, .int .i64 x.last, .int .i64 x.sector, rv]
/-- A log's block, its row's block. -/
structure LogBlk (W : World) (n₀ R D : Nat) (x : LogS) (rv : Value) : Prop where
  ok : x.Ok
  blk : W.heap[R]? = some (.cells (x.cells D rv) 71 (0, 0))
  row : W.ownsRow n₀ 5 1 rv x.row.length (cellsOf x.row)
  lo : n₀ ≤ R
theorem ownsRow_same {w w' : World} {base : Nat} {e : TypeId} {size : Nat} {v : Value} {n : Nat} {xs : List Value} (h : w.ownsRow base e size v n xs) (hb : ∀ k, v.ownBlock = some k → w'.heap[k]? = w.heap[k]?) : w'.ownsRow base e size v n xs := by
  obtain ⟨h1, h2⟩ := h
  refine ⟨h1, ?_⟩
  rcases h2 with h2 | ⟨g, cap, cur, hv, hg, hh, r⟩
  · exact .inl h2
  · refine .inr ⟨g, cap, cur, hv, hg, (hb g (by rw [hv]; rfl)).trans hh, r⟩
section
variable {W W' : World} {n₀ R D : Nat} {x : LogS} {rv : Value}
theorem LogBlk.cells (h : LogBlk W n₀ R D x rv) : W.cell? ⟨R, 0, none⟩ = some (.pointer (some ⟨D, 0, none⟩)) ∧ W.cell? ⟨R, 1, none⟩ = some (.int .i64 x.first) ∧ W.cell? ⟨R, 2, none⟩ = some (.int .i64 x.regions) ∧ W.cell? ⟨R, 3, none⟩ = some (.int .i64 x.sectors) ∧ W.cell? ⟨R, 4, none⟩ = some (.int .i64 x.room) ∧ W.cell? ⟨R, 5, none⟩ = some (.int .i64 x.last) ∧ W.cell? ⟨R, 6, none⟩ = some (.int .i64 x.sector) ∧ W.cell? ⟨R, 7, none⟩ = some rv :=
  ⟨blk_cell h.blk 0, blk_cell h.blk 1, blk_cell h.blk 2, blk_cell h.blk 3, blk_cell h.blk 4, blk_cell h.blk 5, blk_cell h.blk 6, blk_cell h.blk 7⟩
theorem LogBlk.slice (h : LogBlk W n₀ R D x rv) : ∃ a c, rv = .slice a x.row.length c := owns_slice h.row
theorem LogBlk.lt (h : LogBlk W n₀ R D x rv) : R < W.heap.size := blk_lt h.blk
theorem LogBlk.row_lt (h : LogBlk W n₀ R D x rv) {k : Nat} (e : rv.ownBlock = some k) : n₀ ≤ k ∧ k < W.heap.size := h.row.lt k e
theorem LogBlk.ne (h : LogBlk W n₀ R D x rv) {k : Nat} (e : rv.ownBlock = some k) : k ≠ R := by
  rintro rfl
  rcases h.row.2 with ⟨h2, _⟩ | ⟨g', cap', cur, hv, _, hg, _⟩
  · rw [h2] at e; cases e
  · rw [hv] at e
    obtain rfl : g' = k := by simpa [Value.ownBlock] using e
    rw [h.blk] at hg
    simp at hg
theorem LogBlk.same (h : LogBlk W n₀ R D x rv) (hR : W'.heap[R]? = W.heap[R]?) (hr : ∀ k, rv.ownBlock = some k → W'.heap[k]? = W.heap[k]?) : LogBlk W' n₀ R D x rv :=
  ⟨h.ok, hR.trans h.blk, ownsRow_same h.row hr, h.lo⟩
theorem LogBlk.below (h : LogBlk W n₀ R D x rv) (hb : Below W.heap.size W W') : LogBlk W' n₀ R D x rv :=
  h.same (hb.block _ h.lt) fun _ e => hb.block _ (h.row_lt e).2
end

theorem below_drewN (W : World) (n : Nat) : Below W.heap.size W (W.drewN n) := ((Moves.refl (fun _ => False) W).drewN n).below (fun _ h => h.elim) (Nat.le_refl _)
section
variable {W : World} {n₀ R D : Nat} {x : LogS} {rv : Value}
theorem rroom_any (h : LogBlk W n₀ R D x rv) : Calls Try.prog 33 #[.pointer (some ⟨R, 0, none⟩)] W fun e w' => e = .returned (.int .i64 x.rr) ∧ Below W.heap.size W w' := by
  obtain ⟨c0, c1, c2, c3, c4, c5, c6, c7⟩ := h.cells
  have hle := h.ok.rr_le
  have hm : IntKind.i64.wrap ((x.sectors : Int) * (x.room : Int)) = (x.rr : Int) := by
    rw [show ((x.sectors : Int) * (x.room : Int)) = ((x.rr : Nat) : Int) by unfold LogS.rr; push_cast; rfl]
    exact IntWalk.i64_in _ (by omega)
  clear h hle
  go_enter Try.func33, Try.ntmps33
  go_wp2
  go_quiet (fail)
  go_wp2
  go_ret
  exact ⟨rfl, below_drewN W _⟩
theorem position_any (h : LogBlk W n₀ R D x rv) : Calls Try.prog 34 #[.pointer (some ⟨R, 0, none⟩)] W fun e w' => e = .returned (.int .i64 x.pos) ∧ Below W.heap.size W w' := by
  obtain ⟨c0, c1, c2, c3, c4, c5, c6, c7⟩ := h.cells
  obtain ⟨a, c, rfl⟩ := h.slice
  have hle := h.ok.rr_le
  have h2 := h.ok.sec_le
  have h3 := h.ok.pos_le
  have hm : IntKind.i64.wrap ((x.sector : Int) * (x.room : Int)) = ((x.sector * x.room : Nat) : Int) := by
    rw [show ((x.sector : Int) * (x.room : Int)) = ((x.sector * x.room : Nat) : Int) by push_cast; rfl]
    exact IntWalk.i64_in _ (by omega)
  have hm2 : IntKind.i64.wrap (((x.sector * x.room : Nat) : Int) + (x.row.length : Int)) = (x.pos : Int) := by
    rw [show (((x.sector * x.room : Nat) : Int) + (x.row.length : Int)) = ((x.pos : Nat) : Int) by unfold LogS.pos; push_cast; rfl]
    exact IntWalk.i64_in _ (by omega)
  generalize x.sector * x.room = P at hm hm2
  clear h hle h2 h3
  go_enter Try.func34, Try.ntmps34
  go_wp2
  go_quiet (fail)
  go_wp2
  go_ret
  exact ⟨rfl, below_drewN W _⟩
theorem oldest_any (h : LogBlk W n₀ R D x rv) : Calls Try.prog 16 #[.pointer (some ⟨R, 0, none⟩)] W fun e w' => e = .returned (.int .i64 x.oldest) ∧ Below W.heap.size W w' := by
  obtain ⟨c0, c1, c2, c3, c4, c5, c6, c7⟩ := h.cells
  have h1 := h.ok.r2
  have h2 := h.ok.l2
  have hm : IntKind.i64.wrap ((x.last : Int) - (x.regions : Int)) = (x.last : Int) - (x.regions : Int) := IntWalk.i64_in _ (by omega)
  have hm2 : IntKind.i64.wrap ((x.last : Int) - (x.regions : Int) + 1) = (x.last : Int) - (x.regions : Int) + 1 := IntWalk.i64_in _ (by omega)
  have HO : Hid (x.oldest = max ((x.last : Int) - x.regions + 1) 1) := rfl
  clear h h1 h2
  go_enter Try.func16, Try.ntmps16
  go_wp2
  go_quiet (fail)
  go_wp2
  all_goals go_ret
  all_goals refine ⟨?_, below_drewN W _⟩
  all_goals rw [HO.out]
  · rw [Int.max_eq_right (by omega)]; rfl
  · rw [Int.max_eq_left (by omega)]; rfl
theorem last_any (h : LogBlk W n₀ R D x rv) : Calls Try.prog 14 #[.pointer (some ⟨R, 0, none⟩)] W fun e w' => e = .returned (.int .i64 x.last) ∧ W = w' := by
  obtain ⟨c0, c1, c2, c3, c4, c5, c6, c7⟩ := h.cells
  clear h
  go_enter Try.func14, Try.ntmps14
  go_wp2
  go_ret
  exact ⟨rfl, rfl⟩
def LogS.where_ (x : LogS) : Nat := x.last * x.rr + x.pos
theorem where_any (h : LogBlk W n₀ R D x rv) (hw : x.where_ ≤ 4611686018427387904) : Calls Try.prog 20 #[.pointer (some ⟨R, 0, none⟩)] W fun e w' => e = .returned (.int .i64 x.where_) ∧ Below W.heap.size W w' := by
  obtain ⟨c0, c1, c2, c3, c4, c5, c6, c7⟩ := h.cells
  have HR := Lib.hid (fun W' (hb : Below W.heap.size W W') => rroom_any (h.below hb))
  have HP := Lib.hid (fun W' (hb : Below W.heap.size W W') => position_any (h.below hb))
  have hm : IntKind.i64.wrap ((x.last : Int) * (x.rr : Int)) = ((x.last * x.rr : Nat) : Int) := by
    have : x.last * x.rr ≤ x.where_ := Nat.le_add_right _ _
    rw [show ((x.last : Int) * (x.rr : Int)) = ((x.last * x.rr : Nat) : Int) by push_cast; rfl]
    exact IntWalk.i64_in _ (by omega)
  have hm2 : IntKind.i64.wrap (((x.last * x.rr : Nat) : Int) + (x.pos : Int)) = (x.where_ : Int) := by
    rw [show (((x.last * x.rr : Nat) : Int) + (x.pos : Int)) = ((x.where_ : Nat) : Int) by unfold LogS.where_; push_cast; rfl]
    exact IntWalk.i64_in _ (by omega)
  have HW : Hid (x.where_ = x.where_) := rfl
  generalize x.last * x.rr = P at hm hm2
  generalize x.rr = Q at hm HR
  generalize x.pos = S at hm2 HP
  clear h hw
  go_enter Try.func20, Try.ntmps20
  go_upto_region 3 with (fail)
  have q5 := after_cell c5
  refine wp_region_after (by kernel_rfl) (by kernel_rfl) ?_
  repeat (go_big_quiet_step (first
    | (go_at_call 33; with_reducible exact after_call (HR.out _ (After.h _)))
    | (go_at_call 34; with_reducible exact after_call (HP.out _ (After.h _)))))
  refine wpQuiet_nil ?_
  rintro _ ⟨p, rfl⟩
  go_wp2
  go_ret
  exact ⟨rfl, p.h⟩
/-- Is a region there? -/
def LogS.thereB (x : LogS) (q : Int) : Bool := decide (x.oldest ≤ q ∧ q ≤ x.last)
theorem there_any (h : LogBlk W n₀ R D x rv) (q : Int) : Calls Try.prog 39 #[.pointer (some ⟨R, 0, none⟩), .int .i64 q] W fun e w' => e = .returned (.bool (x.thereB q)) ∧ Below W.heap.size W w' := by
  have HOL := Lib.hid (oldest_any h)
  have HC := Lib.hid (fun W' (hb : Below W.heap.size W W') => (h.below hb).cells.2.2.2.2.2.1)
  have HT : Hid (x.thereB q = decide (x.oldest ≤ q ∧ q ≤ x.last)) := rfl
  clear h
  generalize x.oldest = o at HOL HT
  by_cases h1 : o ≤ q
  · by_cases h2 : q ≤ x.last
    · have e1 : decide (o ≤ q) = true := by simpa using h1
      have e2 : decide (q ≤ (x.last : Int)) = true := by simpa using h2
      have HE : Hid (x.thereB q = true) := by unfold Hid; rw [HT.out]; simp [h1, h2]
      clear h1 h2 HT
      go_enter Try.func39, Try.ntmps39
      go_wp2_with (go_at_call 16; (with_reducible refine HOL.out.mono ?_); rintro e w1 ⟨rfl, hb1⟩; have c5 := HC.out _ hb1; have HB := Lib.hid hb1; clear hb1)
      go_ret
      exact ⟨by rw [HE.out]; rfl, HB.out⟩
    · have e1 : decide (o ≤ q) = true := by simpa using h1
      have e2 : decide (q ≤ (x.last : Int)) = false := by simpa using h2
      have HE : Hid (x.thereB q = false) := by unfold Hid; rw [HT.out]; simp [h2]
      clear h1 h2 HT
      go_enter Try.func39, Try.ntmps39
      go_wp2_with (go_at_call 16; (with_reducible refine HOL.out.mono ?_); rintro e w1 ⟨rfl, hb1⟩; have c5 := HC.out _ hb1; have HB := Lib.hid hb1; clear hb1)
      go_ret
      exact ⟨by rw [HE.out]; rfl, HB.out⟩
  · have e1 : decide (o ≤ q) = false := by simpa using h1
    have HE : Hid (x.thereB q = false) := by unfold Hid; rw [HT.out]; simp [h1]
    clear h1 HT
    go_enter Try.func39, Try.ntmps39
    go_wp2_with (go_at_call 16; (with_reducible refine HOL.out.mono ?_); rintro e w1 ⟨rfl, hb1⟩; have HB := Lib.hid hb1; clear hb1)
    go_ret
    exact ⟨by rw [HE.out]; rfl, HB.out⟩
/-- Does a location lie in a region that is there? -/
def LogS.holdB (x : LogS) (q p n : Int) : Bool := x.thereB q && decide (0 ≤ p ∧ p ≤ x.rr ∧ 0 ≤ n ∧ n ≤ x.rr - p)
set_option maxHeartbeats 2000000 in
theorem hold_any (h : LogBlk W n₀ R D x rv) (q p n : Int) : Calls Try.prog 44 #[.pointer (some ⟨R, 0, none⟩), .agg #[.int .i64 q, .int .i64 p, .int .i64 n]] W fun e w' => e = .returned (.bool (x.holdB q p n)) ∧ Below W.heap.size W w' := by
  have hbx : Below W.heap.size W (W.alloc (.cells #[.int .i64 q, .int .i64 p, .int .i64 n] 42)) := (Below.refl _ W).alloc (Nat.le_refl _) _
  have hbk : (W.alloc (.cells #[.int .i64 q, .int .i64 p, .int .i64 n] 42)).heap[W.heap.size]? = some (.cells #[.int .i64 q, .int .i64 p, .int .i64 n] 42 (0, 0)) := heap_alloc_new _ _
  have hrr := h.ok.rr_le
  have h1 := h.below hbx
  obtain ⟨W1, hW1⟩ : ∃ W1, W.alloc (.cells #[.int .i64 q, .int .i64 p, .int .i64 n] 42) = W1 := ⟨_, rfl⟩
  rw [hW1] at hbx hbk h1
  have HW1 := Lib.hid hW1
  have HBX := Lib.hid hbx
  have HT := Lib.hid (fun W' (hb : Below W1.heap.size W1 W') => there_any (h1.below hb) q)
  have HR := Lib.hid (fun W' (hb : Below W1.heap.size W1 W') => rroom_any (h1.below hb))
  have l0 : W1.cell? ⟨W.heap.size, 0, none⟩ = some (.int .i64 q) := blk_cell hbk 0
  have l1 : W1.cell? ⟨W.heap.size, 1, none⟩ = some (.int .i64 p) := blk_cell hbk 1
  have l2 : W1.cell? ⟨W.heap.size, 2, none⟩ = some (.int .i64 n) := blk_cell hbk 2
  have HB : Hid (x.holdB q p n = (x.thereB q && decide (0 ≤ p ∧ p ≤ x.rr ∧ 0 ≤ n ∧ n ≤ x.rr - p))) := rfl
  clear h h1 hbx hbk hW1
  generalize x.thereB q = t at HT HB
  generalize x.rr = r at HR HB hrr
  have hc : (t = false) ∨ (t = true ∧ ¬ 0 ≤ p) ∨ (t = true ∧ 0 ≤ p ∧ ¬ p ≤ r) ∨ (t = true ∧ 0 ≤ p ∧ p ≤ r ∧ ¬ 0 ≤ n) ∨ (t = true ∧ 0 ≤ p ∧ p ≤ r ∧ 0 ≤ n ∧ ¬ n ≤ r - p) ∨ (t = true ∧ 0 ≤ p ∧ p ≤ r ∧ 0 ≤ n ∧ n ≤ r - p) := by
    cases t <;> simp <;> omega
  rcases hc with hc | ⟨rfl, hc⟩ | ⟨rfl, k1, hc⟩ | ⟨rfl, k1, k2, hc⟩ | ⟨rfl, k1, k2, k3, hc⟩ | ⟨rfl, k1, k2, k3, k4⟩
  · subst hc
    have HE : Hid (x.holdB q p n = false) := by unfold Hid; rw [HB.out]; simp
    clear HB hrr
    go_enter Try.func44, Try.ntmps44
    go_upto_region 1 with (fail)
    rw [HW1.out]
    have q0 := after_cell l0
    have q1 := after_cell l1
    have q2 := after_cell l2
    refine wp_region_after (by kernel_rfl) (by kernel_rfl) ?_
    repeat (go_big_quiet_step (first | (go_at_call 39; with_reducible exact after_call (HT.out _ (After.h _))) | (go_at_call 33; with_reducible exact after_call (HR.out _ (After.h _)))))
    refine wpQuiet_nil ?_
    rintro _ ⟨pp, rfl⟩
    go_wp2
    go_ret
    exact ⟨by rw [HE.out]; rfl, HBX.out.trans (pp.h.mono HBX.out.size)⟩
  · have d1 : decide (0 ≤ p) = false := by simpa using hc
    have HE : Hid (x.holdB q p n = false) := by unfold Hid; rw [HB.out]; simp [hc]
    clear HB hrr hc
    go_enter Try.func44, Try.ntmps44
    go_upto_region 1 with (fail)
    rw [HW1.out]
    have q0 := after_cell l0
    have q1 := after_cell l1
    have q2 := after_cell l2
    refine wp_region_after (by kernel_rfl) (by kernel_rfl) ?_
    repeat (go_big_quiet_step (first | (go_at_call 39; with_reducible exact after_call (HT.out _ (After.h _))) | (go_at_call 33; with_reducible exact after_call (HR.out _ (After.h _)))))
    refine wpQuiet_nil ?_
    rintro _ ⟨pp, rfl⟩
    go_wp2
    go_ret
    exact ⟨by rw [HE.out]; rfl, HBX.out.trans (pp.h.mono HBX.out.size)⟩
  · have d1 : decide (0 ≤ p) = true := by simpa using k1
    have d2 : decide (p ≤ (r : Int)) = false := by simpa using hc
    have HE : Hid (x.holdB q p n = false) := by unfold Hid; rw [HB.out]; simp [hc]
    clear HB hrr k1 hc
    go_enter Try.func44, Try.ntmps44
    go_upto_region 1 with (fail)
    rw [HW1.out]
    have q0 := after_cell l0
    have q1 := after_cell l1
    have q2 := after_cell l2
    refine wp_region_after (by kernel_rfl) (by kernel_rfl) ?_
    repeat (go_big_quiet_step (first | (go_at_call 39; with_reducible exact after_call (HT.out _ (After.h _))) | (go_at_call 33; with_reducible exact after_call (HR.out _ (After.h _)))))
    refine wpQuiet_nil ?_
    rintro _ ⟨pp, rfl⟩
    go_wp2
    go_ret
    exact ⟨by rw [HE.out]; rfl, HBX.out.trans (pp.h.mono HBX.out.size)⟩
  · have d1 : decide (0 ≤ p) = true := by simpa using k1
    have d2 : decide (p ≤ (r : Int)) = true := by simpa using k2
    have d3 : decide (0 ≤ n) = false := by simpa using hc
    have HE : Hid (x.holdB q p n = false) := by unfold Hid; rw [HB.out]; simp [hc]
    clear HB hrr k1 k2 hc
    go_enter Try.func44, Try.ntmps44
    go_upto_region 1 with (fail)
    rw [HW1.out]
    have q0 := after_cell l0
    have q1 := after_cell l1
    have q2 := after_cell l2
    refine wp_region_after (by kernel_rfl) (by kernel_rfl) ?_
    repeat (go_big_quiet_step (first | (go_at_call 39; with_reducible exact after_call (HT.out _ (After.h _))) | (go_at_call 33; with_reducible exact after_call (HR.out _ (After.h _)))))
    refine wpQuiet_nil ?_
    rintro _ ⟨pp, rfl⟩
    go_wp2
    go_ret
    exact ⟨by rw [HE.out]; rfl, HBX.out.trans (pp.h.mono HBX.out.size)⟩
  · have d1 : decide (0 ≤ p) = true := by simpa using k1
    have d2 : decide (p ≤ (r : Int)) = true := by simpa using k2
    have d3 : decide (0 ≤ n) = true := by simpa using k3
    have hw : IntKind.i64.wrap ((r : Int) - p) = (r : Int) - p := IntWalk.i64_in _ (by omega)
    have d4 : decide (n ≤ (r : Int) - p) = false := by simpa using hc
    have HE : Hid (x.holdB q p n = false) := by unfold Hid; rw [HB.out]; simp [hc]
    clear HB hrr k1 k2 k3 hc
    go_enter Try.func44, Try.ntmps44
    go_upto_region 1 with (fail)
    rw [HW1.out]
    have q0 := after_cell l0
    have q1 := after_cell l1
    have q2 := after_cell l2
    refine wp_region_after (by kernel_rfl) (by kernel_rfl) ?_
    repeat (go_big_quiet_step (first | (go_at_call 39; with_reducible exact after_call (HT.out _ (After.h _))) | (go_at_call 33; with_reducible exact after_call (HR.out _ (After.h _)))))
    refine wpQuiet_nil ?_
    rintro _ ⟨pp, rfl⟩
    go_wp2
    go_ret
    exact ⟨by rw [HE.out]; rfl, HBX.out.trans (pp.h.mono HBX.out.size)⟩
  · have d1 : decide (0 ≤ p) = true := by simpa using k1
    have d2 : decide (p ≤ (r : Int)) = true := by simpa using k2
    have d3 : decide (0 ≤ n) = true := by simpa using k3
    have hw : IntKind.i64.wrap ((r : Int) - p) = (r : Int) - p := IntWalk.i64_in _ (by omega)
    have d4 : decide (n ≤ (r : Int) - p) = true := by simpa using k4
    have HE : Hid (x.holdB q p n = true) := by unfold Hid; rw [HB.out]; simp [k1, k2, k3, k4]
    clear HB hrr k1 k2 k3 k4
    go_enter Try.func44, Try.ntmps44
    go_upto_region 1 with (fail)
    rw [HW1.out]
    have q0 := after_cell l0
    have q1 := after_cell l1
    have q2 := after_cell l2
    refine wp_region_after (by kernel_rfl) (by kernel_rfl) ?_
    repeat (go_big_quiet_step (first | (go_at_call 39; with_reducible exact after_call (HT.out _ (After.h _))) | (go_at_call 33; with_reducible exact after_call (HR.out _ (After.h _)))))
    refine wpQuiet_nil ?_
    rintro _ ⟨pp, rfl⟩
    go_wp2
    go_ret
    exact ⟨by rw [HE.out]; rfl, HBX.out.trans (pp.h.mono HBX.out.size)⟩
end
end Go.Proofs.Ytiddfilhfdkogaa

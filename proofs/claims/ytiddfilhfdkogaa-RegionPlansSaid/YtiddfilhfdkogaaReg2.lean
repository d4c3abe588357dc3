/-
  region: place, isUnderWay, filled.
  Conditions: none.
-/
import Derived.Test.YtiddfilhfdkogaaReg1
import Derived.Laws.MakeOwn
import Derived.Laws.CopyOwn
import Derived.Laws.CopyRow
namespace Go.Proofs.Ytiddfilhfdkogaa
open Go.RowKit

/-- A piece's cells. -/
def pieceC (q p n s : Int) : Array Value := #[.int .i64 q, .int .i64 p, .int .i64 n, .int .i64 s]
section
variable {W : World} {n₀ R D : Nat} {x : LogS} {rv : Value}
/-- Where a region's sector lies among all. -/
def LogS.place (x : LogS) (q s : Nat) : Nat := q % x.regions * x.sectors + s
theorem LogS.Ok.place_lt {x : LogS} (h : x.Ok) (q : Nat) {s : Nat} (hs : s < x.sectors) : x.place q s < x.regions * x.sectors := by
  unfold LogS.place
  have h1 : q % x.regions < x.regions := Nat.mod_lt _ h.r1
  have h2 : (q % x.regions + 1) * x.sectors ≤ x.regions * x.sectors := Nat.mul_le_mul_right _ h1
  rw [Nat.add_mul, Nat.one_mul] at h2
  omega
theorem LogS.Ok.place_le {x : LogS} (h : x.Ok) (q : Nat) {s : Nat} (hs : s ≤ x.sectors) : q % x.regions * x.sectors ≤ 16384 ∧ x.place q s ≤ 16384 := by
  unfold LogS.place
  have h1 : q % x.regions < x.regions := Nat.mod_lt _ h.r1
  have h2 : (q % x.regions + 1) * x.sectors ≤ x.regions * x.sectors := Nat.mul_le_mul_right _ h1
  rw [Nat.add_mul, Nat.one_mul] at h2
  have := h.tot
  omega
set_option maxHeartbeats 1000000 in
theorem place_any (h : LogBlk W n₀ R D x rv) (q s : Nat) (p n : Int) (hs : s ≤ x.sectors) : Calls Try.prog 54 #[.pointer (some ⟨R, 0, none⟩), .agg #[.int .i64 q, .int .i64 p, .int .i64 n, .int .i64 s]] W fun e w' => e = .returned (.int .i64 (x.place q s)) ∧ Below W.heap.size W w' := by
  obtain ⟨hp1, hp2⟩ := h.ok.place_le q hs
  have hr1 := h.ok.r1
  have hbx : Below W.heap.size W (W.alloc (.cells #[.int .i64 q, .int .i64 p, .int .i64 n, .int .i64 s] 88)) := (Below.refl _ W).alloc (Nat.le_refl _) _
  have hbk : (W.alloc (.cells #[.int .i64 q, .int .i64 p, .int .i64 n, .int .i64 s] 88)).heap[W.heap.size]? = some (.cells #[.int .i64 q, .int .i64 p, .int .i64 n, .int .i64 s] 88 (0, 0)) := heap_alloc_new _ _
  obtain ⟨c0, c1, c2, c3, c4, c5, c6, c7⟩ := (h.below hbx).cells
  obtain ⟨W1, hW1⟩ : ∃ W1, W.alloc (.cells #[.int .i64 q, .int .i64 p, .int .i64 n, .int .i64 s] 88) = W1 := ⟨_, rfl⟩
  rw [hW1] at hbx hbk c0 c1 c2 c3 c4 c5 c6 c7
  have l0 : W1.cell? ⟨W.heap.size, 0, none⟩ = some (.int .i64 q) := blk_cell hbk 0
  have l3 : W1.cell? ⟨W.heap.size, 3, none⟩ = some (.int .i64 s) := blk_cell hbk 3
  have e1 : (q : Int) % (x.regions : Int) = ((q % x.regions : Nat) : Int) := by push_cast; rfl
  have hm : IntKind.i64.wrap (((q % x.regions : Nat) : Int) * (x.sectors : Int)) = ((q % x.regions * x.sectors : Nat) : Int) := by
    rw [show (((q % x.regions : Nat) : Int) * (x.sectors : Int)) = ((q % x.regions * x.sectors : Nat) : Int) by push_cast; rfl]
    exact IntWalk.i64_in _ (by omega)
  have hm2 : IntKind.i64.wrap (((q % x.regions * x.sectors : Nat) : Int) + (s : Int)) = (x.place q s : Int) := by
    rw [show (((q % x.regions * x.sectors : Nat) : Int) + (s : Int)) = ((x.place q s : Nat) : Int) by unfold LogS.place; push_cast; rfl]
    exact IntWalk.i64_in _ (by omega)
  have hne : ((x.regions : Int) == 0) = false := by simp; omega
  have r1 : (1 : Int) ≤ x.regions := by omega
  have HW1 := Lib.hid hW1
  have HBX := Lib.hid hbx
  generalize x.place q s = pl at hm2 hp2 ⊢
  generalize q % x.regions * x.sectors = pm at hm hm2 hp1
  generalize q % x.regions = m at e1 hm
  clear h hbx hbk hW1 hs hp1 hp2
  go_enter Try.func54, Try.ntmps54
  go_upto_region 1 with (fail)
  rw [HW1.out]
  go_quiet (fail)
  go_wp2
  go_ret
  exact ⟨rfl, HBX.out.trans ((below_drewN W1 _).mono HBX.out.size)⟩
/-- Is a piece of the sector under way? -/
def LogS.wayB (x : LogS) (q s : Int) : Bool := q == x.last && s == x.sector
set_option maxHeartbeats 1000000 in
theorem way_any (h : LogBlk W n₀ R D x rv) (q p n s : Int) : Calls Try.prog 40 #[.pointer (some ⟨R, 0, none⟩), .agg #[.int .i64 q, .int .i64 p, .int .i64 n, .int .i64 s]] W fun e w' => e = .returned (.bool (x.wayB q s)) ∧ Below W.heap.size W w' := by
  have hbx : Below W.heap.size W (W.alloc (.cells #[.int .i64 q, .int .i64 p, .int .i64 n, .int .i64 s] 88)) := (Below.refl _ W).alloc (Nat.le_refl _) _
  have hbk : (W.alloc (.cells #[.int .i64 q, .int .i64 p, .int .i64 n, .int .i64 s] 88)).heap[W.heap.size]? = some (.cells #[.int .i64 q, .int .i64 p, .int .i64 n, .int .i64 s] 88 (0, 0)) := heap_alloc_new _ _
  obtain ⟨c0, c1, c2, c3, c4, c5, c6, c7⟩ := (h.below hbx).cells
  obtain ⟨W1, hW1⟩ : ∃ W1, W.alloc (.cells #[.int .i64 q, .int .i64 p, .int .i64 n, .int .i64 s] 88) = W1 := ⟨_, rfl⟩
  rw [hW1] at hbx hbk c0 c1 c2 c3 c4 c5 c6 c7
  have l0 : W1.cell? ⟨W.heap.size, 0, none⟩ = some (.int .i64 q) := blk_cell hbk 0
  have l3 : W1.cell? ⟨W.heap.size, 3, none⟩ = some (.int .i64 s) := blk_cell hbk 3
  have HW1 := Lib.hid hW1
  have HBX := Lib.hid hbx
  have HB : Hid (x.wayB q s = (q == (x.last : Int) && s == (x.sector : Int))) := rfl
  clear h hbx hbk hW1
  cases e1 : (q == (x.last : Int)) with
  | true =>
    have HE : Hid (x.wayB q s = (s == (x.sector : Int))) := by unfold Hid; rw [HB.out, e1]; rfl
    clear HB
    go_enter Try.func40, Try.ntmps40
    go_upto_region 1 with (fail)
    rw [HW1.out]
    have q0 := after_cell l0
    have q3 := after_cell l3
    have q5 := after_cell c5
    have q6 := after_cell c6
    refine wp_region_after (by kernel_rfl) (by kernel_rfl) ?_
    repeat (go_big_quiet_step (fail))
    refine wpQuiet_nil ?_
    rintro _ ⟨pp, rfl⟩
    go_wp2
    go_ret
    exact ⟨by rw [HE.out]; rfl, HBX.out.trans (pp.h.mono HBX.out.size)⟩
  | false =>
    have HE : Hid (x.wayB q s = false) := by unfold Hid; rw [HB.out, e1]; rfl
    clear HB
    go_enter Try.func40, Try.ntmps40
    go_upto_region 1 with (fail)
    rw [HW1.out]
    have q0 := after_cell l0
    have q3 := after_cell l3
    have q5 := after_cell c5
    have q6 := after_cell c6
    refine wp_region_after (by kernel_rfl) (by kernel_rfl) ?_
    repeat (go_big_quiet_step (fail))
    refine wpQuiet_nil ?_
    rintro _ ⟨pp, rfl⟩
    go_wp2
    go_ret
    exact ⟨by rw [HE.out]; rfl, HBX.out.trans (pp.h.mono HBX.out.size)⟩
end
end Go.Proofs.Ytiddfilhfdkogaa

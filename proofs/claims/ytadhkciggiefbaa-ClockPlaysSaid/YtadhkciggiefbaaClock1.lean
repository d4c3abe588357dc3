/-
  clock.Clock[int]: in memory; New, Look, Len, Room, next, for any state of the clock.
  Conditions: none.
-/
import Derived.Test.YtadhkciggiefbaaClockMath
import Derived.Test.YtadhkciggiefbaaMoves
import Derived.Test.YtadhkciggiefbaaRows
import Derived.WalkKit
import Derived.IntWalk
import Derived.StillTailTactics
import Derived.Deep.QuietTactic
import Derived.BigQuiet
import Derived.Outline
import Derived.Deep.DeepCutAuto
import Derived.Laws.Rows
import Derived.Laws.Tables
import Derived.Deep.LoopGhost
namespace Go.Proofs.Ytadhkciggiefbaa
open Go.RowKit

def zeroI : Value := .int .i64 0
def plCells (ps : List Pl) : List Value := ps.flatMap fun p => [.bool p.full, .bool p.marked, .int .i64 p.key, p.thing]
theorem plCells_len (ps : List Pl) : (plCells ps).length = ps.length * 4 := by
  induction ps with
  | nil => rfl
  | cons p ps ih => simp only [plCells, List.flatMap_cons, List.length_append, List.length_cons, List.length_nil] at ih ⊢; omega
theorem plCells_get : ∀ (ps : List Pl) (i : Nat) (p : Pl), ps[i]? = some p → (plCells ps)[i * 4]? = some (.bool p.full) ∧ (plCells ps)[i * 4 + 1]? = some (.bool p.marked) ∧ (plCells ps)[i * 4 + 2]? = some (.int .i64 p.key) ∧ (plCells ps)[i * 4 + 3]? = some p.thing
  | [], i, p, h => by simp at h
  | a :: ps, 0, p, h => by
    have e : a = p := by simpa using h
    subst e
    simp [plCells]
  | a :: ps, i + 1, p, h => by
    have ih := plCells_get ps i p (by simpa using h)
    have e : plCells (a :: ps) = .bool a.full :: .bool a.marked :: .int .i64 a.key :: a.thing :: plCells ps := by simp [plCells]
    rw [e, show (i + 1) * 4 = i * 4 + 4 by omega, show i * 4 + 4 + 1 = (i * 4 + 1) + 4 by omega, show i * 4 + 4 + 2 = (i * 4 + 2) + 4 by omega, show i * 4 + 4 + 3 = (i * 4 + 3) + 4 by omega]
    simpa using ih
theorem things_set {Q : Value → Prop} {ps : List Pl} {i : Nat} {q : Pl} (h : ∀ p ∈ ps, Q p.thing) (hq : Q q.thing) : ∀ p ∈ ps.set i q, Q p.thing := by
  intro p hp
  rcases List.mem_or_eq_of_mem_set hp with h1 | h1
  · exact h p h1
  · rw [h1]; exact hq
/-- A clock in memory: its block C, the places' block g, the map's M. -/
structure ClockAt (n₀ : Nat) (w : World) (C g M : Nat) (s : Ck) : Prop where
  ok : s.Ok
  blk : w.heap[C]? = some (.cells #[.slice (some ⟨g, 0, none⟩) s.ps.length s.ps.length, .map (some M), .int .i64 s.hand] 52 (0, 0))
  row : w.heap[g]? = some (.cells (plCells s.ps).toArray 56 (0, 0))
  map : MapIs w M s.m
  lo : n₀ ≤ C ∧ n₀ ≤ g ∧ n₀ ≤ M
  things : ∀ p ∈ s.ps, ∃ t, p.thing = .int .i64 t
theorem ClockAt.ne {n₀ : Nat} {w : World} {C g M : Nat} {s : Ck} (h : ClockAt n₀ w C g M s) : g ≠ C ∧ g ≠ M ∧ C ≠ M := by
  obtain ⟨_, es, c, hm, _⟩ := h.map
  refine ⟨fun e => ?_, fun e => ?_, fun e => ?_⟩
  · have h1 := h.row
    rw [e, h.blk] at h1
    simp at h1
  · rw [← e, h.row] at hm; cases hm
  · rw [← e, h.blk] at hm; cases hm
theorem ClockAt.lt {n₀ : Nat} {w : World} {C g M : Nat} {s : Ck} (h : ClockAt n₀ w C g M s) : C < w.heap.size ∧ g < w.heap.size ∧ M < w.heap.size := ⟨blk_lt h.blk, blk_lt h.row, h.map.lt⟩
theorem ClockAt.same {n₀ : Nat} {w w' : World} {C g M : Nat} {s : Ck} (h : ClockAt n₀ w C g M s) (hb : Below w.heap.size w w') : ClockAt n₀ w' C g M s :=
  ⟨h.ok, (hb.block C h.lt.1).trans h.blk, (hb.block g h.lt.2.1).trans h.row, h.map.same (hb.block M h.lt.2.2), h.lo, h.things⟩
theorem ClockAt.drewN {n₀ : Nat} {w : World} {C g M : Nat} {s : Ck} (h : ClockAt n₀ w C g M s) (k : Nat) : ClockAt n₀ (w.drewN k) C g M s := ⟨h.ok, h.blk, h.row, h.map, h.lo, h.things⟩
theorem ClockAt.cells {n₀ : Nat} {w : World} {C g M : Nat} {s : Ck} (h : ClockAt n₀ w C g M s) : w.cell? ⟨C, 0, none⟩ = some (.slice (some ⟨g, 0, none⟩) s.ps.length s.ps.length) ∧ w.cell? ⟨C, 1, none⟩ = some (.map (some M)) ∧ w.cell? ⟨C, 2, none⟩ = some (.int .i64 s.hand) :=
  ⟨blk_cell h.blk 0, blk_cell h.blk 1, blk_cell h.blk 2⟩
theorem ClockAt.place {n₀ : Nat} {w : World} {C g M : Nat} {s : Ck} (h : ClockAt n₀ w C g M s) {i : Nat} {p : Pl} (hp : s.ps[i]? = some p) : w.cell? ⟨g, i * 4, none⟩ = some (.bool p.full) ∧ w.cell? ⟨g, i * 4 + 1, none⟩ = some (.bool p.marked) ∧ w.cell? ⟨g, i * 4 + 2, none⟩ = some (.int .i64 p.key) ∧ w.cell? ⟨g, i * 4 + 3, none⟩ = some p.thing := by
  obtain ⟨a, b, c, d⟩ := plCells_get s.ps i p hp
  refine ⟨?_, ?_, ?_, ?_⟩
  · rw [blk_cell h.row]; simpa using a
  · rw [blk_cell h.row]; simpa using b
  · rw [blk_cell h.row]; simpa using c
  · rw [blk_cell h.row]; simpa using d

theorem run_len_int {P : Program} {w : World} {t K E : TypeId} (ht : P.underlying t = some (.map K E)) {b : Nat} {m : List (Int × Value)} (hm : MapIs w b m) (ty : TypeId) : (Builtin.len_ #[t] ty #[.map (some b)]).run P w = .ok (.int .i64 m.length) w := by
  obtain ⟨_, es, c, hb, he⟩ := hm
  have hl : es.size = m.length := by
    have := congrArg List.length he
    simpa using this
  simp [Builtin.len_, run_underlying ht, Go.MapKept.run_getObj_map hb, hl, goInt]
/-- What Look answers. -/
def lookRes (z : Value) (s : Ck) (key : Int) : Value :=
  match s.at key with
  | some i => .tuple #[(s.ps[i]?.getD default).thing, .bool true]
  | none => .tuple #[z, .bool false]
theorem look_nil (key : Int) (w : World) : Calls Try.prog 9 #[.pointer none, .int .i64 key] w fun e w' => e = .returned (.tuple #[zeroI, .bool false]) ∧ w = w' := by
  unfold zeroI
  go_enter Try.func9, Try.ntmps9
  go_wp2
  go_ret2
  exact ⟨rfl, rfl⟩
theorem len_nil (w : World) : Calls Try.prog 15 #[.pointer none] w fun e w' => e = .returned (.int .i64 0) ∧ w = w' := by
  go_enter Try.func15, Try.ntmps15
  go_wp2
  go_ret
  exact ⟨rfl, rfl⟩
theorem room_nil (w : World) : Calls Try.prog 5 #[.pointer none] w fun e w' => e = .returned (.int .i64 0) ∧ w = w' := by
  go_enter Try.func5, Try.ntmps5
  go_wp2
  go_ret
  exact ⟨rfl, rfl⟩
theorem room_any {n₀ : Nat} {w : World} {C g M : Nat} {s : Ck} (h : ClockAt n₀ w C g M s) : Calls Try.prog 5 #[.pointer (some ⟨C, 0, none⟩)] w fun e w' => e = .returned (.int .i64 s.ps.length) ∧ w = w' := by
  obtain ⟨c0, c1, c2⟩ := h.cells
  have hl : (s.ps.length : Int) ≤ 4096 := by have := h.ok.n2; omega
  clear h c1 c2
  go_enter Try.func5, Try.ntmps5
  go_wp2
  go_ret
  exact ⟨rfl, rfl⟩
theorem next_any {n₀ : Nat} {w : World} {C g M : Nat} {s : Ck} (h : ClockAt n₀ w C g M s) (i : Nat) (hi : i < s.ps.length) : Calls Try.prog 24 #[.pointer (some ⟨C, 0, none⟩), .int .i64 i] w fun e w' => e = .returned (.int .i64 (((i + 1) % s.ps.length : Nat) : Int)) ∧ w' = w := by
  obtain ⟨c0, c1, c2⟩ := h.cells
  have hl : (s.ps.length : Int) ≤ 4096 := by have := h.ok.n2; omega
  have hl1 : (1 : Int) ≤ s.ps.length := by have := h.ok.n1; omega
  have hi1 : (i : Int) < s.ps.length := by omega
  have HM : Hid (((i : Int) + 1) % (s.ps.length : Int) = (((i + 1) % s.ps.length : Nat) : Int)) := by unfold Hid; push_cast; rfl
  clear h c1 c2
  go_enter Try.func24, Try.ntmps24
  go_wp2
  go_ret
  exact ⟨by rw [← HM.out]; rfl, rfl⟩
set_option maxHeartbeats 1000000 in
theorem len_any {n₀ : Nat} {w : World} {C g M : Nat} {s : Ck} (h : ClockAt n₀ w C g M s) : Calls Try.prog 15 #[.pointer (some ⟨C, 0, none⟩)] w fun e w' => e = .returned (.int .i64 s.m.length) ∧ w = w' := by
  obtain ⟨c0, c1, c2⟩ := h.cells
  have hl := fun W (hw : W = w) ty => run_len_int (P := Try.prog) (w := w) Try.underlying50 h.map ty
  have hl2 := hl w rfl
  clear h c0 c2 hl
  go_enter Try.func15, Try.ntmps15
  go_wp2
  go_ret
  exact ⟨rfl, rfl⟩
theorem at_data {n₀ : Nat} {w : World} {C g M : Nat} {s : Ck} (h : ClockAt n₀ w C g M s) (key : Int) (W : World) (hW : W.heap[M]? = w.heap[M]?) (ok : Bool) :
    (Instr.lookup 50 (.map (some M)) (.int .i64 key) ok).run Try.prog W = .ok (if ok then .tuple #[.int .i64 ((s.at key).getD 0 : Nat), .bool (s.at key).isSome] else .int .i64 ((s.at key).getD 0 : Nat)) W := by
  have := run_lookup_int (P := Try.prog) (w := W) Try.underlying50 Try.underlying3 (h.map.same hW) key (.int .i64 0) (by kernel_rfl) ok
  rw [this, h.ok.map key]
  cases s.at key <;> simp
set_option maxHeartbeats 1000000 in
theorem look_any {n₀ : Nat} {w : World} {C g M : Nat} {s : Ck} (h : ClockAt n₀ w C g M s) (key : Int) : Calls Try.prog 9 #[.pointer (some ⟨C, 0, none⟩), .int .i64 key] w fun e w' => e = .returned (lookRes zeroI s key) ∧ w = w' := by
  obtain ⟨c0, c1, c2⟩ := h.cells
  have hd := at_data h key w rfl true
  simp only [if_true] at hd
  unfold lookRes zeroI
  cases hat : s.at key with
  | none =>
    rw [hat] at hd
    simp only [Option.getD_none, Option.isSome_none] at hd
    clear h c0 c2 hat
    go_enter Try.func9, Try.ntmps9
    go_wp2
    go_ret2
    exact ⟨rfl, rfl⟩
  | some i =>
    rw [hat] at hd
    simp only [Option.getD_some, Option.isSome_some] at hd
    obtain ⟨p, hp, fp, kp⟩ := at_some hat
    obtain ⟨d0, d1, d2, d3⟩ := h.place hp
    have hi : (i : Int) < s.ps.length := by have := at_lt hat; omega
    have hl : (s.ps.length : Int) ≤ 4096 := by have := h.ok.n2; omega
    have HR : Hid (s.ps[i]?.getD default = p) := by unfold Hid; rw [hp]; rfl
    clear h c2 hat hp fp kp d0 d1 d2
    go_enter Try.func9, Try.ntmps9
    go_wp2
    go_ret2
    exact ⟨by show _ = Ending.returned (.tuple #[(s.ps[i]?.getD default).thing, .bool true]); rw [HR.out]; rfl, rfl⟩
end Go.Proofs.Ytadhkciggiefbaa

/-
  leaf.Room, plan.met, plan.lay.
  Conditions: none.
-/
import Derived.Test.YthdclndpckojcaaMem
import Derived.WalkKit
import Derived.IntWalk
import Derived.Outline
namespace Go.Proofs.Ythdclndpckojcaa
open Go.RowKit

theorem isSize_any (n : Int) (w : World) : Calls Try.prog 29 #[.int .i64 n] w fun e w' => e = .returned (.bool (decide (96 ≤ n ∧ n ≤ 512))) ∧ w = w' := by
  by_cases h0 : 96 ≤ n
  · by_cases h1 : n ≤ 512
    · have HE : Hid (decide (96 ≤ n ∧ n ≤ 512) = true) := by unfold Hid; simp [h0, h1]
      go_enter Try.func29, Try.ntmps29
      go_wp2
      go_ret
      first | exact ⟨rfl, rfl⟩ | exact ⟨by rw [HE.out]; rfl, rfl⟩
    · have HE : Hid (decide (96 ≤ n ∧ n ≤ 512) = false) := by unfold Hid; simp [h1]
      have e1 : decide (n ≤ 512) = false := by simpa using h1
      go_enter Try.func29, Try.ntmps29
      go_wp2
      go_ret
      first | exact ⟨rfl, rfl⟩ | exact ⟨by rw [HE.out]; rfl, rfl⟩
  · have HE : Hid (decide (96 ≤ n ∧ n ≤ 512) = false) := by unfold Hid; simp [h0]
    have e1 : decide (96 ≤ n) = false := by simpa using h0
    go_enter Try.func29, Try.ntmps29
    go_wp2
    go_ret
    first | exact ⟨rfl, rfl⟩ | exact ⟨by rw [HE.out]; rfl, rfl⟩
theorem room_yes (n : Int) (h : 96 ≤ n ∧ n ≤ 512) (w : World) : Calls Try.prog 23 #[.int .i64 n] w fun e w' => e = .returned (.int .i64 (n - 19)) ∧ w = w' := by
  have hs := isSize_any n w
  rw [show decide (96 ≤ n ∧ n ≤ 512) = true by simpa using h] at hs
  have HS := Lib.hid hs
  obtain ⟨h0, h1⟩ := h
  clear hs
  go_enter Try.func23, Try.ntmps23
  go_wp2_with (go_at_call 29; (with_reducible refine HS.out.mono ?_); rintro e w' ⟨rfl, rfl⟩)
  go_ret
  exact ⟨rfl, rfl⟩

/-- A bound: a number, the least, the most. -/
structure Bnd where
  n : Int
  lo : Int
  hi : Int
instance : Inhabited Bnd := ⟨⟨0, 0, 0⟩⟩
def Bnd.ok (b : Bnd) : Bool := decide (b.lo ≤ b.n ∧ b.n ≤ b.hi)
def Bnd.cells (b : Bnd) : List Value := [.int .i64 b.n, .int .i64 b.lo, .int .i64 b.hi]
def bndCells (l : List Bnd) : List Value := l.flatMap Bnd.cells
theorem bnd_get : ∀ (l : List Bnd) (k : Nat), k < l.length → (bndCells l)[k * 3]? = some (.int .i64 (l[k]?.getD default).n) ∧ (bndCells l)[k * 3 + 1]? = some (.int .i64 (l[k]?.getD default).lo) ∧ (bndCells l)[k * 3 + 2]? = some (.int .i64 (l[k]?.getD default).hi)
  | [], k, h => by simp at h
  | b :: l, 0, _ => by simp [bndCells, Bnd.cells]
  | b :: l, k + 1, h => by
    have := bnd_get l k (by simpa using h)
    have e : bndCells (b :: l) = .int .i64 b.n :: .int .i64 b.lo :: .int .i64 b.hi :: bndCells l := by simp [bndCells, Bnd.cells]
    rw [e, show (k + 1) * 3 = k * 3 + 3 by omega, show k * 3 + 3 + 1 = (k * 3 + 1) + 3 by omega, show k * 3 + 3 + 2 = (k * 3 + 2) + 3 by omega]
    simpa using this

set_option maxHeartbeats 1000000 in
theorem met_any (l : List Bnd) (g : Nat) (t : TypeId) (w : World) (hl : l.length ≤ 100) (hg : w.heap[g]? = some (.cells (bndCells l).toArray t (0, 0))) :
    Calls Try.prog 13 #[.slice (some ⟨g, 0, none⟩) l.length l.length] w fun e w' => e = .returned (.bool (l.all Bnd.ok)) ∧ Below w.heap.size w w' := by
  have l1 : (l.length : Int) ≤ 100 := by omega
  have hlt := blk_lt hg
  have HG := Lib.hid hg
  clear hg
  go_enter Try.func13, Try.ntmps13
  go_wp2
  go_step3
  go_wp2
  go_step3
  go_wp2
  go_loopw [3, 8] (fun av iv wr => ∃ k : Nat, k ≤ l.length ∧ iv = .int .i64 k ∧ av = .bool true ∧ (∀ j, j < k → (l[j]?.getD default).ok = true) ∧ Below w.heap.size w wr) (fun _ iv _ => l.length - (intOf iv).toNat)
  case atStart => exact ⟨0, Nat.zero_le _, rfl, rfl, fun j hj => absurd hj (by omega), Below.refl _ _⟩
  case round =>
    obtain ⟨k, hk, rfl, rfl, hno, hB⟩ := hrel
    by_cases hkl : k < l.length
    · have hgr := (hB.block g hlt).trans HG.out
      obtain ⟨e0, e1, e2⟩ := bnd_get l k hkl
      have q0 : wr.cell? ⟨g, k * 3, none⟩ = some (.int .i64 (l[k]?.getD default).n) := by rw [blk_cell hgr]; simpa using e0
      have q1 : wr.cell? ⟨g, k * 3 + 1, none⟩ = some (.int .i64 (l[k]?.getD default).lo) := by rw [blk_cell hgr]; simpa using e1
      have q2 : wr.cell? ⟨g, k * 3 + 2, none⟩ = some (.int .i64 (l[k]?.getD default).hi) := by rw [blk_cell hgr]; simpa using e2
      have k0 : (0 : Int) ≤ k := by omega
      have k1 : (k : Int) < l.length := by omega
      have hmem : (l[k]?.getD default) ∈ l := by simp [hkl]
      have hfalse : (l[k]?.getD default).ok = false → Hid (l.all Bnd.ok = false) := fun h => by
        unfold Hid
        rw [List.all_eq_false]
        exact ⟨_, hmem, by simp [h]⟩
      obtain ⟨x, hx⟩ : ∃ x, l[k]?.getD default = x := ⟨_, rfl⟩
      rw [hx] at q0 q1 q2 hfalse
      have HX := Lib.hid hx
      have HN := Lib.hid hno
      have HB := Lib.hid hB
      clear hgr e0 e1 e2 hmem hx hno hB
      by_cases c1 : x.n < x.lo
      · have HF := hfalse (by unfold Bnd.ok; simp; omega)
        clear hfalse
        go_wp2
        (try rw [Exit.noGoto_ret])
        go_ret
        exact ⟨by rw [HF.out]; rfl, HB.out.alloc HB.out.size _⟩
      · have c1' : x.lo ≤ x.n := by omega
        by_cases c2 : x.hi < x.n
        · have HF := hfalse (by unfold Bnd.ok; simp; omega)
          clear hfalse c1
          go_wp2
          (try rw [Exit.noGoto_ret])
          go_ret
          exact ⟨by rw [HF.out]; rfl, HB.out.alloc HB.out.size _⟩
        · have c2' : x.n ≤ x.hi := by omega
          have hok : x.ok = true := by unfold Bnd.ok; simp; omega
          have HOK := Lib.hid hok
          clear hfalse c1 c2 hok
          go_wp2
          go_roundw
          case rel =>
            refine ⟨k + 1, by omega, by go_num, rfl, fun j hj => ?_, HB.out.alloc HB.out.size _⟩
            by_cases hjk : j = k
            · subst hjk; rw [HX.out]; exact HOK.out
            · exact HN.out j (by omega)
          case measure => simp [intOf]; omega
    · obtain rfl : k = l.length := by omega
      have hA : l.all Bnd.ok = true := by
        rw [List.all_eq_true]
        intro y hy
        obtain ⟨j, hj, rfl⟩ := List.mem_iff_getElem.1 hy
        have := hno j hj
        simpa [hj] using this
      have HA := Lib.hid hA
      have HB := Lib.hid hB
      clear hA hno hB
      go_wp2
      (try rw [Exit.noGoto_ret])
      go_ret
      exact ⟨by rw [HA.out]; rfl, HB.out⟩

end Go.Proofs.Ythdclndpckojcaa

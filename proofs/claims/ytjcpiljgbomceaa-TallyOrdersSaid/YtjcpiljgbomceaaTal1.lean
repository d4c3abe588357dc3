/-
  tally: a tally in memory; New, has, Get, Add, Reset, countOf.
  Conditions: none.
-/
import Derived.Test.YtjcpiljgbomceaaInts
import Derived.Test.YtjcpiljgbomceaaRange
import Derived.IntWalk
import Derived.StillTailTactics
import Derived.Deep.QuietTactic
import Derived.BigQuiet
import Derived.Lib.SliceRun
namespace Go.Proofs.Ytjcpiljgbomceaa
open Go.RowKit

/-- The greatest count. -/
def mostI : Int := 1152921504606846976
/-- A count that may be. -/
def CountOk (l : List Int) : Prop := l.length ≤ 64 ∧ ∀ i, i < l.length → 0 ≤ l[i]?.getD 0 ∧ l[i]?.getD 0 ≤ 1152921504606846976
/-- A tally in memory: its block T, the counts' block g. -/
structure TalAt (w : World) (T g : Nat) (l : List Int) : Prop where
  ok : CountOk l
  blk : w.heap[T]? = some (.cells #[.slice (some ⟨g, 0, none⟩) l.length l.length] 43 (0, 0))
  row : w.heap[g]? = some (.cells (ints l).toArray 3 (0, 0))
theorem TalAt.ne {w : World} {T g : Nat} {l : List Int} (h : TalAt w T g l) : T ≠ g := blk_ne h.blk h.row (by decide)
theorem TalAt.same {w w' : World} {T g : Nat} {l : List Int} (h : TalAt w T g l) (hb : Below w.heap.size w w') : TalAt w' T g l := ⟨h.ok, (hb.block T (blk_lt h.blk)).trans h.blk, (hb.block g (blk_lt h.row)).trans h.row⟩
theorem TalAt.keeps {w w' : World} {T g : Nat} {l : List Int} (h : TalAt w T g l) {S : Nat → Prop} (hb : KeepsAt S w w') (hT : S T) (hg : S g) : TalAt w' T g l := ⟨h.ok, hb _ hT _ _ _ h.blk, hb _ hg _ _ _ h.row⟩
theorem TalAt.drewN {w : World} {T g : Nat} {l : List Int} (h : TalAt w T g l) (k : Nat) : TalAt (w.drewN k) T g l := ⟨h.ok, h.blk, h.row⟩
theorem TalAt.cells {w : World} {T g : Nat} {l : List Int} (h : TalAt w T g l) : w.cell? ⟨T, 0, none⟩ = some (.slice (some ⟨g, 0, none⟩) l.length l.length) := blk_cell h.blk 0
theorem TalAt.count {w : World} {T g : Nat} {l : List Int} (h : TalAt w T g l) {i : Nat} (hi : i < l.length) : w.cell? ⟨g, i, none⟩ = some (.int .i64 (l[i]?.getD 0)) := by
  rw [blk_cell h.row, List.getElem?_toArray]; exact ints_get l hi
/-- A tally, or none. -/
def TalIs (w : World) (p : Value) (l : List Int) : Prop := (p = .pointer none ∧ l = []) ∨ ∃ T g, p = .pointer (some ⟨T, 0, none⟩) ∧ TalAt w T g l

theorem new_any (n : Nat) (h1 : 1 ≤ n) (h2 : n ≤ 64) (w : World) :
    Calls Try.prog 7 #[.int .i64 n] w fun e w' => e = .returned (.pointer (some ⟨w.heap.size + 1, 0, none⟩)) ∧ TalAt w' (w.heap.size + 1) w.heap.size (List.replicate n 0) ∧ Below w.heap.size w w' := by
  have hm := makeInts n (by omega) w
  have n1 : (1 : Int) ≤ n := by omega
  have n2 : (n : Int) ≤ 64 := by omega
  have HC : Hid (∀ W1 W2 : World, W1 = w.alloc (.cells (ints (List.replicate n 0)).toArray 3) → W2 = W1.alloc (.cells #[.slice (some ⟨w.heap.size, 0, none⟩) n n] 43) → TalAt W2 (w.heap.size + 1) w.heap.size (List.replicate n 0)) := by
    rintro W1 W2 e1 e2
    have s1 : W1.heap.size = w.heap.size + 1 := by rw [e1]; simp
    refine ⟨⟨by simpa using h2, fun i hi => ?_⟩, ?_, ?_⟩
    · have hi' : i < n := by simpa using hi
      simp [hi']
    · rw [e2, ← s1, List.length_replicate]; exact heap_alloc_new _ _
    · rw [e2, Below.heap_alloc _ _ _ (by omega), e1]; exact heap_alloc_new _ _
  clear h1 h2
  go_enter Try.func7, Try.ntmps7
  go_wp2
  go_ret
  exact ⟨rfl, HC.out _ _ rfl rfl, ((Below.refl _ w).alloc (Nat.le_refl _) _).alloc (by simp) _⟩
theorem new_not (n : Int) (h : n < 1 ∨ 64 < n) (w : World) :
    Calls Try.prog 7 #[.int .i64 n] w fun e w' => e = .returned (.pointer none) ∧ w = w' := by
  rcases h with h | h
  · go_enter Try.func7, Try.ntmps7
    go_wp2
    go_ret
    exact ⟨rfl, rfl⟩
  · have h1 : (1 : Int) ≤ n := by omega
    go_enter Try.func7, Try.ntmps7
    go_wp2
    go_ret
    exact ⟨rfl, rfl⟩
/-- Is there such a kind? -/
def hasK (l : List Int) (i : Int) : Bool := decide (0 ≤ i ∧ i < l.length)
theorem has_any {w : World} {p : Value} {l : List Int} (h : TalIs w p l) (i : Int) :
    Calls Try.prog 18 #[p, .int .i64 i] w fun e w' => e = .returned (.bool (hasK l i)) ∧ w = w' := by
  rcases h with ⟨rfl, rfl⟩ | ⟨T, g, rfl, h⟩
  · have HR : Hid (hasK [] i = false) := by unfold Hid hasK; simp <;> omega
    go_enter Try.func18, Try.ntmps18
    go_wp2
    go_ret
    exact ⟨by rw [HR.out]; rfl, rfl⟩
  · have c0 := h.cells
    have hl : (l.length : Int) ≤ 64 := by have := h.ok.1; omega
    clear h
    by_cases h1 : 0 ≤ i
    · by_cases h2 : i < l.length
      · have HR : Hid (hasK l i = true) := by unfold Hid hasK; simp <;> omega
        go_enter Try.func18, Try.ntmps18
        go_wp2
        go_ret
        exact ⟨by rw [HR.out]; rfl, rfl⟩
      · have HR : Hid (hasK l i = false) := by unfold Hid hasK; simp <;> omega
        go_enter Try.func18, Try.ntmps18
        go_wp2
        go_ret
        exact ⟨by rw [HR.out]; rfl, rfl⟩
    · have HR : Hid (hasK l i = false) := by unfold Hid hasK; simp <;> omega
      go_enter Try.func18, Try.ntmps18
      go_wp2
      go_ret
      exact ⟨by rw [HR.out]; rfl, rfl⟩
theorem has_eq {w : World} {p : Value} {l : List Int} (h : TalIs w p l) (i : Int) {b : Bool} (hb : hasK l i = b) :
    Calls Try.prog 18 #[p, .int .i64 i] w fun e w' => e = .returned (.bool b) ∧ w = w' := hb ▸ has_any h i
theorem hasK_no {l : List Int} {i : Int} (h : i < 0 ∨ (l.length : Int) ≤ i) : hasK l i = false := by unfold hasK; simp; omega
theorem hasK_yes {l : List Int} {i : Nat} (h : i < l.length) : hasK l i = true := by unfold hasK; simp; omega
theorem hasK_nat {l : List Int} {i : Int} (h : hasK l i = true) : ∃ k : Nat, i = k ∧ k < l.length := by
  unfold hasK at h; simp at h; exact ⟨i.toNat, by omega, by omega⟩
/-- What Get answers. -/
def getK (l : List Int) (i : Int) : Int := if hasK l i then l[i.toNat]?.getD 0 else 0
theorem get_any {w : World} {p : Value} {l : List Int} (h : TalIs w p l) (i : Int) :
    Calls Try.prog 12 #[p, .int .i64 i] w fun e w' => e = .returned (.int .i64 (getK l i)) ∧ Below w.heap.size w w' := by
  cases hk : hasK l i with
  | false =>
    have HR : Hid (getK l i = 0) := by unfold Hid getK; rw [hk]; rfl
    have HK := Lib.hid (has_eq h i hk)
    clear hk
    rcases h with ⟨rfl, rfl⟩ | ⟨T, g, rfl, _⟩
    all_goals
      go_enter Try.func12, Try.ntmps12
      go_wp2_with (go_at_call 18; (with_reducible refine HK.out.mono ?_); rintro e w' ⟨rfl, rfl⟩)
      go_ret
      exact ⟨by rw [HR.out]; rfl, Below.refl _ _⟩
  | true =>
    obtain ⟨k, rfl, hkl⟩ := hasK_nat hk
    have HR : Hid (getK l k = l[k]?.getD 0) := by unfold Hid getK; rw [hk]; simp
    have HK := Lib.hid (has_eq h k hk)
    clear hk
    rcases h with ⟨rfl, rfl⟩ | ⟨T, g, rfl, h⟩
    · simp at hkl
    · have c0 := h.cells
      have c1 := h.count hkl
      have k1 : (k : Int) < l.length := by omega
      clear h hkl
      go_enter Try.func12, Try.ntmps12
      go_wp2_with (go_at_call 18; (with_reducible refine HK.out.mono ?_); rintro e w' ⟨rfl, rfl⟩)
      go_ret
      exact ⟨by rw [HR.out]; rfl, Below.refl _ _⟩
end Go.Proofs.Ytjcpiljgbomceaa

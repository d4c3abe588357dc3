/-
  Rows of ints in a box, in new memory, appended to in a round of a range over a function.
  Conditions: none.
-/
import Derived.Test.YtiibpkncdflfcaaInts
import Derived.Test.YtiibpkncdflfcaaJA
import Derived.Test.YtiibpkncdflfcaaRangeBox
import Derived.Maps.OwnIn
namespace Go.Proofs.Ytiibpkncdflfcaa
open Go.RowKit Go.Shelf

/-- A row of ints in a box, in new memory. -/
def BoxInts (n₀ B : Nat) (xs : List Int) (W : World) : Prop := ∃ v, Boxed W B 23 v ∧ W.ownsRow n₀ 3 1 v xs.length (ints xs)
theorem boxed_kept1 {X Y : World} {row : Option Nat} {B : Nat} {t : TypeId} {v : Value} (hv : Boxed X B t v) (hg : X.grownBy Y row) (hrow : ∀ r, row = some r → ∃ o : Obj, X.heap[r]? = some o ∧ o.isCells = false) : Boxed Y B t v := by
  refine hv.kept hg fun e' => ?_
  obtain ⟨o, ho, hc⟩ := hrow B e'.symm
  rw [show X.heap[B]? = _ from hv] at ho; cases ho; cases hc
theorem row_kept1 {X Y : World} {row : Option Nat} {n₀ : Nat} {e : TypeId} {size n : Nat} {v : Value} {xs : List Value} (hr : X.ownsRow n₀ e size v n xs) (hg : X.grownBy Y row) (hrow : ∀ r, row = some r → ∃ o : Obj, X.heap[r]? = some o ∧ o.isCells = false) : Y.ownsRow n₀ e size v n xs := by
  refine hr.kept hg ?_
  rcases hr.2 with ⟨rfl, _⟩ | ⟨g, cap, cur, rfl, _, hgb, _⟩
  · exact .inl rfl
  · refine .inr fun e' => ?_
    obtain ⟨o, ho, hc⟩ := hrow g (by simpa [Value.ownBlock] using e'.symm)
    rw [hgb] at ho; cases ho; cases hc
theorem boxInts_own {β : Type} (n₀ B : Nat) (f : β → List Int) : Own (fun s W => BoxInts n₀ B (f s) W) := by
  rintro s X Y row ⟨v, b, r⟩ hg hrow
  exact ⟨v, boxed_kept1 b hg hrow, row_kept1 r hg hrow⟩
theorem ownFrom_size {β : Type} (B N : Nat) : OwnFrom B (fun (_ : β) W => N ≤ W.heap.size) := fun _ _ _ _ hs hg _ => Nat.le_trans hs hg.size
/-- 'list = append(list, x)'. -/
theorem box_put {W w1 : World} {n₀ B : Nat} {xs zs : List Int} {v v' : Value} {tmp : Obj} {m : Nat} {cs : List Value} (b : Boxed W B 23 v) (r : W.ownsRow n₀ 3 1 v xs.length (ints xs))
    (hn₀ : n₀ ≤ W.heap.size) (hB : n₀ ≤ B) (hcs : cs = ints zs) (hm : m = zs.length) (hown : w1.ownsRow n₀ 3 1 v' m cs) (hgrow : (W.alloc tmp).grownBy w1 v.ownBlock) :
    Boxed w1 B 23 v ∧ BoxInts n₀ B zs (w1.setCell ⟨B, 0, none⟩ v') ∧ KeepsOthers W (w1.setCell ⟨B, 0, none⟩ v') ∧ Below n₀ W (w1.setCell ⟨B, 0, none⟩ v') := by
  subst hcs hm
  obtain ⟨q1, q2, q3, q4, q5⟩ := Boxed.appended b (by decide) r hn₀ hB hown hgrow
  exact ⟨q1, ⟨v', q2, q3⟩, q4, q5⟩
theorem int_new (W : World) (x : Int) : ∀ (j : Nat) (u : Value), (ints [x])[j]? = some u → (W.alloc (.cells #[.int .i64 x] 3)).cell? ((⟨W.heap.size, 0, none⟩ : Addr).add j) = some u := by
  intro j u hj
  rw [add_plain, Nat.zero_add, blk_cell (heap_alloc_new _ _)]
  simpa [ints] using hj
theorem owns_slice1 {w : World} {base : Nat} {e : TypeId} {size n : Nat} {v : Value} {xs : List Value} (h : w.ownsRow base e size v n xs) : ∃ a cap, v = .slice a n cap := owns_slice h
theorem box_keeps {S : Nat → Prop} {W w1 : World} {B : Nat} {v v' : Value} {tmp : Obj} (hSB : ¬ S B) (hSv : ∀ k, v.ownBlock = some k → ¬ S k) (hgrow : (W.alloc tmp).grownBy w1 v.ownBlock) : KeepsAt S W (w1.setCell ⟨B, 0, none⟩ v') :=
  ((KeepsAt.alloc W _).trans (KeepsAt.grown hgrow hSv)).trans (KeepsAt.setCell _ _ _ hSB)
theorem makeI0 (m : Nat) (hm : m ≤ 65536) (W : World) : ∃ cur : Array Value, (Instr.makeSlice 23 (.int .i64 0) (.int .i64 m)).run Try.prog W = .ok (.slice (some ⟨W.heap.size, 0, none⟩) 0 m) (W.alloc (.cells cur 3)) ∧ cur.size = m * 1 := by
  obtain ⟨i0, hi, hz0, hz1, hz2⟩ := info_partsI infoInt
  have h := run_make (P := Try.prog) W 23 3 i0 (.int .i64 0) Try.underlying23 hi hz0 .i64 .i64 0 m (by omega) (by omega) (by rw [hz2]; omega) (by omega)
  rw [hz1] at h
  exact ⟨_, h, by simp [madeCells]⟩
end Go.Proofs.Ytiibpkncdflfcaa

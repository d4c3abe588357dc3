/-
  Acts in memory; script.fitsText, fits, counted, right, Right.
  Conditions: none.
-/
import Derived.Test.YtgaabclgoolalaaScr2
import Derived.Test.YtgaabclgoolalaaScr3
import Derived.Test.YtgaabclgoolalaaInts
import Derived.Test.YtgaabclgoolalaaQuietB
import Derived.Deep.DeepCutAuto
import Derived.Deep.RegionHeld3
namespace Go.Proofs.Ytgaabclgoolalaa
open Go.RowKit
attribute [local go_sem] Oper.semAt_some

/-- An act. -/
structure SAct where
  kind : Int
  key : List (BitVec 8)
  val : List (BitVec 8)
  num : Int
  nums : List Int
deriving Inhabited
/-- May a text be, of which an act has one or none? -/
def fitT (has : Bool) (n : Nat) : Bool := if has then decide (n ≤ 65535) else decide (n = 0)
/-- Has an act what its kind has, and no more? -/
def fitB (k v u : Bool) (l m : Int) (n1 n2 : Nat) (num : Int) (n3 : Nat) : Bool := fitT k n1 && (fitT v n2 && ((u || decide (num = 0)) && (decide (l ≤ n3) && decide ((n3 : Int) ≤ m))))
def fitK (i : Nat) (x : SAct) : Bool := fitB (wk i) (wv i) (wu i) (wl i) (wm i) x.key.length x.val.length x.num x.nums.length
/-- May it be an act? -/
def rightA (x : SAct) : Bool := decide (kn x.kind < 10) && fitK (kn x.kind) x
set_option maxRecDepth 100000 in
theorem fitsText_any (has : Bool) (a : Option Addr) (n c : Nat) (w : World) : Calls Try.prog 43 #[.bool has, .slice a n c] w fun e w' => e = .returned (.bool (fitT has n)) ∧ w = w' := by
  cases has with
  | true =>
    by_cases h : n ≤ 65535
    · have hr : fitT true n = true := by simp [fitT, h]
      have h1 : (n : Int) ≤ 65535 := by omega
      rw [hr]
      clear hr h
      go_enter Try.func43, Try.ntmps43
      go_wp2
      go_ret
      exact ⟨rfl, rfl⟩
    · have hr : fitT true n = false := by simp [fitT]; omega
      have h1 : ¬ (n : Int) ≤ 65535 := by omega
      rw [hr]
      clear hr h
      go_enter Try.func43, Try.ntmps43
      go_wp2
      go_ret
      exact ⟨rfl, rfl⟩
  | false =>
    by_cases h : n = 0
    · subst h
      go_enter Try.func43, Try.ntmps43
      go_wp2
      go_ret
      exact ⟨rfl, rfl⟩
    · have hr : fitT false n = false := by simp [fitT, h]
      have h1 : ((n : Int) == 0) = false := by simp; omega
      rw [hr]
      clear hr h
      go_enter Try.func43, Try.ntmps43
      go_wp2
      go_ret
      exact ⟨rfl, rfl⟩
set_option maxRecDepth 100000 in
theorem counted_any (s : ByteArray) (k v u : Bool) (l m : Int) (w : World) : Calls Try.prog 40 #[.agg #[.string s, .bool k, .bool v, .bool u, .int .i64 l, .int .i64 m]] w fun e w' => e = .returned (.bool (decide (l < m))) ∧ Below w.heap.size w w' := by
  have HB := Lib.hid ((Below.refl w.heap.size w).alloc (Nat.le_refl _) (.cells #[.string s, .bool k, .bool v, .bool u, .int .i64 l, .int .i64 m] 70))
  go_enter Try.func40, Try.ntmps40
  go_wp2
  go_ret
  exact ⟨rfl, HB.out⟩
end Go.Proofs.Ytgaabclgoolalaa

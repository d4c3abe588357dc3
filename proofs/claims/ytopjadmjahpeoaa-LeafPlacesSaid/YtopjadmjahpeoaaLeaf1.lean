/-
  leaf's Room and what Build asks.
  Conditions: none.
-/
import Derived.Test.YtopjadmjahpeoaaWr
namespace Go.Proofs.Ytopjadmjahpeoaa
open Go.RowKit

def sizeB (n : Int) : Bool := decide (96 ≤ n ∧ n ≤ 512)
def kindB (n : Int) : Bool := decide (1 ≤ n ∧ n ≤ 4)
theorem lsize_any (n : Int) (w : World) : Calls Try.prog 24 #[.int .i64 n] w fun e w' => e = .returned (.bool (sizeB n)) ∧ w = w' := by
  by_cases h1 : 96 ≤ n <;> by_cases h2 : n ≤ 512 <;> (
    have HB : Hid (sizeB n = decide (96 ≤ n ∧ n ≤ 512)) := rfl
    simp [h1, h2] at HB
    go_enter Try.func24, Try.ntmps24
    go_wp2
    go_ret
    exact ⟨by rw [HB.out]; rfl, rfl⟩)
theorem lkind_any (n : Int) (w : World) : Calls Try.prog 25 #[.int .i64 n] w fun e w' => e = .returned (.bool (kindB n)) ∧ w = w' := by
  by_cases h : kindB n = true
  · have HB := Lib.hid h
    have h' : 1 ≤ n ∧ n ≤ 4 := by simpa [kindB] using h
    have h4 : n = 1 ∨ n = 2 ∨ n = 3 ∨ n = 4 := by omega
    clear h h'
    rcases h4 with rfl | rfl | rfl | rfl <;> (
      go_enter Try.func25, Try.ntmps25
      go_wp2
      go_ret
      exact ⟨by rw [HB.out]; rfl, rfl⟩)
  · have HB : Hid (kindB n = false) := by unfold Hid; simpa using h
    have h' : ¬ (1 ≤ n ∧ n ≤ 4) := by simpa [kindB] using h
    have n1 : (n == 1) = false := by simp; omega
    have n2 : (n == 2) = false := by simp; omega
    have n3 : (n == 3) = false := by simp; omega
    have n4 : (n == 4) = false := by simp; omega
    clear h h'
    go_enter Try.func25, Try.ntmps25
    go_wp2
    go_ret
    exact ⟨by rw [HB.out]; rfl, rfl⟩
/-- How long a load may be. -/
def roomI (n : Int) : Int := if sizeB n then n - 19 else 0
theorem room_any (n : Int) (w : World) : Calls Try.prog 11 #[.int .i64 n] w fun e w' => e = .returned (.int .i64 (roomI n)) ∧ w = w' := by
  have HS := Lib.hid (lsize_any n)
  cases hk : sizeB n with
  | false =>
    have HR : Hid (roomI n = 0) := by unfold Hid roomI; rw [hk]; rfl
    rw [hk] at HS
    go_enter Try.func11, Try.ntmps11
    go_wp2_with (go_at_call 24; (with_reducible refine (HS.out _).mono ?_); rintro e w1 ⟨rfl, rfl⟩)
    go_ret
    exact ⟨by rw [HR.out]; rfl, rfl⟩
  | true =>
    have HR : Hid (roomI n = n - 19) := by unfold Hid roomI; rw [hk]; rfl
    obtain ⟨k1, k2⟩ : 96 ≤ n ∧ n ≤ 512 := by simpa [sizeB] using hk
    rw [hk] at HS
    go_enter Try.func11, Try.ntmps11
    go_wp2_with (go_at_call 24; (with_reducible refine (HS.out _).mono ?_); rintro e w1 ⟨rfl, rfl⟩)
    go_ret
    exact ⟨by rw [HR.out]; rfl, rfl⟩

/-- The bytes of a leaf's sector but for its check, and all of them. -/
def leafBody (size kind place stamp : Int) (load : List (BitVec 8)) : List (BitVec 8) := [] ++ leI 1 kind ++ leI 2 load.length ++ leI 4 place ++ leI 8 stamp ++ load ++ List.replicate (size - 19 - load.length).toNat 0#8
def buildErr (size kind place stamp len : Int) : Int := if sizeB size then (if kindB kind ∧ 0 ≤ place ∧ place ≤ 2147483647 ∧ 0 ≤ stamp then (if size - 19 < len then 9 else 0) else 1) else 3
end Go.Proofs.Ytopjadmjahpeoaa

/-
  record's Size, Ended and what they ask.
  Conditions: none.
-/
import Derived.Test.YtdpjhcdkiddplaaWr
namespace Go.Proofs.Ytdpjhcdkiddplaa
open Go.RowKit

def isKeyB (n : Int) : Bool := decide (1 ≤ n ∧ n ≤ 64)
def isValB (n : Int) : Bool := decide (0 ≤ n ∧ n ≤ 4096)
def isEndB (n : Int) : Bool := decide (0 ≤ n ∧ n ≤ 281474976710656)
theorem isKey_any (n : Int) (w : World) : Calls Try.prog 10 #[.int .i64 n] w fun e w' => e = .returned (.bool (isKeyB n)) ∧ w = w' := by
  by_cases h1 : 1 ≤ n <;> by_cases h2 : n ≤ 64 <;> (
    have HB : Hid (isKeyB n = decide (1 ≤ n ∧ n ≤ 64)) := rfl
    simp [h1, h2] at HB
    go_enter Try.func10, Try.ntmps10
    go_wp2
    go_ret
    exact ⟨by rw [HB.out]; rfl, rfl⟩)
theorem isVal_any (n : Int) (w : World) : Calls Try.prog 11 #[.int .i64 n] w fun e w' => e = .returned (.bool (isValB n)) ∧ w = w' := by
  by_cases h1 : 0 ≤ n <;> by_cases h2 : n ≤ 4096 <;> (
    have HB : Hid (isValB n = decide (0 ≤ n ∧ n ≤ 4096)) := rfl
    simp [h1, h2] at HB
    go_enter Try.func11, Try.ntmps11
    go_wp2
    go_ret
    exact ⟨by rw [HB.out]; rfl, rfl⟩)
theorem isEnd_any (n : Int) (w : World) : Calls Try.prog 12 #[.int .i64 n] w fun e w' => e = .returned (.bool (isEndB n)) ∧ w = w' := by
  by_cases h1 : 0 ≤ n <;> by_cases h2 : n ≤ 281474976710656 <;> (
    have HB : Hid (isEndB n = decide (0 ≤ n ∧ n ≤ 281474976710656)) := rfl
    simp [h1, h2] at HB
    go_enter Try.func12, Try.ntmps12
    go_wp2
    go_ret
    exact ⟨by rw [HB.out]; rfl, rfl⟩)
def endedB (e a : Int) : Bool := decide (e ≠ 0 ∧ e ≤ a)
theorem ended_any (n a : Int) (w : World) : Calls Try.prog 22 #[.int .i64 n, .int .i64 a] w fun e w' => e = .returned (.bool (endedB n a)) ∧ w = w' := by
  by_cases h1 : n = 0
  · subst h1
    go_enter Try.func22, Try.ntmps22
    go_wp2
    go_ret
    exact ⟨rfl, rfl⟩
  · by_cases h2 : n ≤ a <;> (
      have HB : Hid (endedB n a = decide (n ≠ 0 ∧ n ≤ a)) := rfl
      have hn : (n != 0) = true := by simpa using h1
      simp [h1, h2] at HB
      go_enter Try.func22, Try.ntmps22
      go_wp2
      go_ret
      exact ⟨by rw [HB.out]; rfl, rfl⟩)
/-- How many bytes a record has. -/
def recSize (k v : Int) : Int := if isKeyB k && isValB v then 13 + k + v else 0
theorem size_any (k v : Int) (w : World) : Calls Try.prog 14 #[.int .i64 k, .int .i64 v] w fun e w' => e = .returned (.int .i64 (recSize k v)) ∧ w = w' := by
  have HK := Lib.hid (isKey_any k)
  have HV := Lib.hid (isVal_any v)
  cases hk : isKeyB k with
  | false =>
    have HR : Hid (recSize k v = 0) := by unfold Hid recSize; rw [hk]; rfl
    rw [hk] at HK
    go_enter Try.func14, Try.ntmps14
    go_wp2_with (go_at_call 10; (with_reducible refine (HK.out _).mono ?_); rintro e w1 ⟨rfl, rfl⟩)
    go_ret
    exact ⟨by rw [HR.out]; rfl, rfl⟩
  | true =>
    cases hv : isValB v with
    | false =>
      have HR : Hid (recSize k v = 0) := by unfold Hid recSize; rw [hk, hv]; rfl
      rw [hk] at HK
      rw [hv] at HV
      go_enter Try.func14, Try.ntmps14
      go_wp2_with (first
        | (go_at_call 10; (with_reducible refine (HK.out _).mono ?_); rintro e w1 ⟨rfl, rfl⟩)
        | (go_at_call 11; (with_reducible refine (HV.out _).mono ?_); rintro e w1 ⟨rfl, rfl⟩))
      go_ret
      exact ⟨by rw [HR.out]; rfl, rfl⟩
    | true =>
      have HR : Hid (recSize k v = 13 + k + v) := by unfold Hid recSize; rw [hk, hv]; rfl
      obtain ⟨k1, k2⟩ : 1 ≤ k ∧ k ≤ 64 := by simpa [isKeyB] using hk
      obtain ⟨v1, v2⟩ : 0 ≤ v ∧ v ≤ 4096 := by simpa [isValB] using hv
      rw [hk] at HK
      rw [hv] at HV
      go_enter Try.func14, Try.ntmps14
      go_wp2_with (first
        | (go_at_call 10; (with_reducible refine (HK.out _).mono ?_); rintro e w1 ⟨rfl, rfl⟩)
        | (go_at_call 11; (with_reducible refine (HV.out _).mono ?_); rintro e w1 ⟨rfl, rfl⟩))
      go_ret
      exact ⟨by rw [HR.out]; rfl, rfl⟩
end Go.Proofs.Ytdpjhcdkiddplaa

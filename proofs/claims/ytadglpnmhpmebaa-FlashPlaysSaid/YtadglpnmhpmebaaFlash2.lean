/-
  flash.isZero, and what slices.Clone of bytes does.
  Conditions: none.
-/
import Derived.Test.YtadglpnmhpmebaaFlash1
import Derived.Deep.QuietTactic
import Derived.BigQuiet
namespace Go.Proofs.Ytadglpnmhpmebaa
open Go.RowKit

/-- Are all bytes 0? -/
def zeroB (bs : List (BitVec 8)) : Bool := bs.all (· == 0#8)

theorem notZero_any (b : BitVec 8) (w : World) : Calls Try.prog 50 #[.int .u8 (U b)] w fun e w' => e = .returned (.bool (U b != 0)) ∧ w = w' := by
  go_enter Try.func50, Try.ntmps50
  go_wp2
  go_ret
  exact ⟨rfl, rfl⟩

set_option maxHeartbeats 1000000 in
theorem indexFunc_any (n₀ : Nat) (bs : List (BitVec 8)) (v : Value) (w : World) (hv : BytesAt n₀ w v bs) (hl : bs.length ≤ 1099511627776) :
    Calls Try.prog 52 #[v, .func (.func 50) #[] #[]] w fun e w' => ∃ i : Int, e = .returned (.int .i64 i) ∧ (0 ≤ i ↔ zeroB bs = false) ∧ w = w' := by
  obtain ⟨a, cap, rfl, _, _, hv⟩ := hv
  have l1 : (bs.length : Int) ≤ 1099511627776 := by omega
  go_enter Try.func52, Try.ntmps52
  go_wp2
  go_loop [8] (fun iv => ∃ k : Nat, k ≤ bs.length ∧ iv = .int .i64 k ∧ ∀ j, j < k → bs[j]?.getD 0 = 0#8) (fun iv => bs.length - (intOf iv).toNat)
  case atStart => exact ⟨0, Nat.zero_le _, rfl, fun j hj => absurd hj (by omega)⟩
  case round =>
    obtain ⟨k, hk, rfl, hz⟩ := hrel
    by_cases hlt : k < bs.length
    · rcases hv with h | ⟨g, off, rfl, hg, hc⟩
      · subst h; simp at hlt
      have c1 := hc k hlt
      have HZ := Lib.hid hz
      clear hc hz
      have k0 : (0 : Int) ≤ k := by omega
      have k1 : (k : Int) < bs.length := by omega
      obtain ⟨b, hb⟩ : ∃ b, bs[k]?.getD 0 = b := ⟨_, rfl⟩
      rw [hb] at c1
      have HB := Lib.hid hb
      clear hb
      by_cases h0 : b = 0#8
      · have e0 : (U b != 0) = false := by rw [h0]; rfl
        have H0 := Lib.hid h0
        clear h0
        have HN := Lib.hid (fun W => notZero_any b W)
        go_wp2_with (go_at_call 50; refine (HN.out _).mono ?_; rintro e w' ⟨rfl, rfl⟩)
        go_round
        case rel =>
          refine ⟨k + 1, by omega, by go_num, fun j hj => ?_⟩
          by_cases hjk : j = k
          · subst hjk; rw [HB.out]; exact H0.out
          · exact HZ.out j (by omega)
        case measure => simp [intOf]; omega
      · have e0 : (U b != 0) = true := by
          have : U b ≠ 0 := fun e => h0 (U_inj.1 (by rw [e]; rfl))
          simpa using this
        have HN := Lib.hid (fun W => notZero_any b W)
        have HF : Hid (zeroB bs = false) := by
          unfold Hid zeroB
          rw [List.all_eq_false]
          refine ⟨bs[k], List.getElem_mem hlt, ?_⟩
          have := HB.out
          simp [hlt] at this
          rw [this]
          simpa using h0
        clear h0
        go_wp2_with (go_at_call 50; refine (HN.out _).mono ?_; rintro e w' ⟨rfl, rfl⟩)
        go_ret
        exact ⟨k, rfl, ⟨fun _ => HF.out, fun _ => k0⟩, rfl⟩
    · obtain rfl : k = bs.length := by omega
      have HF : Hid (zeroB bs = true) := by
        unfold Hid zeroB
        rw [List.all_eq_true]
        intro x hx
        obtain ⟨j, hj, rfl⟩ := List.mem_iff_getElem.1 hx
        have := hz j hj
        simpa [hj] using this
      clear hz hv
      go_wp2
      go_ret
      exact ⟨-1, rfl, ⟨fun h => by omega, fun h => by rw [HF.out] at h; cases h⟩, rfl⟩

theorem containsFunc_any (n₀ : Nat) (bs : List (BitVec 8)) (v : Value) (w : World) (hv : BytesAt n₀ w v bs) (hl : bs.length ≤ 1099511627776) :
    Calls Try.prog 49 #[v, .func (.func 50) #[] #[]] w fun e w' => e = .returned (.bool (!zeroB bs)) ∧ w = w' := by
  have HI := Lib.hid (indexFunc_any n₀ bs v w hv hl)
  clear hv
  cases hz : zeroB bs with
  | true =>
    rw [hz] at HI
    clear hz
    go_enter Try.func49, Try.ntmps49
    go_wp2_with (go_at_call 52; refine HI.out.mono ?_; rintro e w' ⟨i, rfl, hi, rfl⟩; have hi2 : decide (0 ≤ i) = false := (by simpa using hi); clear hi)
    go_ret
    exact ⟨rfl, rfl⟩
  | false =>
    rw [hz] at HI
    clear hz
    go_enter Try.func49, Try.ntmps49
    go_wp2_with (go_at_call 52; refine HI.out.mono ?_; rintro e w' ⟨i, rfl, hi, rfl⟩; have hi2 : decide (0 ≤ i) = true := (by simpa using hi); clear hi)
    go_ret
    exact ⟨rfl, rfl⟩

theorem isZero_any (n₀ : Nat) (bs : List (BitVec 8)) (v : Value) (w : World) (hv : BytesAt n₀ w v bs) (hl : bs.length ≤ 1099511627776) :
    Calls Try.prog 45 #[v] w fun e w' => e = .returned (.bool (zeroB bs)) ∧ w = w' := by
  have HI := Lib.hid (containsFunc_any n₀ bs v w hv hl)
  clear hv
  generalize zeroB bs = z at HI ⊢
  go_enter Try.func45, Try.ntmps45
  go_wp2_with (go_at_call 49; refine HI.out.mono ?_; rintro e w' ⟨rfl, rfl⟩)
  go_ret
  exact ⟨by simp, rfl⟩

end Go.Proofs.Ytadglpnmhpmebaa

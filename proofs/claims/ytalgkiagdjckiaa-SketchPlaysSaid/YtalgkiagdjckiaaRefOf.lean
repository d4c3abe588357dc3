/-
  sgraffitoref03.Of.
  Conditions: none.
-/
import Derived.Test.YtalgkiagdjckiaaWire6
namespace Go.Proofs.Ytalgkiagdjckiaa
open Go.RowKit

theorem of_step (q : BitVec 64) (b : BitVec 8) : IntKind.u64.wrap (IntKind.u64.wrap (256 * U q) + IntKind.u64.wrap (U b)) = U (256#64 * q + b.setWidth 64) := by
  unfold U
  rw [BitVec.toNat_add, BitVec.toNat_mul, BitVec.toNat_setWidth]
  simp [IntKind.wrap, IntKind.bits, IntKind.signed]

set_option maxHeartbeats 1000000 in
theorem refOf_any (n₀ : Nat) (bs : List (BitVec 8)) (v : Value) (w : World) (hv : BytesAt n₀ w v bs) (hl : bs.length ≤ 1099511627776) : Calls Try.prog 33 #[v] w fun e w' => e = .returned (.int .u64 (U (refOf bs))) ∧ w = w' := by
  obtain ⟨a, cap, rfl, _, _, hv⟩ := hv
  have l1 : (bs.length : Int) ≤ 1099511627776 := by omega
  go_enter Try.func33, Try.ntmps33
  go_wp2
  go_loop [3, 4] (fun nv iv => ∃ j : Nat, j ≤ bs.length ∧ iv = .int .i64 ((j : Int) - 1) ∧ nv = .int .u64 (U (refOf (bs.drop j)))) (fun _ iv => (intOf iv + 1).toNat)
  case atStart => exact ⟨bs.length, Nat.le_refl _, rfl, by rw [List.drop_length]; rfl⟩
  case round =>
    obtain ⟨j, hj, rfl, rfl⟩ := hrel
    by_cases hpos : 0 < j
    · obtain ⟨k, rfl⟩ : ∃ k, j = k + 1 := ⟨j - 1, by omega⟩
      rcases hv with h | ⟨g, off, rfl, hg, hc⟩
      · subst h; simp at hj
      have c1 := hc k (by omega)
      have HD : Hid (refOf (bs.drop k) = 256#64 * refOf (bs.drop (k + 1)) + (bs[k]?.getD 0).setWidth 64) := by
        unfold Hid
        rw [List.drop_eq_getElem_cons (show k < bs.length by omega), refOf]
        simp [show k < bs.length by omega]
      clear hc
      generalize bs[k]?.getD 0 = b at c1 HD
      generalize refOf (bs.drop (k + 1)) = q at HD
      have e1 : (((k + 1 : Nat) : Int) - 1) = k := by omega
      rw [e1]
      have hs := of_step q b
      have k0 : (0 : Int) ≤ k := by omega
      have k1 : (k : Int) < bs.length := by omega
      clear e1
      go_wp2
      exact ⟨⟨k, by omega, rfl, by rw [HD.out]⟩, by simp [intOf]⟩
    · obtain rfl : j = 0 := by omega
      rw [List.drop_zero]
      go_wp2
      go_ret
      exact ⟨rfl, rfl⟩

end Go.Proofs.Ytalgkiagdjckiaa

/-
  sgraffitolaw08: same.
  Conditions: none.
-/
import Derived.Test.YtadhkciggiefbaaInts
import Derived.Test.YtadhkciggiefbaaClock6
import Derived.BigQuiet
import Derived.Deep.QuietTactic
namespace Go.Proofs.Ytadhkciggiefbaa
open Go.RowKit

theorem below_drewI {n : Nat} {a b : World} (h : Below n a b) (k : Nat) : Below n a (b.drewN k) := ⟨h.os, h.tape, h.output, h.size, h.block⟩
set_option maxHeartbeats 1000000 in
theorem same_yes {w : World} {u v : Value} {l : List Int} (hu : IntsAt w.heap.size w u l) (hv : IntsAt w.heap.size w v l) (hl : l.length ≤ 4096) :
    Calls Try.prog 17 #[u, v] w fun e w' => e = .returned (.bool true) ∧ Below w.heap.size w w' := by
  obtain ⟨a, c, rfl⟩ := hu.slice
  obtain ⟨b, d, rfl⟩ := hv.slice
  have l1 : (l.length : Int) ≤ 4096 := by omega
  have HU := Lib.hid hu
  have HV := Lib.hid hv
  clear hu hv
  go_enter Try.func17, Try.ntmps17
  go_wp2
  go_loopw [5] (fun i wr => ∃ k : Nat, k ≤ l.length ∧ i = .int .i64 k ∧ Below w.heap.size w wr) (fun i _ => l.length - (intOf i).toNat)
  case atStart => exact ⟨0, Nat.zero_le _, rfl, Below.refl _ _⟩
  case round =>
    obtain ⟨k, hk, rfl, hB⟩ := hrel
    by_cases hlt : k < l.length
    · obtain ⟨g1, o1, rfl, _, c1⟩ := (HU.out.below hB).get hlt
      obtain ⟨g2, o2, rfl, _, c2⟩ := (HV.out.below hB).get hlt
      have k1 : (k : Int) < l.length := by omega
      generalize (l[k]?.getD 0) = x at c1 c2
      have HB := Lib.hid hB
      clear hB
      go_wp2_with fail
      go_quiet (fail)
      go_wp2
      go_roundw
      case rel => exact ⟨k + 1, by omega, by go_num, below_drewI HB.out _⟩
      case measure => simp [intOf]; omega
    · obtain rfl : k = l.length := by omega
      go_wp2
      go_ret
      exact ⟨rfl, hB⟩
end Go.Proofs.Ytadhkciggiefbaa

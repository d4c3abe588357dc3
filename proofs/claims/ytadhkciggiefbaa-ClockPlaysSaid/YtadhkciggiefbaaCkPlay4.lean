/-
  ClockPlays: the walk.
  Conditions: none.
-/
import Derived.Test.YtadhkciggiefbaaCkPlay3
import Derived.Test.YtadhkciggiefbaaCkKeys
import Derived.Test.YtadhkciggiefbaaCkSame
import Derived.Test.YtadhkciggiefbaaActs08
import Derived.Test.YtadhkciggiefbaaClock6
namespace Go.Proofs.Ytadhkciggiefbaa
open Go.ChangeShapes Go.WideShapes Go.ChangeAt Go.RowKit

theorem got_len2 (s : Ck) (key : Int) : (s.got key).ps.length = s.ps.length := by
  unfold Ck.got; cases s.at key with
  | none => rfl
  | some i => simp [Ck.setP]
theorem got_hand (s : Ck) (key : Int) : (s.got key).hand = s.hand := by
  unfold Ck.got; cases s.at key <;> rfl
theorem drop_len2 (s : Ck) (key : Int) : (s.dropped zeroI key).ps.length = s.ps.length := by
  unfold Ck.dropped; cases s.at key with
  | none => rfl
  | some i => simp [Ck.empty]
theorem drop_hand (s : Ck) (key : Int) : (s.dropped zeroI key).hand = s.hand := by
  unfold Ck.dropped; cases s.at key <;> rfl
theorem put_len2 (s : Ck) (key : Int) (v : Value) : (s.put zeroI key v).ps.length = s.ps.length := by
  unfold Ck.put
  cases s.at key with
  | some i => simp [Ck.setP]
  | none =>
    simp only
    cases s.ps.findIdx? (fun p => !p.full) with
    | some i => simp [Ck.fill]
    | none => simp [Ck.fill, Ck.empty, Ck.swept, swp_len]
/-- The clock's answers at the end of a round, in any later world. -/
theorem keysF_m {s : Ck} (hok : s.Ok) : s.m.length = (keysF s.ps).length := by rw [keysF_count, hok.len]
end Go.Proofs.Ytadhkciggiefbaa

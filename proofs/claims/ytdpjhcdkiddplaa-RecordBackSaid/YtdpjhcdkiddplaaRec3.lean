/-
  sgraffitolaw09's awake: the chapter's examples hold.
  Conditions: none.
-/
import Derived.Test.YtdpjhcdkiddplaaRec2
import Derived.Lib.SlBytesConst
namespace Go.Proofs.Ytdpjhcdkiddplaa
open Go.RowKit

theorem awake_bytes : packErr ([107#8] : List (BitVec 8)).length ([118#8] : List (BitVec 8)).length 0 = 0 ∧ packB [107#8] [118#8] 0 = [165#8, 1#8, 1#8, 0#8, 0#8, 0#8, 0#8, 0#8, 0#8, 0#8, 0#8, 0#8, 107#8, 118#8, 90#8] := by decide +kernel

set_option maxRecDepth 100000 in
set_option maxHeartbeats 1000000 in
theorem awake09 (w : World) : Calls Try.prog 9 #[] w fun e w' => e = .returned (.bool true) ∧ Below w.heap.size w w' := by
  have kc := fun (W : World) (C : Array Value) (n c : Nat) => Lib.run_convert_bytes_const (P := Try.prog) W 23 5 C n c Try.underlying23 Try.underlying5
  have kc2 := fun (o : Obj) (C : Array Value) (n c : Nat) => kc (w.alloc o) C n c
  simp only [show ∀ o : Obj, (w.alloc o).heap.size = w.heap.size + 1 from fun o => by simp] at kc2
  have HAW := Lib.hid awake_bytes
  have hpk := pack_any (.slice (some ⟨w.heap.size, 0, none⟩) 1 1) (.slice (some ⟨w.heap.size + 1, 0, none⟩) 1 1) [107#8] [118#8] 0 ((w.alloc (.cells #[.int .u8 107] 5 (1, 2))).alloc (.cells #[.int .u8 118] 5 (1, 2)))
    (((bytes_new w [107#8] 1 rfl #[.int .u8 107] rfl (1, 2)).below ((Below.refl _ _).alloc (by simp) _)).mono (by simp))
    ((by simpa using bytes_new (w.alloc (.cells #[.int .u8 107] 5 (1, 2))) [118#8] 1 rfl #[.int .u8 118] rfl (1, 2) : BytesAt _ _ _ _).mono (by simp)) (by simp) (by simp)
  rw [HAW.out.1, HAW.out.2] at hpk
  have HPK := Lib.hid hpk
  clear hpk HAW
  have HEN := Lib.hid (fun n a => ended_any n a)
  have HSZ := Lib.hid (fun W => size_any 1 1 W)
  have e1 : endedB 5 5 = true := by decide
  have e2 : endedB 0 9 = false := by decide
  have e3 : recSize 1 1 = 15 := by decide
  go_enter Try.func9, Try.ntmps9
  go_wp2_with (first
    | (go_at_call 4; (with_reducible refine HPK.out.mono ?_); rintro e w1 ⟨u, rfl, hu, hb⟩; (have hcv := conv_str (BytesAt.of_owns hu); rw [show strB [165#8, 1#8, 1#8, 0#8, 0#8, 0#8, 0#8, 0#8, 0#8, 0#8, 0#8, 0#8, 107#8, 118#8, 90#8] = ⟨#[165, 1, 1, 0, 0, 0, 0, 0, 0, 0, 0, 0, 107, 118, 90]⟩ from rfl] at hcv; have HB := Lib.hid hb; clear hb hu))
    | (go_at_call 22; (with_reducible refine (HEN.out _ _ _).mono ?_); rintro e w2 ⟨rfl, rfl⟩)
    | (go_at_call 14; (with_reducible refine (HSZ.out _).mono ?_); rintro e w2 ⟨rfl, rfl⟩))

  go_ret
  exact ⟨rfl, (((Below.refl _ w).alloc (Nat.le_refl _) _).alloc (by simp) _).trans (HB.out.mono (by simp; omega))⟩
end Go.Proofs.Ytdpjhcdkiddplaa

/-
  clock.Clock[int]: what the chapter's example says; a clock that is not there.
  Conditions: none.
-/
import Derived.Test.YtadhkciggiefbaaClock5
namespace Go.Proofs.Ytadhkciggiefbaa
open Go.RowKit

theorem aw1 : (Ck.new zeroI 3).told zeroI 1 = .tuple #[.int .i64 0, .int .i64 0, .bool false] := by kernel_rfl
theorem aw2 : ((Ck.new zeroI 3).put zeroI 1 (.int .i64 10)).told zeroI 2 = .tuple #[.int .i64 0, .int .i64 0, .bool false] := by kernel_rfl
theorem aw3 : (((Ck.new zeroI 3).put zeroI 1 (.int .i64 10)).put zeroI 2 (.int .i64 20)).told zeroI 3 = .tuple #[.int .i64 0, .int .i64 0, .bool false] := by kernel_rfl
theorem aw4 : ((((Ck.new zeroI 3).put zeroI 1 (.int .i64 10)).put zeroI 2 (.int .i64 20)).put zeroI 3 (.int .i64 30)).told zeroI 4 = .tuple #[.int .i64 1, .int .i64 10, .bool true] := by kernel_rfl
theorem aw5 : lookRes zeroI (((((Ck.new zeroI 3).put zeroI 1 (.int .i64 10)).put zeroI 2 (.int .i64 20)).put zeroI 3 (.int .i64 30)).put zeroI 4 (.int .i64 40)) 2 = .tuple #[.int .i64 20, .bool true] := by kernel_rfl
theorem aw6 : ((((((Ck.new zeroI 3).put zeroI 1 (.int .i64 10)).put zeroI 2 (.int .i64 20)).put zeroI 3 (.int .i64 30)).put zeroI 4 (.int .i64 40)).got 2).told zeroI 5 = .tuple #[.int .i64 3, .int .i64 30, .bool true] := by kernel_rfl
theorem aw7 : (((((((Ck.new zeroI 3).put zeroI 1 (.int .i64 10)).put zeroI 2 (.int .i64 20)).put zeroI 3 (.int .i64 30)).put zeroI 4 (.int .i64 40)).got 2).put zeroI 5 (.int .i64 50)).m.length = 3 := by kernel_rfl

theorem told_put {n₀ : Nat} {w : World} {C g M : Nat} {s : Ck} (h : ClockAt n₀ w C g M s) (key v : Int) {r : Value} (hr : s.told zeroI key = r) : Calls Try.prog 14 #[.pointer (some ⟨C, 0, none⟩), .int .i64 key, .int .i64 v] w (ClockDid n₀ C g M (s.put zeroI key (.int .i64 v)) r w) := by
  subst hr; exact put_any h key v
theorem told_get {n₀ : Nat} {w : World} {C g M : Nat} {s : Ck} (h : ClockAt n₀ w C g M s) (key : Int) {r : Value} (hr : lookRes zeroI s key = r) : Calls Try.prog 10 #[.pointer (some ⟨C, 0, none⟩), .int .i64 key] w (ClockDid n₀ C g M (s.got key) r w) := by
  subst hr; exact get_any h key
theorem told_len {n₀ : Nat} {w : World} {C g M : Nat} {s : Ck} (h : ClockAt n₀ w C g M s) (hr : s.m.length = 3) : Calls Try.prog 15 #[.pointer (some ⟨C, 0, none⟩)] w fun e w' => e = .returned (.int .i64 3) ∧ w = w' := by
  have := len_any h
  rw [hr] at this
  exact this
theorem new3 (w : World) : Calls Try.prog 4 #[.int .i64 3] w fun e w' => e = .returned (.pointer (some ⟨w.heap.size + 2, 0, none⟩)) ∧ ClockAt w.heap.size w' (w.heap.size + 2) w.heap.size (w.heap.size + 1) (Ck.new zeroI 3) ∧ Below w.heap.size w w' := new_any w.heap.size 3 (by decide) w (Nat.le_refl _)
set_option maxRecDepth 100000 in
set_option maxHeartbeats 4000000 in
theorem awake08 (w : World) : Calls Try.prog 6 #[] w fun e w' => e = .returned (.bool true) ∧ Below w.heap.size w w' := by
  go_enter Try.func6, Try.ntmps6
  go_wp2_with (first
    | (go_at_call 4; (with_reducible refine (new3 _).mono ?_); rintro e w1 ⟨rfl, hb1, hw1⟩; have H1 := Lib.hid (told_put hb1 1 10 aw1); have HW := Lib.hid hw1; clear hb1 hw1)
    | (go_at_call 14; (with_reducible refine H1.out.mono ?_); rintro e w2 ⟨rfl, hb2, hm2⟩; have H2 := Lib.hid (told_put hb2 2 20 aw2); have HM2 := Lib.hid hm2; clear H1 hb2 hm2)
    | (go_at_call 14; (with_reducible refine H2.out.mono ?_); rintro e w3 ⟨rfl, hb3, hm3⟩; have H3 := Lib.hid (told_put hb3 3 30 aw3); have HM3 := Lib.hid hm3; clear H2 hb3 hm3)
    | (go_at_call 14; (with_reducible refine H3.out.mono ?_); rintro e w4 ⟨rfl, hb4, hm4⟩; have H4 := Lib.hid (told_put hb4 4 40 aw4); have HM4 := Lib.hid hm4; clear H3 hb4 hm4)
    | (go_at_call 14; (with_reducible refine H4.out.mono ?_); rintro e w5 ⟨rfl, hb5, hm5⟩; have H5 := Lib.hid (told_get hb5 2 aw5); have HM5 := Lib.hid hm5; clear H4 hb5 hm5)
    | (go_at_call 10; (with_reducible refine H5.out.mono ?_); rintro e w6 ⟨rfl, hb6, hm6⟩; have H6 := Lib.hid (told_put hb6 5 50 aw6); have HM6 := Lib.hid hm6; clear H5 hb6 hm6)
    | (go_at_call 14; (with_reducible refine H6.out.mono ?_); rintro e w7 ⟨rfl, hb7, hm7⟩; have H7 := Lib.hid (told_len hb7 aw7); have HM7 := Lib.hid hm7; clear H6 hb7 hm7)
    | (go_at_call 15; (with_reducible refine H7.out.mono ?_); rintro e w8 ⟨rfl, rfl⟩))
  go_ret
  have hm := ((((HM2.out.trans HM3.out (fun _ _ h => h)).trans HM4.out (fun _ _ h => h)).trans HM5.out (fun _ _ h => h)).trans HM6.out (fun _ _ h => h)).trans HM7.out (fun _ _ h => h)
  exact ⟨rfl, HW.out.trans (hm.below (fun i hi => by omega) HW.out.size)⟩

theorem get_nil (key : Int) (w : World) : Calls Try.prog 10 #[.pointer none, .int .i64 key] w fun e w' => e = .returned (.tuple #[zeroI, .bool false]) ∧ w = w' := by
  go_enter Try.func10, Try.ntmps10
  go_wp2_with (go_at_call 9; (with_reducible refine (look_nil _ _).mono ?_); rintro e w' ⟨rfl, rfl⟩)
  go_ret2
  exact ⟨rfl, rfl⟩
theorem drop_nil (key : Int) (w : World) : Calls Try.prog 12 #[.pointer none, .int .i64 key] w fun e w' => e = .returned (.tuple #[zeroI, .bool false]) ∧ w = w' := by
  go_enter Try.func12, Try.ntmps12
  go_wp2_with (go_at_call 9; (with_reducible refine (look_nil _ _).mono ?_); rintro e w' ⟨rfl, rfl⟩)
  go_ret2
  exact ⟨rfl, rfl⟩
theorem put_nil (key v : Int) (w : World) : Calls Try.prog 14 #[.pointer none, .int .i64 key, .int .i64 v] w fun e w' => e = .returned (.tuple #[.int .i64 0, .int .i64 0, .bool false]) ∧ w = w' := by
  go_enter Try.func14, Try.ntmps14
  go_wp2_with (go_at_call 5; (with_reducible refine (room_nil _).mono ?_); rintro e w' ⟨rfl, rfl⟩)
  go_ret3
  exact ⟨rfl, rfl⟩
theorem keys_nil (w : World) : Calls Try.prog 18 #[.pointer none] w fun e w' => e = .returned (.slice none 0 0) ∧ w = w' := by
  go_enter Try.func18, Try.ntmps18
  go_wp2
  go_ret
  exact ⟨rfl, rfl⟩
end Go.Proofs.Ytadhkciggiefbaa

/-
  sgraffitolaw20's awake.
  Conditions: none.
-/
import Derived.Test.YtgaabclgoolalaaScr7
import Derived.Lib.SlBytesConst
namespace Go.Proofs.Ytgaabclgoolalaa
open Go.RowKit
attribute [local go_sem] Oper.semAt_some

/-- The example's act. -/
def actK : SAct := ⟨0, [107#8], [], 0, []⟩
theorem packE_K : packE [actK] = 0 := by decide
theorem packS_K : packS [actK] = [1#8, 0#8, 0#8, 0#8, 0#8, 1#8, 0#8, 107#8] := by decide
theorem kn_nat (i : Nat) (h : i < 10) : kn (i : Int) = i := by unfold kn; rw [if_pos ⟨by omega, by omega⟩]; rfl
theorem str_self (s : ByteArray) : (s.toList == s.toList) = true := beq_self_eq_true _
set_option maxRecDepth 100000 in
set_option maxHeartbeats 2000000 in
theorem awake20 (w : World) : Calls Try.prog 9 #[] w fun e w' => e = .returned (.bool true) ∧ Below w.heap.size w w' := by
  obtain ⟨w1, hw1⟩ : ∃ w1, w.alloc (.cells #[.int .u8 107] 5 (1, 2)) = w1 := ⟨_, rfl⟩
  obtain ⟨w2, hw2⟩ : ∃ w2, w1.alloc (.cells #[.int .i64 0, .slice (some ⟨w.heap.size, 0, none⟩) 1 1, .slice none 0 0, .int .i64 0, .slice none 0 0] 49) = w2 := ⟨_, rfl⟩
  have hs1 : w1.heap.size = w.heap.size + 1 := by rw [← hw1]; exact World.size_alloc _ _
  have hs2 : w2.heap.size = w1.heap.size + 1 := by rw [← hw2]; exact World.size_alloc _ _
  have hb1 : Below w.heap.size w w1 := by rw [← hw1]; exact (Below.refl _ w).alloc (Nat.le_refl _) _
  have hb2 : Below w.heap.size w w2 := by rw [← hw2]; exact hb1.alloc hb1.size _
  have hk1 : w1.heap[w.heap.size]? = some (.cells #[.int .u8 107] 5 (1, 2)) := by rw [← hw1]; exact heap_alloc_new _ _
  have hk1' : w2.heap[w.heap.size]? = some (.cells #[.int .u8 107] 5 (1, 2)) := by rw [← hw2]; exact blk_alloc hk1 _
  have hk2 : w2.heap[w1.heap.size]? = some (.cells #[.int .i64 0, .slice (some ⟨w.heap.size, 0, none⟩) 1 1, .slice none 0 0, .int .i64 0, .slice none 0 0] 49 (0, 0)) := by rw [← hw2]; exact heap_alloc_new _ _
  have hA : ActsAt w2.heap.size w2 (.slice (some ⟨w1.heap.size, 0, none⟩) 1 1) [actK] := by
    refine ⟨_, 1, rfl, Nat.le_refl _, .inr ⟨w1.heap.size, 0, rfl, by omega, fun i hi => ?_⟩⟩
    have h0 : i = 0 := by simpa using hi
    subst h0
    refine ⟨some ⟨w.heap.size, 0, none⟩, 1, none, 0, none, 0, ⟨blk_cell hk2 0, blk_cell hk2 1, blk_cell hk2 2, blk_cell hk2 3, blk_cell hk2 4⟩, ?_, BytesAt.nil _ _, IntsAt.nil _ _⟩
    refine ⟨_, 1, rfl, Nat.le_refl _, fun h => by simp at h, .inr ⟨w.heap.size, 0, rfl, by omega, fun j hj => ?_⟩⟩
    have h0 : j = 0 := by
      have : j < 1 := hj
      omega
    subst h0
    show w2.cell? ⟨w.heap.size, 0 + 0, none⟩ = _
    simp [World.cell?, hk1', actK]
    decide
  have HPK := Lib.hid (pack_any _ _ w2 hA (by decide))
  unfold PackRet at HPK
  rw [packE_K, packS_K] at HPK
  have HKD := Lib.hid (fun W => (kind_any ⟨#[114, 111, 116]⟩ W).mono (R' := fun e w' => e = .returned (.tuple #[.int .i64 8, .bool true]) ∧ Below W.heap.size W w') (fun e w' ⟨k, f, he, hk, hb⟩ => by
    have h8 : KindOf 10 ⟨#[114, 111, 116]⟩ 8 true := .inl ⟨rfl, 8, by decide, rfl, rfl⟩
    obtain ⟨rfl, rfl⟩ := KindOf.one (by decide) hk h8
    exact ⟨he, hb⟩))
  have HNM : Hid (∀ W, Calls Try.prog 23 #[.int .i64 9] W fun e w' => e = .returned (.string ⟨#[115, 116, 97, 116, 115]⟩) ∧ Below W.heap.size W w') := fun W => name_any 9 W
  have HW1 := Lib.hid hw1
  have HW2 := Lib.hid hw2
  have HB2 := Lib.hid hb2
  have HS1 := Lib.hid hs1
  have kc := fun (W : World) (C : Array Value) (n c : Nat) => Lib.run_convert_bytes_const (P := Try.prog) W 22 5 C n c Try.underlying22 Try.underlying5
  have q1 : ((strB [1#8, 0#8, 0#8, 0#8, 0#8, 1#8, 0#8, 107#8]).toList == [1, 0, 0, 0, 0, 1, 0, 107]) = true := by rw [ByteArray.toList_eq]; decide
  have q2 := str_self ⟨#[115, 116, 97, 116, 115]⟩
  clear hw1 hw2 hb1 hb2 hk1 hk1' hk2 hA hs1 hs2
  go_enter Try.func9, Try.ntmps9
  go_wp2_with (first
    | (go_at_call 11; rw [HW1.out]; (first | rw [← HS1.out] | skip); rw [HW2.out]; (with_reducible refine HPK.out.mono ?_); rintro e w3 ⟨u, rfl, hu, hb⟩; have HU := Lib.hid hu; have hcv := conv_str hu; have HB3 := Lib.hid (HB2.out.trans (hb.mono HB2.out.size)); clear hu hb)
    | (go_at_call 22; (with_reducible refine (HKD.out _).mono ?_); rintro e w4 ⟨rfl, hb⟩; have HB4 := Lib.hid (HB3.out.trans (hb.mono HB3.out.size)); have hcv := conv_str (HU.out.below hb); clear hb)
    | (go_at_call 23; (with_reducible refine (HNM.out _).mono ?_); rintro e w5 ⟨rfl, hb⟩; have HB5 := Lib.hid (HB4.out.trans (hb.mono HB4.out.size)); clear hb))
  go_ret
  exact ⟨rfl, HB5.out⟩
end Go.Proofs.Ytgaabclgoolalaa

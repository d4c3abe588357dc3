/-
  What crc.Table and crc.down answer: the table of 256 rows, and a number one place down. Nothing that was there is written.
  Conditions: none.
-/
import Derived.Test.YtopjadmjahpeoaaRows
import Derived.Test.YtopjadmjahpeoaaCrcMath
import Derived.Test.YtopjadmjahpeoaaRange
namespace Go.Proofs.Ytopjadmjahpeoaa
open Go.RowKit

theorem shr1_32 (x : BitVec 32) : U x / (2 : Int) = U (x >>> 1) := shr_U x 1 _ (by decide)
theorem and1_32 (x : BitVec 32) : (bits .and .u32 (U x) 1 == 1) = decide (x &&& 1#32 = 1#32) := by
  have h : bits .and .u32 (U x) 1 = U (x &&& 1#32) := and_u32 x 1#32
  rw [h]
  exact U_beq (x &&& 1#32) 1#32
theorem xorP (x : BitVec 32) : bits .xor .u32 (U x) 2197175160 = U (x ^^^ 2197175160#32) := xor_u32 x 2197175160#32

set_option maxHeartbeats 400000 in
theorem down_any (x : BitVec 32) (w : World) : Calls Try.prog 69 #[.int .u32 (U x)] w fun e w' => e = .returned (.int .u32 (U (dn x))) ∧ w = w' := by
  have h0 := U_nonneg x
  have ha := and1_32 x
  have e1 := shr1_32 x
  have e2 := xorP (x >>> 1)
  by_cases h : x &&& 1#32 = 1#32
  · have hd : U (dn x) = U (x >>> 1 ^^^ 2197175160#32) := by rw [dn, if_pos h]
    rw [hd]
    have ha' : (bits .and .u32 (U x) 1 == 1) = true := by rw [ha]; simpa using h
    clear ha hd h
    go_enter Try.func69, Try.ntmps69
    go_wp2
    go_ret
    exact ⟨by rw [← e2, ← e1]; rfl, rfl⟩
  · have hd : U (dn x) = U (x >>> 1) := by rw [dn, if_neg h]
    rw [hd]
    have ha' : (bits .and .u32 (U x) 1 == 1) = false := by rw [ha]; simpa using h
    clear ha hd h
    go_enter Try.func69, Try.ntmps69
    go_wp2
    go_ret
    exact ⟨by rw [← e1]; rfl, rfl⟩

/-- 256 cells of 0. -/
def Z256 : Array Value := Array.replicate 256 (.int .u32 0)
theorem zero24 (w : World) : (zeroValue 115).run Try.prog w = .ok (.agg Z256) w := by kernel_rfl
theorem info24 : (Try.prog.info? 115).map (·.size) = some 256 := by kernel_rfl

theorem row1 : U (dnN 0 1#32) = 1 := by decide

theorem place_bit (j : Nat) (hj : j < 8) : ((128 : Int) / 2 ^ j = ((128 / 2 ^ j : Nat) : Int)) ∧ 1 ≤ 128 / 2 ^ j ∧ 128 / 2 ^ j ≤ 128 ∧ 2 ^ j * (2 * (128 / 2 ^ j)) = 256 := by
  have : ∀ j < 8, ((128 : Int) / 2 ^ j = ((128 / 2 ^ j : Nat) : Int)) ∧ 1 ≤ 128 / 2 ^ j ∧ 128 / 2 ^ j ≤ 128 ∧ 2 ^ j * (2 * (128 / 2 ^ j)) = 256 := by decide
  exact this j hj

set_option maxRecDepth 100000 in
set_option maxHeartbeats 1000000 in
theorem table_any (w : World) : Calls Try.prog 63 #[] w fun e w' => e = .returned (.agg (Arr 255)) ∧ Below w.heap.size w w' := by
  have hz := zero24
  go_enter Try.func63, Try.ntmps63
  go_wp2
  go_loopw [2, 6] (fun r p wr => ∃ j : Nat, j ≤ 8 ∧ p = .int .i64 j ∧ r = .int .u32 (U (dnN j 1#32)) ∧ wr.heap[w.heap.size + 1]? = some (.cells (Arr (2 ^ j - 1)) 115 (0, 0)) ∧ wr.heap[w.heap.size]? = some (.cells Z256 115 (0, 0)) ∧ Below w.heap.size w wr) (fun _ p _ => 8 - (intOf p).toNat)
  case atStart =>
    refine ⟨0, by omega, rfl, by rw [row1], ?_, ?_, ((Below.refl _ _).alloc (Nat.le_refl _) _).alloc (by simp) _⟩
    · rw [show (2 : Nat) ^ 0 - 1 = 0 by decide, Arr_zero]
      exact heap_alloc2_new w _ _
    · exact heap_alloc2_old w _ _
  case round =>
    obtain ⟨j, hj, rfl, rfl, hT, hZ, hB⟩ := hrel
    by_cases hlt : j < 8
    · obtain ⟨eb, hb1, hb2, hb3⟩ := place_bit j hlt
      have hread := Arr_read j
      have hwrite := Arr_write j
      have hsucc : 2 ^ j - 1 + 2 ^ j = 2 ^ (j + 1) - 1 := by
        have := Nat.two_pow_pos j
        rw [Nat.pow_succ]; omega
      have hpj := Nat.two_pow_pos j
      generalize 128 / 2 ^ j = bit at eb hb1 hb2 hb3 hread hwrite
      obtain ⟨K, hK⟩ : ∃ K : Nat, 2 ^ j = K := ⟨_, rfl⟩
      rw [hK] at hb3 hread hwrite hsucc hpj hT
      clear hK
      have HS := Lib.hid hsucc
      have H3 := Lib.hid hb3
      clear hsucc hb3
      have cb1 : (1 : Int) ≤ bit := by omega
      have cb2 : (bit : Int) ≤ 128 := by omega
      go_wp2_with (go_at_call 69; refine (down_any _ _).mono ?_; rintro e w' ⟨rfl, rfl⟩)
      obtain ⟨wo, rfl⟩ : ∃ wo : World, wo = wr := ⟨_, rfl⟩
      go_loopw [5] (fun i wi => ∃ m I : Nat, m ≤ K ∧ Hid (I = m * (2 * bit)) ∧ i = .int .i64 I ∧ wi.heap[w.heap.size + 1]? = some (.cells (Arr (K - 1 + m)) 115 (0, 0)) ∧ wi.heap[w.heap.size]? = some (.cells Z256 115 (0, 0)) ∧ Below w.heap.size w wi) (fun i _ => 256 - (intOf i).toNat)
      case atStart => exact ⟨0, 0, Nat.zero_le _, by show 0 = _; simp, rfl, hT, hZ, hB⟩
      case round =>
        obtain ⟨m, I, hm, HI, rfl, hT2, hZ2, hB2⟩ := hrel
        by_cases hlm : m < K
        · have hr := hread m hlt hlm
          have hw := hwrite m hlt hlm
          rw [← HI.out] at hr hw
          have hI : I + 2 * bit ≤ 256 := by
            have h1 := HI.out
            have h2 := H3.out
            have h3 : (m + 1) * (2 * bit) ≤ K * (2 * bit) := Nat.mul_le_mul_right _ hlm
            rw [Nat.add_mul, Nat.one_mul] at h3
            omega
          have c1 : wr.cell? ⟨w.heap.size + 1, I, none⟩ = some (.int .u32 (U (tabN I))) := by rw [cell_of_row _ _ _ _ _ _ hT2, hr]
          have f1 : wr.frozen? ⟨w.heap.size + 1, I + bit, none⟩ = false := frozen_of_row _ _ _ _ _ hT2
          have c2 : wr.cell? ⟨w.heap.size + 1, I + bit, none⟩ = some (.int .u32 (U (tabAt (K - 1 + m) (I + bit)))) := by rw [cell_of_row _ _ _ _ _ _ hT2]; exact Arr_get _ _ (by omega)
          have i0 : (0 : Int) ≤ I := by omega
          have i1 : (I : Int) < 256 := by omega
          have i2 : (I : Int) + bit < 256 := by omega
          have HW := Lib.hid hw
          have HX := Lib.hid (xor_u32 (tabN I) (dn (dnN j 1#32)))
          have HT := Lib.hid hT2
          clear hr hw hT2 hread hwrite hT hZ
          go_wp2
          go_roundw
          case rel =>
            refine ⟨m + 1, I + 2 * bit, by omega, ?_, by go_num, ?_, ?_, hB2.setCell (p := ⟨w.heap.size + 1, _, none⟩) (by simp) _⟩
            · show _ = _
              rw [HI.out, Nat.add_mul, Nat.one_mul]
            · rw [heap_setCell_same _ _ _ _ _ _ HT.out, HX.out, ← dnN_succ, ← HW.out]
            · rw [heap_setCell_other _ _ _ _ (by simp)]; exact hZ2
          case measure => simp [intOf]; omega
        · obtain rfl : m = K := by omega
          have hI : I = 256 := by rw [HI.out, H3.out]
          subst hI
          rw [HS.out] at hT2
          clear hread hwrite hT hZ
          go_wp2
          go_roundw
          case rel => exact ⟨j + 1, by omega, by go_num, by rw [dnN_succ], hT2, hZ2, hB2⟩
          case measure => simp [intOf]; omega
    · obtain rfl : j = 8 := by omega
      rw [show 2 ^ 8 - 1 = 255 by decide] at hT
      have hlt0 : w.heap.size < wr.heap.size := (Array.getElem?_eq_some_iff.1 hZ).1
      have hst : (storeCells ⟨w.heap.size, 0, none⟩ (Arr 255).toList).run Try.prog wr = .ok () (wr.setRow w.heap.size (Arr 255)) := run_storeAll hZ (by rw [Arr_size]; simp [Z256]) (Arr_one 255)
      go_wp2_with (refine wpList_load_row rfl 115 _ rfl (w.heap.size + 1) rfl 115 _ _ _ hT Try.underlying115 rfl (by rw [Arr_size]; exact info24) ?_)
      exact bodyPost_ret (results_cell_row rfl _ _ w.heap.size 115 (Arr 255) (0, 0) _ rfl (setRow_heap _ _ _ _ _ _ hZ) Try.underlying115 rfl (by rw [Arr_size]; exact info24)) rfl ⟨rfl, below_setRow hB (Nat.le_refl _) _⟩

end Go.Proofs.Ytopjadmjahpeoaa

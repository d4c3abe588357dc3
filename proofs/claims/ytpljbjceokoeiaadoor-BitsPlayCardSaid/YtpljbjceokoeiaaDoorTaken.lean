/-
  bits: the lowest bit of a word (math/bits.TrailingZeros64, its table as the program lays it); the range over all numbers that are taken.
  Conditions: none.
-/
import Derived.Test.YtpljbjceokoeiaaDoorBits4
import Derived.Test.YtpljbjceokoeiaaDoorTakenMath
import Derived.Test.YtpljbjceokoeiaaDoorRangeBox
import Derived.Shelf.Spec.TrailingZeros
import Derived.Lib.LaidTab
import Derived.LaidMore
namespace Go.Proofs.YtpljbjceokoeiaaDoor
open Go.RowKit Go.Shelf

/-- The table in its variable. -/
def Tab (w : World) : Prop := ∀ j, j < 64 → w.cell? ⟨0, j, none⟩ = some (.int .u8 (Lib.deBruijn64tab.getD j 0 : Nat))
theorem Tab.below {n : Nat} {w w' : World} (h : Tab w) (hn : 0 < n) (hb : Below n w w') : Tab w' := fun j hj => (hb.cell (p := ⟨0, j, none⟩) hn).trans (h j hj)
theorem Tab.size {w : World} (h : Tab w) : 0 < w.heap.size := World.block_lt_of_cell? _ _ (h 0 (by decide))
theorem Tab.next {w w' : World} (h : Tab w) (hb : Below w.heap.size w w') : Tab w' := h.below h.size hb
theorem tab_laid {W : World} (h : laidMetH Tryd.prog [("math/bits.deBruijn64tab", Rows.laid_math_bits_deBruijn64tab)] W) : Tab W := by
  rw [MakeChecks.laidMetH_plain _ _ _ (by kernel_rfl)] at h
  have hT := Lib.tabIs_of_head (k := .u8) (zs := Lib.deBruijn64tab.map fun (n : Nat) => (n : Int)) (n := 64) (t := 62) (e := 5) (g := 0) (by kernel_rfl) (by kernel_rfl) (by kernel_rfl) (by kernel_rfl) (by kernel_rfl) (by kernel_rfl) h
  intro j hj
  have hl : j < Lib.deBruijn64tab.length := by rw [show Lib.deBruijn64tab.length = 64 from rfl]; exact hj
  have := hT.cell (g := 0) (by kernel_rfl) j (by rw [List.length_map]; exact hl)
  rw [this]
  simp [List.getD, hl]

theorem tz_core (x k idx : Nat) (w : World) (hx0 : ((x : Int) == 0) = false)
    (key : IntKind.u64.wrap (bits BinOp.and IntKind.u64 (x : Int) (IntKind.u64.wrap (-(x : Int))) * 285870213051353865) / 288230376151711744 = (idx : Int))
    (hi : idx < 64) (hk : k < 64) (hcell : w.cell? ⟨0, idx, none⟩ = some (.int .u8 k)) :
    Calls Tryd.prog 30 #[.int .u64 x] w fun e w' => e = .returned (.int .i64 k) ∧ w' = w := by
  go_enter Tryd.func30, Tryd.ntmps30
  go_wp2_with (simp only [key])
  go_ret
  exact ⟨rfl, rfl⟩
theorem tz_any (y : BitVec 64) (h0 : y ≠ 0#64) (w : World) (hT : Tab w) : Calls Tryd.prog 30 #[.int .u64 (U y)] w fun e w' => e = .returned (.int .i64 (Lib.ctz 64 y.toNat)) ∧ w' = w := by
  have hne : y.toNat ≠ 0 := fun e => h0 (BitVec.eq_of_toNat_eq (by simpa using e))
  obtain ⟨hlow, hk⟩ := Lib.lowest_bit 64 y.toNat hne y.isLt
  obtain ⟨hi, htab⟩ := Lib.deBruijn64_at _ hk
  have hcell := hT _ hi
  rw [htab] at hcell
  exact tz_core y.toNat _ _ w (by simp; omega) (tz64_key y.toNat _ y.isLt hne hlow) hi hk hcell

/-- What is handed on of a number. -/
def numEnc (x : Nat) : Array Value := #[.int .i64 (x : Int)]
theorem pred_u64 (y : BitVec 64) : bits .and .u64 (U y) (IntKind.u64.wrap (U y - 1)) = U (y &&& (y - 1#64)) := by
  have e : IntKind.u64.wrap (U y - 1) = U (y - 1#64) := by
    rw [wrap_u64_mod, Int.sub_eq_add_neg, BitVec.ofInt_add, ofInt_U, BitVec.sub_eq_add_neg]
    rfl
  rw [e, and_u64]
theorem pred_lt {y : BitVec 64} (h0 : y ≠ 0#64) : (y &&& (y - 1#64)).toNat < y.toNat := by
  have hne : y.toNat ≠ 0 := fun e => h0 (BitVec.eq_of_toNat_eq (by simpa using e))
  have hlt := y.isLt
  rw [BitVec.toNat_and]
  have h1 : y.toNat &&& (y - 1#64).toNat ≤ (y - 1#64).toNat := Nat.and_le_right
  have e : (y - 1#64).toNat = y.toNat - 1 := by
    rw [BitVec.toNat_sub]
    simp
    omega
  omega
section
attribute [local go_sem] pred_u64
set_option maxRecDepth 100000 in
set_option maxHeartbeats 2000000 in
theorem taken1_in (F : Fence) (n : Nat) (h6 : F.fn 29) (h7 : F.fn 30) (hro : F.round = none) (hn : 1 ≤ n)
    (htz : ∀ (W : World) (y : BitVec 64), y ≠ 0#64 → Tab W → CallsIn F (n - 1) Tryd.prog 30 #[.int .u64 (U y)] W fun e w' => e = .returned (.int .i64 (Lib.ctz 64 y.toNat)) ∧ w' = W)
    (l B D g cap : Nat) (S : Nat → Prop) (s : BSet) (J Jx : List Nat → World → Prop)
    (W : World) (n₀ : Nat) (h : BitsAt n₀ W D g cap s) (hT : Tab W)
    (hY : ∀ pre x W, J pre W → pre.length < s.n → YieldAt F (n - 1) Tryd.prog l (numEnc x) W fun e W' =>
      (e = .returned (.bool true) ∧ J (pre ++ [x]) W' ∧ KeepsAt S W W') ∨ (e = .returned (.bool false) ∧ Jx (pre ++ [x]) W'))
    (hB : W.heap[B]? = some (.cells #[.pointer (some ⟨D, 0, none⟩)] 23 (0, 0))) (hSg : S g) (hS0 : S 0) (h0 : J [] W) :
    CallsIn F n Tryd.prog 29 #[.func (.yield l) #[] #[], .pointer (some ⟨B, 0, none⟩)] W fun e W' => (∃ v, e = .returned v) ∧
      ((∃ ys, ys = s.all ∧ J ys W') ∨ (∃ pre, (∃ k, k ≤ s.n ∧ pre = s.allTo k) ∧ Jx pre W')) := by
  have cB : W.cell? ⟨B, 0, none⟩ = some (.pointer (some ⟨D, 0, none⟩)) := blk_cell hB 0
  obtain ⟨c0, c1, c2⟩ := h.cells
  have hok := h.ok
  have hlen : s.ws.length ≤ 1024 := by have := hok.len; have := hok.n2; omega
  have l1 : (s.ws.length : Int) ≤ 1024 := by omega
  have HWD : Hid (∀ W', KeepsAt S W W' → ∀ k, k < s.ws.length → W'.cell? ⟨g, k, none⟩ = some (.int .u64 (U (s.ws[k]?.getD 0#64)))) := fun W' hk k hlt => hk.cell (p := ⟨g, k, none⟩) hSg (h.word hlt)
  have HT : Hid (∀ W', KeepsAt S W W' → Tab W') := fun W' hk j hj => hk.cell (p := ⟨0, j, none⟩) hS0 (hT j hj)
  have HY := Lib.hid hY
  have HTZ := Lib.hid htz
  have HOK := Lib.hid hok
  clear hB h hT hY htz hok
  refine callsIn_of_wp Tryd.func29 rfl h6 ?_ hro
  simp only [Tryd.ntmps29, List.size_toArray, List.length_cons, List.length_nil, Nat.reduceAdd, Nat.reduceSub, Array.replicate_succ, Array.replicate_zero, List.push_toArray, List.append_toArray, List.nil_append, List.cons_append]
  gi_wp2
  gi_loopw [10] (fun i wr => ∃ k : Nat, k ≤ s.ws.length ∧ i = .int .i64 k ∧ J (s.allTo (64 * k)) wr ∧ KeepsAt S W wr)
    (fun i _ => s.ws.length - (intOf i).toNat)
  case atStart => exact ⟨0, Nat.zero_le _, rfl, h0, KeepsAt.refl _ _⟩
  case round =>
    obtain ⟨k, hk, rfl, hJs, hnx⟩ := hrel
    by_cases hlt : k < s.ws.length
    · have c3 := HWD.out _ hnx k hlt
      have HWK := Lib.hid (fun i hi => has_word s k i hi)
      have HKN : Hid (64 * k < s.n) := by unfold Hid; have := HOK.out.len; omega
      generalize s.ws[k]?.getD 0#64 = x at c3 HWK
      have k1 : (k : Int) < s.ws.length := by omega
      have HLT := Lib.hid hlt
      have HJ := Lib.hid hJs
      have HNX := Lib.hid hnx
      clear hJs hnx hlt
      gi_wp2
      gi_loopw [4] (fun v wr => ∃ (j : Nat) (y : BitVec 64), v = .int .u64 (U y) ∧ j ≤ 64 ∧ Hid (Hi x j y) ∧ Hid (J (s.allTo (64 * k + j)) wr) ∧ Hid (KeepsAt S W wr)) (fun v _ => (intOf v).toNat)
      case atStart => exact ⟨0, x, rfl, Nat.zero_le _, hi_zero x, HJ.out, HNX.out⟩
      case round =>
        obtain ⟨j, y, rfl, hj, hhi, hJs, hnx⟩ := hrel
        by_cases hy : y = 0#64
        · have e0 : (U y != 0) = false := by rw [hy]; rfl
          have hj2 : Hid (J (s.allTo (64 * (k + 1))) wr) := by
            have := hi_none hhi.out hy
            unfold Hid
            rw [allTo_none s (show 64 * k + j ≤ 64 * (k + 1) by omega) fun i h1 h2 => by
              have := this (i - 64 * k) (by omega) (by omega)
              rw [← HWK.out (i - 64 * k) (by omega), show 64 * k + (i - 64 * k) = i by omega] at this
              exact this]
            exact hJs.out
          clear hy hhi hJs HJ HNX
          gi_wp2
          go_roundw
          case rel => exact ⟨k + 1, HLT.out, by go_num, hj2.out, hnx.out⟩
          case measure => have := HLT.out; simp [intOf]; omega
        · have e0 : (U y != 0) = true := by
            have : (U y == 0) = false := by rw [show (0 : Int) = U (0#64) from rfl, U_beq]; simpa using hy
            simp [bne, this]
          have HTY := Lib.hid (HTZ.out wr y hy (HT.out _ hnx.out))
          obtain ⟨q1, q2, q3, q4, q5⟩ := hi_step hhi.out hy
          have hpl := Lib.hid (pred_lt hy)
          generalize Lib.ctz 64 y.toNat = t at HTY q1 q2 q3 q4 q5
          have hhit : s.allTo (64 * k + t + 1) = s.allTo (64 * k + j) ++ [64 * k + t] := allTo_hit s (by omega) (fun i h1 h2 => by
            have := q4 (i - 64 * k) (by omega) (by omega)
            rw [← HWK.out (i - 64 * k) (by omega), show 64 * k + (i - 64 * k) = i by omega] at this
            exact this) (by rw [HWK.out t q2]; exact q3)
          have hin : 64 * k + t < s.n := by
            refine Nat.lt_of_not_le fun hle => ?_
            have := HOK.out.above _ hle
            rw [HWK.out t q2, q3] at this
            cases this
          have HHI := Lib.hid q5
          have t1 : (t : Int) < 64 := by omega
          have HYR := Lib.hid (HY.out (s.allTo (64 * k + j)) (64 * k + t) wr hJs.out (Nat.lt_of_le_of_lt (allTo_len s _) (by omega)))
          rw [← hhit] at HYR
          unfold numEnc at HYR
          have HT2 : Hid (t < 64) := q2
          have HIN := Lib.hid hin
          have en : ((64 * k + t : Nat) : Int) = (k : Int) * 64 + t := by omega
          rw [en] at HYR
          have HEN := Lib.hid en
          clear hy hhi hJs q1 q2 q3 q4 q5 hhit hin HJ HNX en
          obtain ⟨fn, tmps, assign, body, hy, hR⟩ := HYR.out
          gi_wp2_with (gi_at_call 30; (with_reducible refine HTY.out.mono ?_); rintro e w' ⟨rfl, hw⟩; obtain rfl := hw.symm)
          refine hR.mono ?_
          rintro e W3 (⟨rfl, hJ3, hk3⟩ | ⟨rfl, hJx3⟩)
          · have hJ4 := Lib.hid hJ3
            have hK4 := Lib.hid (hnx.out.trans hk3)
            clear hJ3 hk3
            gi_wp2
            go_roundw
            case rel => exact ⟨t + 1, _, rfl, HT2.out, HHI.out, by rw [← Nat.add_assoc]; exact hJ4.out, hK4.out⟩
            case measure => exact hpl.out
          · gi_wp2
            refine bodyPost_ret (results_none rfl _ _ _) rfl ?_
            exact ⟨⟨_, rfl⟩, .inr ⟨_, ⟨64 * k + t + 1, HIN.out, rfl⟩, hJx3⟩⟩
    · obtain rfl : k = s.ws.length := by omega
      have HJ := Lib.hid hJs
      rw [all_words HOK.out] at HJ
      clear hJs hnx
      gi_wp2
      go_end0
      exact ⟨⟨_, rfl⟩, .inl ⟨_, rfl, HJ.out⟩⟩
end
end Go.Proofs.YtpljbjceokoeiaaDoor

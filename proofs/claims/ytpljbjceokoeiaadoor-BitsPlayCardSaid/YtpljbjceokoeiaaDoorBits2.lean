/-
  bits: New, firstFree, Take.
  Conditions: none.
-/
import Derived.Test.YtpljbjceokoeiaaDoorBits1
namespace Go.Proofs.YtpljbjceokoeiaaDoor
open Go.RowKit

theorem Tryd.infoU64 : (Tryd.prog.info? 53).map (fun i => (i.zero, i.size, i.bytes)) = some (some (.int .u64 0), 1, 8) := by kernel_rfl
theorem makeWords (n : Nat) (hn : n ≤ 1024) (W : World) : (Instr.makeSlice 49 (.int .i64 n) (.int .i64 n)).run Tryd.prog W = .ok (.slice (some ⟨W.heap.size, 0, none⟩) n n) (W.alloc (.cells (madeCells #[.int .u64 0] n) 53)) := by
  obtain ⟨i0, hi, hz0, hz1, hz2⟩ := info_parts Tryd.infoU64
  have h := run_make (P := Tryd.prog) W 49 53 i0 (.int .u64 0) Tryd.underlying49 hi hz0 .i64 .i64 n n (by omega) (by omega) (by rw [hz2]; omega) (by omega)
  rw [hz1] at h
  simpa [Value.cells] using h
theorem made_words (n : Nat) : (madeCells #[Value.int .u64 0] n).toList = wcells (List.replicate n 0#64) := by
  apply List.ext_getElem
  · simp [madeCells, wcells]
  · intro i h1 h2
    simp [madeCells, wcells, Nat.mod_one]
    rfl
theorem own_words (w : World) (base n : Nat) (hb : base ≤ w.heap.size) (hn : n ≤ 1024) : (w.alloc (.cells (madeCells #[.int .u64 0] n) 53)).ownsRow base 53 1 (.slice (some ⟨w.heap.size, 0, none⟩) n n) n (wcells (List.replicate n 0#64)) := by
  refine ⟨by simp [wcells_len], .inr ⟨w.heap.size, n, _, rfl, hb, heap_alloc_new _ _, Nat.le_refl _, by unfold maxLen; omega, ?_, ?_⟩⟩
  · rw [← Array.length_toList, made_words, wcells_len, List.length_replicate]; omega
  · rw [made_words, List.take_of_length_le (by rw [wcells_len, List.length_replicate]; omega)]
theorem bits_new (n₀ : Nat) (w : World) (n : Nat) (hr : 1 ≤ n ∧ n ≤ 65536) (hn : n₀ ≤ w.heap.size) (L : Nat) (hL : L = (n + 63) / 64) :
    BitsAt n₀ ((w.alloc (.cells (madeCells #[.int .u64 0] L) 53)).alloc (.cells #[.int .i64 n, .int .i64 0, .slice (some ⟨w.heap.size, 0, none⟩) L L] 51)) (w.heap.size + 1) w.heap.size L (BSet.new n) := by
  have hw : (BSet.new n).ws = List.replicate L 0#64 := by subst hL; rfl
  have hl : (BSet.new n).ws.length = L := by rw [hw, List.length_replicate]
  refine ⟨ok_new hr, ?_, ?_, by omega⟩
  · rw [hl]
    have := heap_alloc_new (w.alloc (.cells (madeCells #[.int .u64 0] L) 53)) (.cells #[.int .i64 n, .int .i64 0, .slice (some ⟨w.heap.size, 0, none⟩) L L] 51)
    rw [show (w.alloc (.cells (madeCells #[.int .u64 0] L) 53)).heap.size = w.heap.size + 1 by simp] at this
    exact this
  · rw [hl, hw]
    exact (own_words w n₀ L hn (by omega)).alloc _
set_option maxHeartbeats 1000000 in
theorem new_any (n₀ : Nat) (n : Nat) (hr : 1 ≤ n ∧ n ≤ 65536) (w : World) (hn : n₀ ≤ w.heap.size) :
    Calls Tryd.prog 5 #[.int .i64 n] w fun e w' => e = .returned (.pointer (some ⟨w.heap.size + 1, 0, none⟩)) ∧ BitsAt n₀ w' (w.heap.size + 1) w.heap.size ((n + 63) / 64) (BSet.new n) ∧ Below w.heap.size w w' := by
  have HB := Lib.hid (bits_new n₀ w n hr hn _ rfl)
  have hmk := makeWords ((n + 63) / 64) (by omega) w
  have hdiv : ((n : Int) + 64 - 1) / 64 = (((n + 63) / 64 : Nat) : Int) := by omega
  have n1 : (1 : Int) ≤ n := by omega
  have n2 : (n : Int) ≤ 65536 := by omega
  generalize (n + 63) / 64 = L at HB hmk hdiv
  go_enter Tryd.func5, Tryd.ntmps5
  go_wp2
  go_ret
  exact ⟨rfl, HB.out, ((Below.refl _ w).alloc (Nat.le_refl _) _).alloc (by simp) _⟩
theorem new_out (n : Int) (hr : n < 1 ∨ 65536 < n) (w : World) :
    Calls Tryd.prog 5 #[.int .i64 n] w fun e w' => e = .returned (.pointer none) ∧ w = w' := by
  rcases hr with h | h
  · go_enter Tryd.func5, Tryd.ntmps5
    go_wp2
    go_ret
    exact ⟨rfl, rfl⟩
  · have h1 : ¬ n < 1 := by omega
    go_enter Tryd.func5, Tryd.ntmps5
    go_wp2
    go_ret
    exact ⟨rfl, rfl⟩

theorem full_word {x : BitVec 64} : (U x == 18446744073709551615) = decide (x = BitVec.allOnes 64) := by
  rw [show (18446744073709551615 : Int) = U (BitVec.allOnes 64) from rfl, U_beq]
set_option maxHeartbeats 4000000 in
theorem firstFree_any {n₀ : Nat} {w : World} {D g cap : Nat} {s : BSet} (h : BitsAt n₀ w D g cap s) (a : Nat) (ha : a ≤ s.n) : Calls Tryd.prog 26 #[.pointer (some ⟨D, 0, none⟩), .int .i64 a] w fun e w' => e = .returned (.int .i64 (s.free a)) ∧ ∃ n, w' = w.drewN n := by
  obtain ⟨c0, c1, c2⟩ := h.cells
  have hlen := h.ok.len
  have hn2 := h.ok.n2
  have a1 : (a : Int) ≤ 65536 := by omega
  have HO := Lib.hid h
  have HC := Lib.hid h.cells
  have HLEN := Lib.hid hlen
  have hcap : s.ws.length ≤ 1024 := by omega
  have hcap1 : (s.ws.length : Int) ≤ 1024 := by omega
  clear hlen h c1
  go_enter Tryd.func26, Tryd.ntmps26
  go_wp2
  go_step3
  go_wp2
  go_step3
  go_wp2
  go_loopw [5, 6] (fun fv kv wr => ∃ k : Nat, a / 64 ≤ k ∧ k ≤ s.ws.length ∧ kv = .int .i64 k ∧ fv = .int .i64 s.n ∧ (∀ j, a ≤ j → j < 64 * k → j < s.n → s.has j = true) ∧ ∃ q, wr = w.drewN q) (fun _ kv _ => s.ws.length - (intOf kv).toNat)
  case atStart => exact ⟨a / 64, Nat.le_refl _, by have := HLEN.out; omega, by congr 1, rfl, fun j h1 h2 => by omega, 0, rfl⟩
  case round =>
    obtain ⟨k, hk, hkl, rfl, rfl, hno, q, rfl⟩ := hrel
    by_cases hlt : k < s.ws.length
    · have HN := Lib.hid hno
      clear hno
      have k1 : (k : Int) < s.ws.length := by omega
      have c3 := HO.out.word hlt
      by_cases hx : s.ws[k]?.getD 0#64 = BitVec.allOnes 64
      · rw [hx] at c3
        have e1 := full_word (x := BitVec.allOnes 64)
        rw [show decide (BitVec.allOnes 64 = BitVec.allOnes 64) = true by decide] at e1
        have HX := Lib.hid hx
        clear hx
        go_wp2
        go_roundw
        case rel =>
          refine ⟨k + 1, by omega, by omega, by go_num, rfl, fun j h1 h2 h3 => ?_, q, rfl⟩
          by_cases hj : j < 64 * k
          · exact HN.out j h1 hj h3
          · have : j / 64 = k := by omega
            unfold BSet.has
            rw [this, HX.out, BitVec.getLsbD_allOnes, decide_eq_true_eq]
            exact Nat.mod_lt _ (by decide)
        case measure => simp [intOf]; omega
      · have e1 : (U (s.ws[k]?.getD 0#64) == 18446744073709551615) = false := by rw [full_word]; simpa using hx
        generalize s.ws[k]?.getD 0#64 = x at c3 e1
        have HE1 := Lib.hid e1
        clear hx
        clear e1
        have e1 := HE1.out
        have HS : Hid (64 * k < s.n) := by have := HLEN.out; unfold Hid; omega
        go_wp2
        all_goals
          go_loopw [5, 8] (fun fv iv wr => ∃ m : Nat, 64 * k ≤ m ∧ a ≤ m ∧ m ≤ 64 * k + 64 ∧ m ≤ s.n ∧ iv = .int .i64 m ∧ fv = .int .i64 s.n ∧ (∀ j, a ≤ j → j < m → s.has j = true) ∧ ∃ q, wr = w.drewN q) (fun _ iv _ => s.n - (intOf iv).toNat)
          case atStart =>
            have hs := HS.out
            first
              | exact ⟨64 * k, by omega, by omega, by omega, by omega, by congr 1; omega, rfl, fun j h1 h2 => HN.out j h1 h2 (by omega), q, rfl⟩
              | exact ⟨a, by omega, by omega, by omega, by omega, rfl, rfl, fun j h1 h2 => by omega, q, rfl⟩
          case round =>
            obtain ⟨m, hm1, hm2, hm3, hm4, rfl, rfl, hno2, q2, rfl⟩ := hrel
            have HN2 := Lib.hid hno2
            clear hno2
            by_cases hmn : m < 64 * k + 64 ∧ m < s.n
            · obtain ⟨g1, g2⟩ := hmn
              have HH := has_any (HO.out.drewN q2) (m : Int)
              have t1 : (m : Int) < (k : Int) * 64 + 64 := by omega
              have t2 : (m : Int) < s.n := by omega
              have ehb : s.hasB (m : Int) = s.has m := by unfold BSet.hasB inB; simp [g2]
              rw [ehb] at HH
              cases hb : s.has m with
              | true =>
                rw [hb] at HH
                have HH := Lib.hid HH
                have HB := Lib.hid hb
                clear ehb hb
                go_wp2_with (go_at_call 13; (with_reducible refine HH.out.mono ?_); rintro e w' ⟨rfl, nq, rfl⟩)
                all_goals
                  go_roundw
                  case rel =>
                    refine ⟨m + 1, by omega, by omega, by omega, by omega, by go_num, rfl, fun j h1 h2 => ?_, q2 + nq, rfl⟩
                    by_cases hj : j < m
                    · exact HN2.out j h1 hj
                    · obtain rfl : j = m := by omega
                      exact HB.out
                  case measure => simp [intOf]; omega
              | false =>
                rw [hb] at HH
                have HH := Lib.hid HH
                have HB := Lib.hid hb
                have HF : Hid (s.free a = m) := free_spec s a (by omega) ⟨by omega, by omega⟩ HN2.out (fun _ => hb)
                clear ehb hb
                go_wp2_with (go_at_call 13; (with_reducible refine HH.out.mono ?_); rintro e w' ⟨rfl, nq, rfl⟩)
                all_goals
                  (try rw [Exit.noGoto_ret])
                  go_ret
                  exact ⟨by rw [HF.out]; rfl, q2 + nq, rfl⟩
            · go_wp2
              all_goals
                go_roundw
                case rel =>
                  refine ⟨k + 1, by omega, by omega, by go_num, rfl, fun j h1 h2 h3 => ?_, q2, rfl⟩
                  exact HN2.out j h1 (by omega)
                case measure => simp [intOf]; omega
    · obtain rfl : k = s.ws.length := by omega
      have HF : Hid (s.free a = s.n) := free_spec s a ha ⟨ha, Nat.le_refl _⟩ (fun j h1 h2 => hno j h1 (by have := HLEN.out; omega) h2) (fun h => absurd h (Nat.lt_irrefl _))
      clear hno
      go_wp2
      (try rw [Exit.noGoto_ret])
      go_ret
      exact ⟨by rw [HF.out]; rfl, q, rfl⟩
end Go.Proofs.YtpljbjceokoeiaaDoor

/-
  sgraffitoref23: Guess.
  Conditions: none.
-/
import Derived.Test.YtalgkiagdjckiaaRk3
namespace Go.Proofs.Ytalgkiagdjckiaa
open Go.RowKit

/-- The least of a number's counts in the first rows, 15 at most. -/
def gmn (C : Nat → Nat → Nat) (N : Nat) (h : BitVec 64) : Nat → Nat
  | 0 => 15
  | i + 1 => min (gmn C N h i) (C i (plc N h i))
theorem gmn_all (C : Nat → Nat → Nat) (N : Nat) (h : BitVec 64) : gmn C N h 4 = gss C N h := rfl
theorem gmn_le (C : Nat → Nat → Nat) (N : Nat) (h : BitVec 64) (i : Nat) : gmn C N h i ≤ 15 := by
  induction i with
  | zero => exact Nat.le_refl _
  | succ i ih => exact Nat.le_trans (Nat.min_le_left _ _) ih
set_option maxRecDepth 100000 in
set_option maxHeartbeats 2000000 in
theorem rguess_any {n₀ : Nat} {w : World} {a : Option Addr} {c N : Nat} {l : List Int} {C : Nat → Nat → Nat} (hR : RfIs n₀ w a c N l C) (hn₀ : n₀ ≤ w.heap.size) (age : Int) (h : BitVec 64) :
    Calls Try.prog 20 #[.agg #[.int .i64 (N : Int), .int .i64 age, .slice a (4 * N) c], .int .u64 (U h)] w fun e w' => e = .returned (.int .i64 ((gss C N h : Nat) : Int)) ∧ Below w.heap.size w w' := by
  have hle := hR.wide.le
  have hlen := hR.cnt.len
  have HEQ := Lib.hid hR.cnt.eq
  have HSM := Lib.hid hR.small
  have HROW := Lib.hid (fun (V : World) (hb : Below w.heap.size w V) => hR.row.below (hb.mono hn₀))
  have HPC := Lib.hid (fun (V : World) (r : Nat) (hr : r < 4) => rplace_any hR.wide age a (4 * N) c h hr V)
  have HPL := Lib.hid (fun r => plc_lt (N := N) (by omega) h r)
  obtain ⟨T, hT⟩ : ∃ T, 4 * N = T := ⟨_, rfl⟩
  rw [hT] at HROW HPC hlen ⊢
  have HT := Lib.hid hT
  have HLEN := Lib.hid hlen
  have HLE := Lib.hid hle
  have HN0 := Lib.hid hn₀
  obtain ⟨w1, hw1⟩ : ∃ w1, w.alloc (.cells #[.int .i64 (N : Int), .int .i64 age, .slice a T c] 30) = w1 := ⟨_, rfl⟩
  have hb1 : Below w.heap.size w w1 := by rw [← hw1]; exact (Below.refl _ w).alloc (Nat.le_refl _) _
  have hk1 : w1.heap[w.heap.size]? = some (.cells #[.int .i64 (N : Int), .int .i64 age, .slice a T c] 30 (0, 0)) := by rw [← hw1]; exact heap_alloc_new _ _
  have HW1 := Lib.hid hw1
  have HB1 := Lib.hid hb1
  have HK1 := Lib.hid hk1
  clear hw1 hb1 hk1 hle hlen hT hn₀ hR
  rw [← gmn_all]
  go_enter Try.func20, Try.ntmps20
  go_upto_region 1 with fail
  change Code.wp _ _ _ _ (w.alloc (.cells #[.int .i64 (N : Int), .int .i64 age, .slice a T c] 30))
  rw [HW1.out]
  clear HW1
  go_wp2
  go_loopw [5, 6, 7] (fun nv iv _ W => ∃ i : Nat, i ≤ 4 ∧ iv = .int .i64 (i : Int) ∧ nv = .int .i64 ((gmn C N h i : Nat) : Int) ∧ Below w1.heap.size w1 W) (fun _ iv _ _ => 4 - (intOf iv).toNat)
  case atStart => exact ⟨0, Nat.zero_le _, rfl, rfl, Below.refl _ _⟩
  case round =>
    obtain ⟨i, hi, rfl, rfl, hB⟩ := hrel
    have HB := Lib.hid hB
    by_cases h4 : i < 4
    · have hplt := HPL.out i
      have hK := rowI_lt h4 hplt
      obtain ⟨g, off, rfl, hg, hc⟩ := (HROW.out _ (HB1.out.trans (hB.mono HB1.out.size))).get (i := i * N + plc N h i) (by have := HLEN.out; have := HT.out; omega)
      rw [HEQ.out i _ h4 hplt] at hc
      have HGN : Hid (gmn C N h (i + 1) = min (gmn C N h i) (C i (plc N h i))) := rfl
      have HCS := Lib.hid (HSM.out i (plc N h i))
      have HPI := Lib.hid (fun V => HPC.out V i h4)
      have hgl := gmn_le C N h i
      obtain ⟨K, hKK⟩ : ∃ K, i * N + plc N h i = K := ⟨_, rfl⟩
      rw [hKK] at hK hc HPI
      obtain ⟨x, hx⟩ : ∃ x, C i (plc N h i) = x := ⟨_, rfl⟩
      rw [hx] at hc HGN HCS
      obtain ⟨m, hm⟩ : ∃ m, gmn C N h i = m := ⟨_, rfl⟩
      rw [hm] at HGN hgl ⊢
      have HS : Hid (∀ W, Below wr.heap.size wr W → (W.cell? ⟨w.heap.size, 0, none⟩ = some (.int .i64 (N : Int)) ∧ W.cell? ⟨w.heap.size, 1, none⟩ = some (.int .i64 age) ∧ W.cell? ⟨w.heap.size, 2, none⟩ = some (.slice (some ⟨g, off, none⟩) T c)) ∧ W.cell? ⟨g, off + K, none⟩ = some (.int .i64 (x : Int))) := fun W hb => by
        have h1 := ((hB.trans (hb.mono hB.size)).block _ (blk_lt HK1.out)).trans HK1.out
        exact ⟨⟨blk_cell h1 0, blk_cell h1 1, blk_cell h1 2⟩, (hb.cell (p := ⟨g, off + K, none⟩) (World.block_lt_of_cell? _ _ hc)).trans hc⟩
      have HBc := Lib.hid ((Below.refl wr.heap.size wr).drew)
      have k1 : (K : Int) < (T : Int) := by have := HT.out; omega
      have k2 : (0 : Int) ≤ (K : Int) := by omega
      have H4 := Lib.hid h4
      clear hplt hK hc hg hKK hx hm hB hi
      by_cases hxm : x < m
      · have x1 : (x : Int) < (m : Int) := by omega
        have HMN : Hid (gmn C N h (i + 1) = x) := by unfold Hid; rw [HGN.out]; omega
        go_wp2
        go_region_held3 (fun W => (W.cell? ⟨w.heap.size, 0, none⟩ = some (.int .i64 (N : Int)) ∧ W.cell? ⟨w.heap.size, 1, none⟩ = some (.int .i64 age) ∧ W.cell? ⟨w.heap.size, 2, none⟩ = some (.slice (some ⟨g, off, none⟩) T c)) ∧ W.cell? ⟨g, off + K, none⟩ = some (.int .i64 (x : Int)))
          (first | exact HS.out _ HBc.out | exact HS.out _ HBd.out)
          (first | (go_at_call 30; (with_reducible refine (HPI.out _).mono ?_); rintro e w8 ⟨rfl, hb8⟩; have HBd := Lib.hid (HBc.out.trans (hb8.mono HBc.out.size)); clear hb8))
        all_goals
          go_wp2
          go_roundw
          case rel => exact ⟨i + 1, by have := H4.out; omega, by go_num, by rw [HMN.out], HB.out.trans (HBd.out.mono HB.out.size)⟩
          case measure => have := H4.out; simp [intOf]; omega
      · have x1 : ¬ ((x : Int) < (m : Int)) := by omega
        have HMN : Hid (gmn C N h (i + 1) = m) := by unfold Hid; rw [HGN.out]; omega
        go_wp2
        go_region_held3 (fun W => (W.cell? ⟨w.heap.size, 0, none⟩ = some (.int .i64 (N : Int)) ∧ W.cell? ⟨w.heap.size, 1, none⟩ = some (.int .i64 age) ∧ W.cell? ⟨w.heap.size, 2, none⟩ = some (.slice (some ⟨g, off, none⟩) T c)) ∧ W.cell? ⟨g, off + K, none⟩ = some (.int .i64 (x : Int)))
          (first | exact HS.out _ HBc.out | exact HS.out _ HBd.out)
          (first | (go_at_call 30; (with_reducible refine (HPI.out _).mono ?_); rintro e w8 ⟨rfl, hb8⟩; have HBd := Lib.hid (HBc.out.trans (hb8.mono HBc.out.size)); clear hb8))
        all_goals
          go_wp2
          go_roundw
          case rel => exact ⟨i + 1, by have := H4.out; omega, by go_num, by rw [HMN.out], HB.out.trans (HBd.out.mono HB.out.size)⟩
          case measure => have := H4.out; simp [intOf]; omega
    · obtain rfl : i = 4 := by omega
      clear hB
      go_wp2
      go_ret
      exact ⟨rfl, HB1.out.trans (HB.out.mono HB1.out.size)⟩
end Go.Proofs.Ytalgkiagdjckiaa

/-
  sgraffitoref23: a sketch of the document's as a value; place, Guess.
  Conditions: none.
-/
import Derived.Test.YtalgkiagdjckiaaRk1
import Derived.Test.YtalgkiagdjckiaaRefHash
import Derived.Test.YtalgkiagdjckiaaSkMath
import Derived.Deep.RegionHeld3
import Derived.Deep.RegionHeldLaw
import Derived.Deep.DeepCutAuto
namespace Go.Proofs.Ytalgkiagdjckiaa
open Go.RowKit

theorem rowI_lt {N r j : Nat} (hr : r < 4) (hj : j < N) : r * N + j < 4 * N := by
  have : r * N ≤ 3 * N := Nat.mul_le_mul_right N (by omega)
  omega
/-- A row of ints that reads as a sketch's counts. -/
structure CntIs (l : List Int) (N : Nat) (C : Nat → Nat → Nat) : Prop where
  len : l.length = 4 * N
  eq : ∀ r j, r < 4 → j < N → l[r * N + j]?.getD 0 = ((C r j : Nat) : Int)
/-- A sketch of the document's: a value. -/
structure RfIs (n₀ : Nat) (w : World) (a : Option Addr) (c : Nat) (N : Nat) (l : List Int) (C : Nat → Nat → Nat) : Prop where
  wide : WideOk N
  small : ∀ r j, C r j ≤ 15
  row : IntsAt n₀ w (.slice a (4 * N) c) l
  cnt : CntIs l N C
  typ : ∀ g off, a = some ⟨g, off, none⟩ → ∃ cs z, w.heap[g]? = some (.cells cs 3 z)
theorem RfIs.here {n₀ : Nat} {w : World} {a : Option Addr} {c N : Nat} {l : List Int} {C : Nat → Nat → Nat} (h : RfIs n₀ w a c N l C) : ∃ g off, a = some ⟨g, off, none⟩ ∧ g < n₀ := by
  have hl := h.cnt.len
  have hN := h.wide.le
  obtain ⟨g, off, e, hg, _⟩ := h.row.get (i := 0) (by omega)
  exact ⟨g, off, e, hg⟩
theorem RfIs.moved {n₀ n₁ : Nat} {w w' : World} {a : Option Addr} {c N : Nat} {l : List Int} {C : Nat → Nat → Nat} (h : RfIs n₀ w a c N l C) (hn : n₀ ≤ n₁) (hb : ∀ g off, a = some ⟨g, off, none⟩ → g < n₀ → w'.heap[g]? = w.heap[g]?) : RfIs n₁ w' a c N l C := by
  obtain ⟨g, off, rfl, hg⟩ := h.here
  have hh := hb g off rfl hg
  refine ⟨h.wide, h.small, h.row.keep hn (fun p e hp => ?_), h.cnt, fun g' off' e => ?_⟩
  · have e' : g = p.block := by simpa [Value.ownBlock] using e
    exact World.cell?_of_block (by rw [← e']; exact hh)
  · cases e
    obtain ⟨cs, z, hc⟩ := h.typ g off rfl
    exact ⟨cs, z, hh.trans hc⟩
theorem RfIs.below {n₀ : Nat} {w w' : World} {a : Option Addr} {c N : Nat} {l : List Int} {C : Nat → Nat → Nat} (h : RfIs n₀ w a c N l C) (hb : Below n₀ w w') : RfIs n₀ w' a c N l C := h.moved (Nat.le_refl _) fun _ _ _ hg => hb.block _ hg
theorem rowN_eq (h : BitVec 64) (r : Nat) : rowN h r = h + BitVec.ofInt 64 ((r : Int) * 11400714819323198485) := by
  unfold rowN
  rw [BitVec.ofInt_add, ofInt_U, wrap_u64_mod, ofInt_U]
theorem rowN_zero (h : BitVec 64) : rowN h 0 = h := by
  rw [rowN_eq]; simp
theorem rowN_aux (c : Int) (h : BitVec 64) (r : Nat) : h + BitVec.ofInt 64 ((r : Int) * c) + BitVec.ofInt 64 c = h + BitVec.ofInt 64 (((r + 1 : Nat) : Int) * c) := by
  have e : ((r + 1 : Nat) : Int) * c = (r : Int) * c + c := by rw [Int.natCast_add, Int.add_mul]; simp
  rw [e, BitVec.ofInt_add, BitVec.add_assoc]
theorem rowN_succ (h : BitVec 64) (r : Nat) : IntKind.u64.wrap (U (rowN h r) + 11400714819323198485) = U (rowN h (r + 1)) := by
  rw [add_u64, rowN_eq, rowN_eq]
  exact congrArg U (rowN_aux _ h r)
theorem rk_mul {k N : Nat} (hk : k < 4) (hN : N ≤ 4096) : IntKind.i64.wrap ((k : Int) * (N : Int)) = ((k * N : Nat) : Int) := by
  have h : k * N ≤ 3 * 4096 := Nat.mul_le_mul (by omega) hN
  rw [← Int.natCast_mul, IntKind.wrap_i64]
  generalize k * N = X at *
  omega
theorem rk_sum {k N q : Nat} (hk : k < 4) (hN : N ≤ 4096) (hq : q < N) : IntKind.i64.wrap (((k * N : Nat) : Int) + (q : Int)) = ((k * N + q : Nat) : Int) := by
  have h : k * N ≤ 3 * 4096 := Nat.mul_le_mul (by omega) hN
  rw [IntKind.wrap_i64]
  generalize k * N = X at *
  omega
set_option maxRecDepth 100000 in
set_option maxHeartbeats 2000000 in
theorem rplace_any {N : Nat} (hN : WideOk N) (age : Int) (a : Option Addr) (n c : Nat) (h : BitVec 64) {r : Nat} (hr : r < 4) (w : World) :
    Calls Try.prog 30 #[.agg #[.int .i64 (N : Int), .int .i64 age, .slice a n c], .int .u64 (U h), .int .i64 (r : Int)] w fun e w' => e = .returned (.int .i64 ((r * N + plc N h r : Nat) : Int)) ∧ Below w.heap.size w w' := by
  have hle := hN.le
  have HPL := Lib.hid (plc_lt (N := N) (by omega) h r)
  have HMD := Lib.hid (plc_mod N h r)
  obtain ⟨q, hq⟩ : ∃ q, plc N h r = q := ⟨_, rfl⟩
  rw [hq] at HMD HPL ⊢
  clear hq
  have HLE := Lib.hid hle
  have r3 : (r : Int) ≤ 3 := by omega
  have HR3 := Lib.hid hr
  obtain ⟨w1, hw1⟩ : ∃ w1, w.alloc (.cells #[.int .i64 (N : Int), .int .i64 age, .slice a n c] 30) = w1 := ⟨_, rfl⟩
  have hb1 : Below w.heap.size w w1 := by rw [← hw1]; exact (Below.refl _ w).alloc (Nat.le_refl _) _
  have hk1 : w1.heap[w.heap.size]? = some (.cells #[.int .i64 (N : Int), .int .i64 age, .slice a n c] 30 (0, 0)) := by rw [← hw1]; exact heap_alloc_new _ _
  have HW1 := Lib.hid hw1
  have HB1 := Lib.hid hb1
  have HK1 := Lib.hid hk1
  clear hw1 hb1 hk1 hN hle hr
  go_enter Try.func30, Try.ntmps30
  go_upto_region 1 with fail
  change Code.wp _ _ _ _ (w.alloc (.cells #[.int .i64 (N : Int), .int .i64 age, .slice a n c] 30))
  rw [HW1.out]
  clear HW1
  go_wp2
  go_loopw [1, 7] (fun hv iv W => ∃ k : Nat, k ≤ r ∧ iv = .int .i64 (k : Int) ∧ hv = .int .u64 (U (rowN h k)) ∧ W = w1) (fun _ iv _ => r - (intOf iv).toNat)
  case atStart => exact ⟨0, Nat.zero_le _, rfl, by rw [rowN_zero], rfl⟩
  case round =>
    obtain ⟨k, hk, rfl, rfl, rfl⟩ := hrel
    by_cases hlt : k < r
    · have k1 : (k : Int) < r := by omega
      have HX := Lib.hid (rowN_succ h k)
      obtain ⟨x, hx⟩ : ∃ x, rowN h k = x := ⟨_, rfl⟩
      obtain ⟨y, hy⟩ : ∃ y, rowN h (k + 1) = y := ⟨_, rfl⟩
      have HY := Lib.hid hy
      rw [hx, hy] at HX
      rw [hx]
      have hxx := HX.out
      clear hx hy
      go_wp2
      go_roundw
      case rel => exact ⟨k + 1, by omega, by go_num, by rw [HY.out], trivial⟩
      case measure => simp [intOf]; omega
    · obtain rfl : k = r := by omega
      have hb1 := HB1.out
      obtain ⟨y, hy⟩ : ∃ y, rowN h k = y := ⟨_, rfl⟩
      rw [hy] at HMD ⊢
      have HSC := Lib.hid (fun W => refScramble_any y W)
      obtain ⟨z, hz⟩ : ∃ z, scr y = z := ⟨_, rfl⟩
      rw [hz] at HMD HSC
      clear hy hz
      have HS : Hid (∀ W, Below wr.heap.size wr W → W.cell? ⟨w.heap.size, 0, none⟩ = some (.int .i64 (N : Int))) := fun W hb => blk_cell ((hb.block _ (blk_lt HK1.out)).trans HK1.out) 0
      have HBc := Lib.hid ((Below.refl wr.heap.size wr).drew)
      have n0 : ¬ ((N : Int) = 0) := by have := HLE.out; omega
      have n1 : IntKind.u64.wrap (N : Int) = (N : Int) := by have := HLE.out; simp [IntKind.wrap, IntKind.bits, IntKind.signed]; omega
      have z0 := U_nonneg z
      have hmd := HMD.out
      have q1 : IntKind.i64.wrap (q : Int) = (q : Int) := by have := HPL.out; have := HLE.out; rw [IntKind.wrap_i64]; omega
      have n2 : ¬ (N = 0) := by have := HLE.out; omega
      have m1 : IntKind.i64.wrap ((k : Int) * (N : Int)) = ((k * N : Nat) : Int) := rk_mul HR3.out HLE.out.2
      have m2 : IntKind.i64.wrap (((k * N : Nat) : Int) + (q : Int)) = ((k * N + q : Nat) : Int) := rk_sum HR3.out HLE.out.2 HPL.out
      obtain ⟨R, hR⟩ : ∃ R, k * N + q = R := ⟨_, rfl⟩
      rw [hR] at m2
      have HR := Lib.hid hR
      obtain ⟨T, hT⟩ : ∃ T, k * N = T := ⟨_, rfl⟩
      rw [hT] at m1 m2
      clear hR hT
      clear hb1
      go_wp2
      go_region_held3 (fun W => W.cell? ⟨w.heap.size, 0, none⟩ = some (.int .i64 (N : Int)))
        (first | exact HS.out _ HBc.out | exact HS.out _ HBd.out)
        (first | (go_at_call 34; (with_reducible refine (HSC.out _).mono ?_); rintro e w8 ⟨rfl, hb8⟩; have HBd := Lib.hid (HBc.out.trans (hb8.mono HBc.out.size)); clear hb8))
      all_goals
        go_wp2
        go_ret
        exact ⟨by rw [HR.out]; rfl, HB1.out.trans (HBd.out.mono HB1.out.size)⟩
end Go.Proofs.Ytalgkiagdjckiaa

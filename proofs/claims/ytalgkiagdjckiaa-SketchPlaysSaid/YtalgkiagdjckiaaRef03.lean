/-
  sgraffitoref03: Number, Of, Put, Take.
  Conditions: none.
-/
import Derived.Test.YtalgkiagdjckiaaWireAwake
import Derived.StillTailTactics
import Derived.Deep.DeepCutAuto
import Derived.Outline
namespace Go.Proofs.Ytalgkiagdjckiaa
open Go.RowKit

theorem shr8_64 (x : BitVec 64) : U x / (256 : Int) = U (x >>> 8) := shr_U x 8 _ (by decide)
theorem quo8_64 (x : BitVec 64) : IntKind.u64.wrap ((U x).tdiv 256) = U (x >>> 8) := by
  rw [Int.tdiv_eq_ediv_of_nonneg (U_nonneg x), shr8_64, wrap_u64_U]
theorem low8_64 (x : BitVec 64) : IntKind.u8.wrap (U x % (256 : Int)) = U (x.setWidth 8) := by
  rw [← wrap8_64]
  simp [IntKind.wrap, IntKind.bits, IntKind.signed]

set_option maxHeartbeats 2000000 in
theorem refNumber_yes (x : BitVec 64) (k : Nat) (hk : mayB k = true) (w : World) : Calls Try.prog 29 #[.int .u64 (U x), .int .i64 k] w fun e w' => ∃ u, e = .returned u ∧ w'.ownsRow w.heap.size 5 1 u k (cellsOf (leB k x)) ∧ Below w.heap.size w w' := by
  obtain ⟨i0, hi, hz0, hz1, hz2⟩ := info_parts Try.infoU8
  have hk4 : k = 1 ∨ k = 2 ∨ k = 4 ∨ k = 8 := by
    have : (k : Int) = 1 ∨ (k : Int) = 2 ∨ (k : Int) = 4 ∨ (k : Int) = 8 := by simpa [mayB] using hk
    omega
  have k8 : (k : Int) ≤ 8 := by omega
  have HK := Lib.hid hk4
  clear hk
  go_enter Try.func29, Try.ntmps29
  go_upto_region 2 with (fail)
  go_cut [20] (fun s20 wx => s20 = .bool false ∧ w = wx)
  case first =>
    rcases HK.out with h | h | h | h
    all_goals
      subst h
      go_wp2_with fail
      go_meet
      exact ⟨rfl, rfl⟩
  case rest =>
    obtain ⟨rfl, rfl⟩ := hcut
    go_wp2
    go_loopw [0, 5, 6] (fun xv ov iv wr => ∃ j : Nat, j ≤ k ∧ iv = .int .i64 j ∧ xv = .int .u64 (U (x >>> (8 * j))) ∧ wr.ownsRow w.heap.size 5 1 ov j (cellsOf (leB j x)) ∧ Below w.heap.size w wr) (fun _ _ iv _ => k - (intOf iv).toNat)
    case atStart => exact ⟨0, Nat.zero_le _, rfl, by simp, World.ownsRow_nil _ _ _ _, Below.refl _ _⟩
    case round =>
      obtain ⟨j, hj, rfl, rfl, hown, hB⟩ := hrel
      by_cases hlt : j < k
      · have hwrap := low8_64 (x >>> (8 * j))
        have hshr := shr8_64 (x >>> (8 * j))
        have HX : Hid ((x >>> (8 * j)) >>> 8 = x >>> (8 * (j + 1))) := by unfold Hid; rw [← BitVec.shiftRight_add]; congr 1
        have HL := Lib.hid (leB_succ j x)
        have hlen := leB_len j x
        generalize x >>> (8 * j) = y at hwrap hshr HX HL
        obtain ⟨rj, hrj⟩ : ∃ rj, leB j x = rj := ⟨_, rfl⟩
        rw [hrj] at hown hlen HL
        subst hlen
        have HO := Lib.hid hown
        have y0 := U_nonneg y
        clear hrj hown
        have j1 : (rj.length : Int) < k := by omega
        obtain ⟨av, cv, rfl⟩ := owns_slice HO.out
        go_wp2_with (at_builtin; go_must (refine wpList_append_bytes rfl (.tmp 26) (.tmp 30) rfl rfl w.heap.size i0 hi hz0 hz1 hz2 _ rfl rj (HO.out.alloc _) _ rfl _ [y.setWidth 8] (bytes_one _ _) (by simp; omega) (by have := hB.size; simp; omega) ?_); intro v1 w1 n1 HN hown1 hgrow1 hat1; obtain ⟨a1, cp1, rfl⟩ := owns_slice hown1)
        go_roundw
        case rel =>
          have en : n1 = rj.length + 1 := by have := HN.out; simpa using this
          clear HN
          subst en
          refine ⟨rj.length + 1, by omega, by go_num, by rw [← HX.out, quo8_64], by rw [HL.out]; exact hown1, (hB.alloc hB.size _).grown hgrow1 (by have := hB.size; simp; omega) (fun i e => (HO.out.lt i e).1)⟩
        case measure => simp [intOf]; omega
      · obtain rfl : j = k := by omega
        go_wp2
        go_ret
        exact ⟨_, rfl, hown, hB⟩

theorem refNumber_no (x : BitVec 64) (k : Int) (hk : mayB k = false) (w : World) : Calls Try.prog 29 #[.int .u64 (U x), .int .i64 k] w fun e w' => e = .returned (.slice none 0 0) ∧ w = w' := by
  have h1 : ¬ (k = 1 ∨ k = 2 ∨ k = 4 ∨ k = 8) := by simpa [mayB] using hk
  have e1 : (k != 1) = true := by simp; omega
  have e2 : (k != 2) = true := by simp; omega
  have e4 : (k != 4) = true := by simp; omega
  have e8 : (k != 8) = true := by simp; omega
  clear h1 hk
  go_enter Try.func29, Try.ntmps29
  go_wp2
  go_ret
  exact ⟨rfl, rfl⟩

theorem refPut_own {w1 : World} {base n : Nat} {a : Option Addr} {cp : Nat} {row : List (BitVec 8)} (h : w1.ownsRow base 5 1 (.slice a n cp) n (cellsOf row)) (hn : n = row.length) : w1.ownsRow base 5 1 (.slice a n cp) row.length (cellsOf row) := by
  subst hn; exact h
theorem refPut_below {w w1 : World} {o1 o2 o3 : Obj} {n c : Nat} (hb : ∀ o1 o2 : Obj, Below w.heap.size w ((w.alloc o1).alloc o2)) (hg : (((w.alloc o1).alloc o2).alloc o3).grownBy w1 (Value.slice (some ⟨w.heap.size + 1 + 1, 0, none⟩) n c).ownBlock) : Below w.heap.size w w1 :=
  ((hb o1 o2).alloc (by simp; omega) o3).grown hg (by simp; omega) (fun k e => by
    have e : w.heap.size + 1 + 1 = k := by simpa [Value.ownBlock] using e
    omega)
theorem refPut_P {w w1 : World} {o1 o2 o3 : Obj} {n c : Nat} (hg : (((w.alloc o1).alloc o2).alloc o3).grownBy w1 (Value.slice (some ⟨w.heap.size + 1 + 1, 0, none⟩) n c).ownBlock) : w1.heap[w.heap.size]? = some o1 :=
  blk_keep (blk_alloc (blk_alloc (heap_alloc_new w o1) o2) o3) hg (by simp [Value.ownBlock]; omega)
theorem refPut_Q {w w1 : World} {o1 o2 o3 : Obj} {n c : Nat} (hg : (((w.alloc o1).alloc o2).alloc o3).grownBy w1 (Value.slice (some ⟨w.heap.size + 1 + 1, 0, none⟩) n c).ownBlock) : w1.heap[w.heap.size + 1]? = some o2 :=
  blk_keep (by have := blk_alloc (heap_alloc_new (w.alloc o1) o2) o3; simpa using this) hg (by simp [Value.ownBlock])
theorem refPut_ne {w1 : World} {base n m g : Nat} {v : Value} {cs : List Value} (h : w1.ownsRow base 5 m v n cs) (hg : g < base) : v.ownBlock ≠ some g := fun e => by
  have := (h.lt g e).1; omega
/-- What the reference's Put answers. -/
def refPut (row : List (BitVec 8)) (limit : Int) (full : Bool) (bs : List (BitVec 8)) : List (BitVec 8) × Bool := (wRow row limit full (some bs), wFull row limit full (some bs))

end Go.Proofs.Ytalgkiagdjckiaa

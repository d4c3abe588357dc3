/-
  Proved: as long as nothing was halved, a guess is at least as great as how often the number was marked, or 15, and no greater than how many marks there were. Whatever numbers come in, the law SketchLeast answers true and the arguments read as they did.
  Conditions: none.
-/
import Derived.Test.YtalgkiagdjckiaaSk8
import Derived.Test.YtalgkiagdjckiaaWords
namespace Go.Proofs.Ytalgkiagdjckiaa
open Go.ChangeShapes Go.WideShapes Go.ChangeAt Go.RowKit

/-- How often a number is among the first ones. -/
def cntW (l : List (BitVec 64)) (y : BitVec 64) : Nat → Nat
  | 0 => 0
  | k + 1 => cntW l y k + (if l[k]?.getD 0 = y then 1 else 0)
theorem cntW_le (l : List (BitVec 64)) (y : BitVec 64) (k : Nat) : cntW l y k ≤ k := by
  induction k with
  | zero => exact Nat.le_refl _
  | succ k ih => unfold cntW; split <;> omega
/-- What k marks have made of the counts. -/
structure LeastOk (l : List (BitVec 64)) (N k : Nat) (C : Nat → Nat → Nat) : Prop where
  low : ∀ y, min (cntW l y k) 15 ≤ gss C N y
  high : ∀ r j, C r j ≤ k
theorem LeastOk.next {l : List (BitVec 64)} {N k : Nat} {C : Nat → Nat → Nat} (h : LeastOk l N k C) : LeastOk l N (k + 1) (grw C N (l[k]?.getD 0) (gss C N (l[k]?.getD 0))) := by
  refine ⟨fun y => ?_, fun r j => Nat.le_trans (grw_le _ _ _ _ _ _) (Nat.succ_le_succ (h.high r j))⟩
  unfold cntW
  by_cases e : l[k]?.getD 0 = y
  · rw [if_pos e, e]
    have h1 := h.low y
    have h2 := gss_grw C N y
    omega
  · rw [if_neg e]
    exact Nat.le_trans (h.low y) (gss_mono (grw_ge _ _ _ _))
theorem below_drewS {n : Nat} {a b : World} (h : Below n a b) (k : Nat) : Below n a (b.drewN k) := ⟨h.os, h.tape, h.output, h.size, h.block⟩
/-- What a round of the marks keeps. -/
structure LeAt (w : World) (G : Nat) (b : Nat → Nat) (l : List (BitVec 64)) (N k : Nat) (W : World) : Prop where
  sk : ∃ C, SkAt W G b N k C ∧ LeastOk l N k C
  below : Below w.heap.size w W
theorem pow_next5 (k m : Nat) (hk : k < m) (hm : m ≤ 4) : wrap64 (((2 ^ (k + 5) : Nat) : Int) * 2) = ((2 ^ (k + 1 + 5) : Nat) : Int) := by
  have h := Nat.pow_le_pow_right (n := 2) (by decide) (show k + 5 ≤ 8 by omega)
  rw [show k + 1 + 5 = (k + 5) + 1 by omega, Nat.pow_succ 2 (k + 5)]
  generalize 2 ^ (k + 5) = M at *
  rw [IntWalk.wrap64_in _ ⟨by omega, by omega⟩]; omega
set_option maxRecDepth 100000 in
set_option maxHeartbeats 2000000 in
theorem sketchLeast_walk (x : BitVec 8) (v : Value) (l : List (BitVec 64)) (w : World) (hl : WordsAt w.heap.size w v l) (hm : l.length ≤ maxLen) : Calls Try.prog 5 #[.int .u8 (U x), v] w (Good w) := by
  obtain ⟨a, c, rfl⟩ := hl.slice
  obtain ⟨m, hm5, hm4⟩ : ∃ m : Nat, (U x).tmod 5 = (m : Int) ∧ m ≤ 4 := ⟨x.toNat % 5, by unfold U; exact (Int.ofNat_tmod x.toNat 5).symm, by omega⟩
  have x0 := U_nonneg x
  have x1 : U x ≤ 255 := by have := U_lt x; omega
  have xw : wrap64 (U x) = U x := IntWalk.wrap64_in _ ⟨by omega, by omega⟩
  have HL := Lib.hid hl
  have HMX := Lib.hid hm
  clear hl hm
  go_enter Try.func5, Try.ntmps5
  go_wp2
  go_loopw [5, 6] (fun u i W => ∃ k : Nat, k ≤ m ∧ i = .int .i64 k ∧ u = .int .i64 ((2 ^ (k + 5) : Nat) : Int) ∧ W = w) (fun _ i _ => m - (intOf i).toNat)
  case atStart => exact ⟨0, Nat.zero_le _, rfl, rfl, rfl⟩
  case round =>
    obtain ⟨k, hk, rfl, rfl, rfl⟩ := hrel
    by_cases hlt : k < m
    · have k1 : (k : Int) < m := by omega
      have e2 := pow_next5 k m hlt (by omega)
      generalize ((2 ^ (k + 5) : Nat) : Int) = M at *
      go_wp2
      go_roundw
      case rel => exact ⟨k + 1, by omega, by go_num, by go_num, trivial⟩
      case measure => simp [intOf]; omega
    · obtain rfl : k = m := by omega
      obtain ⟨w0, rfl⟩ : ∃ w0, w0 = wr := ⟨_, rfl⟩
      have hwide : WideOk (2 ^ (k + 5)) := ⟨k + 5, by omega, by omega, rfl⟩
      obtain ⟨N, hN⟩ : ∃ N, 2 ^ (k + 5) = N := ⟨_, rfl⟩
      rw [hN] at hwide ⊢
      have hle := hwide.le
      have n10 : wrap64 (10 * (N : Int)) = ((10 * N : Nat) : Int) := by rw [IntWalk.wrap64_in _ ⟨by omega, by omega⟩]; omega
      have HNEW := Lib.hid (new_any hwide w0)
      have HLE := Lib.hid hle
      obtain ⟨n, hn⟩ : ∃ n, l.length = n := ⟨_, rfl⟩
      rw [hn] at HL
      have HN := Lib.hid hn
      rw [hn]
      clear hN hwide hle hm4 hk hlt x0 x1 hn
      by_cases hbig : n ≤ 300 ∧ n < 10 * N
      · have b1 : (n : Int) ≤ 300 := by omega
        have b2 : (n : Int) < ((10 * N : Nat) : Int) := by omega
        have HBG := Lib.hid hbig
        clear hbig
        go_wp2_with (go_at_call 8; (with_reducible refine HNEW.out.mono ?_); rintro e w1 ⟨rfl, h1, hb1⟩)
        have HW1 := Lib.hid h1
        have HB1 := Lib.hid hb1
        have HS : Hid (∀ i, SkS w0.heap.size (fun r => w0.heap.size + 1 + r) i → w0.heap.size ≤ i) := by
          rintro i (rfl | ⟨r, _, rfl⟩)
          · exact Nat.le_refl _
          · show w0.heap.size ≤ w0.heap.size + 1 + r; omega
        clear h1 hb1 HNEW
        generalize (fun r => w0.heap.size + 1 + r) = b at *
        go_loopw [8] (fun i W => ∃ j : Nat, j ≤ n ∧ i = .int .i64 j ∧ LeAt w0 w0.heap.size b l N j W) (fun i _ => n - (intOf i).toNat)
        case atStart =>
          exact ⟨0, Nat.zero_le _, rfl, ⟨fun _ _ => 0, HW1.out, ⟨fun y => by simp [cntW], fun _ _ => Nat.le_refl _⟩⟩, HB1.out⟩
        case round =>
          obtain ⟨j, hj, rfl, ⟨C, hS, hC⟩, hB⟩ := hrel
          have HB := Lib.hid hB
          have HC := Lib.hid hC
          by_cases hlt : j < n
          · have ej : j + 1 ≠ 10 * N := by have := HBG.out; omega
            obtain ⟨g, off, rfl, hg, hcell⟩ := (HL.out.below hB).get (i := j) (by rw [HN.out]; exact hlt)
            have HM := Lib.hid (mark_any hS (by have := HBG.out; omega) (l[j]?.getD 0))
            have HNX := Lib.hid hC.next
            rw [mrkC_young ej] at HM
            have em : mrkA N j = j + 1 := by unfold mrkA; rw [if_neg ej]
            rw [em] at HM
            have j1 : (j : Int) < n := by omega
            have HLT := Lib.hid hlt
            obtain ⟨y, hy⟩ : ∃ y, l[j]?.getD 0 = y := ⟨_, rfl⟩
            rw [hy] at HM HNX hcell
            clear hS hC hB hj hlt hg ej em hy
            go_wp2_with (go_at_call 19; (with_reducible refine HM.out.mono ?_); rintro e w3 ⟨rfl, h3, m3⟩; have H3 := Lib.hid h3; have M3 := Lib.hid m3; clear HM h3 m3)
            go_roundw
            case rel =>
              refine ⟨j + 1, by have := HLT.out; omega, by go_num, ⟨_, H3.out, HNX.out⟩, ?_⟩
              exact HB.out.trans (M3.out.below (B := w0.heap.size) HS.out HB.out.size)
            case measure => have := HLT.out; simp [intOf]; omega
          · obtain rfl : j = n := by omega
            obtain ⟨w4, rfl⟩ : ∃ w4, w4 = wr := ⟨_, rfl⟩
            have HS4 := Lib.hid hS
            clear hS hC hB hlt hj
            go_wp2
            go_loopw [9, 10, 11, 12] (fun i _ _ _ W => ∃ t : Nat, t ≤ j ∧ i = .int .i64 t ∧ Below w4.heap.size w4 W) (fun i _ _ _ _ => j - (intOf i).toNat)
            case atStart => exact ⟨0, Nat.zero_le _, rfl, Below.refl _ _⟩
            case round =>
              obtain ⟨t, ht, rfl, hB5⟩ := hrel
              obtain ⟨w5, rfl⟩ : ∃ w5, w5 = wr := ⟨_, rfl⟩
              have HB5 := Lib.hid hB5
              by_cases hlt : t < j
              · have hLW := HL.out.below (HB.out.trans (hB5.mono HB.out.size))
                obtain ⟨g, off, rfl, hg, hcell⟩ := hLW.get (i := t) (by rw [HN.out]; exact hlt)
                have HLW := Lib.hid hLW
                have HCT := Lib.hid hcell
                have t1 : (t : Int) < j := by omega
                have HT := Lib.hid hlt
                obtain ⟨y, hy⟩ : ∃ y, l[t]?.getD 0 = y := ⟨_, rfl⟩
                rw [hy] at hcell HCT
                have HY := Lib.hid hy
                clear hLW hg hlt ht hB5 hy hcell
                go_wp2
                go_loopw [10, 11] (fun q i W => ∃ u : Nat, u ≤ j ∧ i = .int .i64 u ∧ q = .int .i64 ((cntW l y u : Nat) : Int) ∧ Below w5.heap.size w5 W) (fun _ i _ => j - (intOf i).toNat)
                case atStart => exact ⟨0, Nat.zero_le _, rfl, rfl, Below.refl _ _⟩
                case round =>
                  obtain ⟨u, hu, rfl, rfl, hB6⟩ := hrel
                  have HB6 := Lib.hid hB6
                  have hcl := cntW_le l y u
                  by_cases hlu : u < j
                  · obtain ⟨g2, off2, e2, hg2, hcell2⟩ := HLW.out.get (i := u) (by rw [HN.out]; exact hlu)
                    cases e2
                    have d1 : wr.cell? ⟨g, off + t, none⟩ = some (.int .u64 (U y)) := (hB6.cell (p := ⟨g, off + t, none⟩) (World.block_lt_of_cell? _ _ HCT.out)).trans HCT.out
                    have d2 : wr.cell? ⟨g, off + u, none⟩ = some (.int .u64 (U (l[u]?.getD 0))) := (hB6.cell (p := ⟨g, off + u, none⟩) (World.block_lt_of_cell? _ _ hcell2)).trans hcell2
                    have u1 : (u : Int) < j := by omega
                    have HLU := Lib.hid hlu
                    have hcn : cntW l y (u + 1) = cntW l y u + (if l[u]?.getD 0 = y then 1 else 0) := rfl
                    have HCN := Lib.hid hcn
                    have c1 : ((cntW l y u : Nat) : Int) ≤ 300 := by omega
                    obtain ⟨z, hz⟩ : ∃ z, l[u]?.getD 0 = z := ⟨_, rfl⟩
                    rw [hz] at d2 HCN
                    obtain ⟨q, hq⟩ : ∃ q, cntW l y u = q := ⟨_, rfl⟩
                    rw [hq] at c1 HCN ⊢
                    have HBB := Lib.hid b1
                    clear hcell2 hz hq hcn hcl hu hlu hB6 hg2
                    by_cases hyz : z = y
                    · have hb : (U z == U y) = true := by rw [hyz]; exact beq_self_eq_true _
                      rw [if_pos hyz] at HCN
                      clear hyz
                      go_wp2_with fail
                      go_quiet (fail)
                      go_wp2
                      go_roundw
                      case rel => exact ⟨u + 1, by have := HLU.out; omega, by go_num, by rw [HCN.out]; go_num, below_drewS HB6.out _⟩
                      case measure => have := HLU.out; simp [intOf]; omega
                    · have hb : (U z == U y) = false := beq_eq_false_iff_ne.2 (fun e => hyz (U_inj.1 e))
                      rw [if_neg hyz] at HCN
                      clear hyz
                      go_wp2_with fail
                      go_quiet (fail)
                      go_wp2
                      go_roundw
                      case rel => exact ⟨u + 1, by have := HLU.out; omega, by go_num, by rw [HCN.out]; go_num, below_drewS HB6.out _⟩
                      case measure => have := HLU.out; simp [intOf]; omega
                  · obtain rfl : u = j := by omega
                    have hlow := HC.out.low y
                    have hhigh := Nat.le_trans (gss_le_row (C := C) (N := N) (h := y) (r := 0) (by decide)) (HC.out.high 0 (plc N y 0))
                    have HG := Lib.hid (guess_any ((HS4.out.same HB5.out).same hB6) y)
                    have d1 : wr.cell? ⟨g, off + t, none⟩ = some (.int .u64 (U y)) := (hB6.cell (p := ⟨g, off + t, none⟩) (World.block_lt_of_cell? _ _ HCT.out)).trans HCT.out
                    obtain ⟨q, hq⟩ : ∃ q, cntW l y u = q := ⟨_, rfl⟩
                    obtain ⟨z, hz⟩ : ∃ z, gss C N y = z := ⟨_, rfl⟩
                    rw [hq] at hcl hlow ⊢
                    rw [hz] at hlow hhigh HG
                    have g2 : ¬ ((u : Int) < (z : Int)) := by omega
                    have HLT : Hid (∀ {w6 : World}, Below wr.heap.size wr w6 → Below w4.heap.size w4 w6) := fun hb => (HB5.out.trans (hB6.mono HB5.out.size)).trans (hb.mono (Nat.le_trans HB5.out.size hB6.size))
                    clear hB6 hu hlu hhigh hcl hq hz
                    by_cases h15 : 15 < q
                    · have f1 : (15 : Int) < q := by omega
                      have f2 : ¬ ((z : Int) < 15) := by omega
                      clear hlow h15
                      go_wp2_with (go_at_call 22; (with_reducible refine HG.out.mono ?_); rintro e w6 ⟨rfl, hb6⟩; have HB7 := Lib.hid hb6; clear hb6)
                      go_roundw
                      case rel => exact ⟨t + 1, by have := HT.out; omega, by go_num, HLT.out HB7.out⟩
                      case measure => have := HT.out; simp [intOf]; omega
                    · have f1 : ¬ ((15 : Int) < q) := by omega
                      have f2 : ¬ ((z : Int) < q) := by omega
                      clear hlow h15
                      go_wp2_with (go_at_call 22; (with_reducible refine HG.out.mono ?_); rintro e w6 ⟨rfl, hb6⟩; have HB7 := Lib.hid hb6; clear hb6)
                      go_roundw
                      case rel => exact ⟨t + 1, by have := HT.out; omega, by go_num, HLT.out HB7.out⟩
                      case measure => have := HT.out; simp [intOf]; omega
              · obtain rfl : t = j := by omega
                have HA := Lib.hid (age_any (HS4.out.same hB5))
                clear hB5 hlt ht
                go_wp2_with (first
                  | (go_at_call 21; (with_reducible refine HA.out.mono ?_); rintro e w2 ⟨rfl, rfl⟩)
                  | (go_at_call 11; (with_reducible refine (awake23 _).mono ?_); rintro e w7 ⟨rfl, hb7⟩; have HB7 := Lib.hid hb7; clear hb7))
                go_ret
                have b0 := HB.out.trans (HB5.out.mono HB.out.size)
                exact ⟨rfl, b0.trans (HB7.out.mono b0.size)⟩
      · by_cases h3 : n ≤ 300
        · have b1 : (n : Int) ≤ 300 := by omega
          have b2 : ((10 * N : Nat) : Int) ≤ (n : Int) := by omega
          clear hbig
          go_wp2
          go_ret
          exact ⟨rfl, Below.refl _ _⟩
        · have b1 : (300 : Int) < n := by omega
          clear hbig
          go_wp2
          go_ret
          exact ⟨rfl, Below.refl _ _⟩
set_option maxRecDepth 100000 in
theorem sketchLeast_lifted (os : Os) (started : os.Started) (H : Type) (enc : TypeId × Value → H) :
    ReturnsInHanded {} Try.checked os 5 .any (Rows.sketchLeastSpec.pre6 enc Try.prog Try.f5 Rows.sketchLeastRow.domain false) (Rows.sketchLeastSpec.post enc Try.prog Try.f5 false true false false) :=
  law_lifted 5 Try.f5 Rows.sketchLeastSpec Try.func5 (by kernel_rfl) rfl rfl
    (fun ds h => by match ds, h with | [_, _], _ => rfl) (by kernel_rfl) os started
    (ChangeSpec.witness6 (enc := enc) (C := Try.checked) false ⟨#[], #[.int .u8 0, .slice none 0 0], []⟩ 8 (by kernel_rfl) (by kernel_rfl) (by kernel_rfl) (by kernel_rfl))
    fun W args ds ps hval hA => by
      rw [Try.params5] at hA hval
      obtain ⟨v0, vs0, d0, ds0, p0, q0, hargs, rfl, rfl, h0, r0⟩ := trodAll_cons hA
      obtain ⟨v1, vs1, d1, ds1, p1, q1, rfl, rfl, rfl, h1, r1⟩ := trodAll_cons r0
      obtain ⟨rfl, rfl, rfl⟩ := trodAll_nil r1
      obtain rfl : args = #[v0, v1] := by cases args; simp_all
      obtain ⟨b0, o0⟩ := hval 0 _ v0 rfl rfl
      obtain ⟨b1, o1⟩ := hval 1 _ v1 rfl rfl
      obtain ⟨a0, rfl, rfl, rfl, w0⟩ := open_int Try.underlying5 o0 h0
      obtain ⟨x0, rfl⟩ := wf_u8 w0
      obtain ⟨l1, hb1, hm1⟩ := open_words1 o1 h1
      exact sketchLeast_walk x0 v1 l1 W hb1 hm1

/-- The statement. -/
theorem sketchLeast_holds : Rows.SketchLeastSaid :=
  OpenClaim.holds_of_wide 5 Try.f5 rfl rfl rfl rfl rfl rfl rfl ⟨rfl, rfl, rfl, rfl, rfl⟩ rfl rfl rfl rfl rfl (by kernel_rfl) Try.func5 (by kernel_rfl)
    (of_decide_eq_true (by kernel_rfl)) (by unfold Func.isWrapper; first | (rw [if_pos (by decide +kernel)]; kernel_rfl) | (rw [if_neg (by decide +kernel)]; exact ⟨rfl, rfl⟩))
    (fun os started H enc _ => sketchLeast_lifted os started H enc)
#print axioms sketchLeast_holds

end Go.Proofs.Ytalgkiagdjckiaa

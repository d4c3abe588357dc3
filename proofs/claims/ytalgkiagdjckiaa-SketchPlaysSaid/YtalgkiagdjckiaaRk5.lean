/-
  sgraffitoref23: Halve.
  Conditions: none.
-/
import Derived.Test.YtalgkiagdjckiaaRk4
import Derived.StillTailTactics
namespace Go.Proofs.Ytalgkiagdjckiaa
open Go.RowKit

/-- The first i counts halved, the rest 0. -/
def hvL (l : List Int) (i : Nat) : List Int := (List.range l.length).map fun j => if j < i then (l[j]?.getD 0) / 2 else 0
theorem hvL_len (l : List Int) (i : Nat) : (hvL l i).length = l.length := by simp [hvL]
theorem hvL_zero (l : List Int) : hvL l 0 = List.replicate l.length 0 := by
  refine List.ext_getElem (by simp [hvL]) fun i h1 h2 => by simp [hvL]
theorem hvL_set (l : List Int) (i : Nat) : (hvL l i).set i ((l[i]?.getD 0) / 2) = hvL l (i + 1) := by
  refine List.ext_getElem (by simp [hvL]) fun j h1 h2 => ?_
  have hj : j < l.length := by simpa [hvL] using h2
  simp only [hvL, List.getElem_set, List.getElem_map, List.getElem_range]
  by_cases e : i = j
  · subst e; simp
  · rw [if_neg e]
    by_cases h : j < i
    · rw [if_pos h, if_pos (by omega)]
    · rw [if_neg h, if_neg (by omega)]
theorem hvL_cnt {l : List Int} {N : Nat} {C : Nat → Nat → Nat} (h : CntIs l N C) : CntIs (hvL l (4 * N)) N (hlv C) := by
  refine ⟨by rw [hvL_len, h.len], fun r j hr hj => ?_⟩
  have hK := rowI_lt hr hj
  have := h.eq r j hr hj
  have hlt : r * N + j < l.length := by rw [h.len]; exact hK
  simp only [hvL, List.getElem?_map, List.getElem?_range hlt, Option.map_some, Option.getD_some]
  rw [if_pos hK, this]
  rfl
theorem wrap_s15 {y : Nat} (h : (y : Int) ≤ 15) : IntKind.i64.wrap (y : Int) = (y : Int) := by rw [IntKind.wrap_i64]; omega
theorem rk_small {n₀ : Nat} {w : World} {a : Option Addr} {c N : Nat} {l : List Int} {C : Nat → Nat → Nat} (h : RfIs n₀ w a c N l C) {i : Nat} (hi : i < 4 * N) : ∃ x : Nat, l[i]?.getD 0 = (x : Int) ∧ x ≤ 15 := by
  have hN := h.wide.le
  have hr : i / N < 4 := by rw [Nat.div_lt_iff_lt_mul (by omega)]; exact hi
  have hj : i % N < N := Nat.mod_lt _ (by omega)
  have := h.cnt.eq (i / N) (i % N) hr hj
  rw [show i / N * N + i % N = i by rw [Nat.mul_comm]; exact Nat.div_add_mod i N] at this
  exact ⟨_, this, h.small _ _⟩
theorem rhalve_res (w : World) (g : Nat) (N age : Int) (v : Value) (tmps : Array Value) (h2 : tmps.getD 2 undef = .pointer (some ⟨g, 0, none⟩)) (hg : w.heap[g]? = some (.cells (rkC N age v) 30 (0, 0))) :
    (results Try.f14 tmps).run Try.prog w = .ok (.agg (rkC N age v)) w := by
  have h2' : tmps[2]?.getD undef = .pointer (some ⟨g, 0, none⟩) := by simpa using h2
  simp [results, Try.results14, h2', asAddr, run_loadVar_row w g 30 30 (rkC N age v) (0, 0) _ hg Try.underlying30 rfl (rkC_sz N age v)]
/-- What the document's Halve, Mark answer. -/
def RkDid (N : Nat) (age : Int) (C : Nat → Nat → Nat) (w : World) (e : Ending) (w' : World) : Prop :=
  ∃ a c l, e = .returned (.agg (rkC N age (.slice a (4 * N) c))) ∧ RfIs w'.heap.size w' a c N l C ∧ Below w.heap.size w w'
/-- What a round of the document's Halve keeps. -/
structure HvIn (w : World) (g2 S3 T : Nat) (N : Int) (l : List Int) (i : Nat) (w1 W : World) : Prop where
  row : W.heap[g2]? = some (.cells (ints (hvL l i)).toArray 3 (0, 0))
  sk : W.heap[S3]? = some (.cells (rkC N 0 (.slice (some ⟨g2, 0, none⟩) T T)) 30 (0, 0))
  below : Below w1.heap.size w1 W
  beloww : Below w.heap.size w W
set_option maxRecDepth 100000 in
set_option maxHeartbeats 4000000 in
theorem rhalve_any {n₀ : Nat} {w : World} {a : Option Addr} {c N : Nat} {l : List Int} {C : Nat → Nat → Nat} (hR : RfIs n₀ w a c N l C) (hn₀ : n₀ ≤ w.heap.size) (age : Int) :
    Calls Try.prog 14 #[.agg #[.int .i64 (N : Int), .int .i64 age, .slice a (4 * N) c]] w (RkDid N 0 (hlv C) w) := by
  have hle := hR.wide.le
  have hlen := hR.cnt.len
  have HR := Lib.hid hR
  have HNEW := Lib.hid (fun V => rnew_any (N := N) hle.2 V)
  have HROW := Lib.hid (fun (V : World) (hb : Below w.heap.size w V) => hR.row.below (hb.mono hn₀))
  unfold RkDid
  obtain ⟨T, hT⟩ : ∃ T, 4 * N = T := ⟨_, rfl⟩
  rw [hT] at HROW hlen HNEW ⊢
  have HT := Lib.hid hT
  have HLEN := Lib.hid hlen
  have HLE := Lib.hid hle
  have HN0 := Lib.hid hn₀
  obtain ⟨w1, hw1⟩ : ∃ w1, (w.alloc (.cells #[.int .i64 (N : Int), .int .i64 age, .slice a T c] 30)).alloc (.cells (rkC 0 0 (.slice none 0 0)) 30) = w1 := ⟨_, rfl⟩
  have hb1 : Below w.heap.size w w1 := by rw [← hw1]; exact ((Below.refl _ w).alloc (Nat.le_refl _) _).alloc (by simp) _
  have hk1 : w1.heap[w.heap.size]? = some (.cells #[.int .i64 (N : Int), .int .i64 age, .slice a T c] 30 (0, 0)) := by rw [← hw1]; exact blk_alloc (heap_alloc_new _ _) _
  have hk2 : w1.heap[w.heap.size + 1]? = some (.cells (rkC 0 0 (.slice none 0 0)) 30 (0, 0)) := by
    rw [← hw1]
    have := heap_alloc_new (w.alloc (.cells #[.int .i64 (N : Int), .int .i64 age, .slice a T c] 30)) (.cells (rkC 0 0 (.slice none 0 0)) 30)
    rwa [World.size_alloc] at this
  have hz1 : w1.heap.size = w.heap.size + 2 := by rw [← hw1]; simp
  have HW1 := Lib.hid hw1
  have HB1 := Lib.hid hb1
  have HK1 := Lib.hid hk1
  have HK2 := Lib.hid hk2
  have HZ1 := Lib.hid hz1
  have q0 : w1.cell? ⟨w.heap.size, 0, none⟩ = some (.int .i64 (N : Int)) := blk_cell hk1 0
  clear hw1 hb1 hk1 hk2 hz1 hle hlen hT hn₀ hR
  go_enter Try.func14, Try.ntmps14
  go_upto_region 1 with fail
  change Code.wp _ _ _ _ ((w.alloc (.cells #[.int .i64 (N : Int), .int .i64 age, .slice a T c] 30)).alloc (.cells (rkC 0 0 (.slice none 0 0)) 30))
  rw [HW1.out]
  clear HW1
  go_upto_region 2 with (first
    | (go_at_call 12; (with_reducible refine (HNEW.out _).mono ?_); rintro e w2 ⟨g2, rfl, hg2, hge, hb2⟩; have HG2 := Lib.hid hg2; have HGE := Lib.hid hge; have HB2 := Lib.hid hb2; have HK6 := Lib.hid (heap_alloc_new w2 (.cells (rkC 0 0 (.slice none 0 0)) 30)); clear hg2 hge hb2)
    | (refine wpList_store_row (o := ⟨none, _, _, _, _, _⟩) rfl 30 (.tmp 3) (.tmp 7) rfl w2.heap.size (rkC N 0 (.slice (some ⟨g2, 0, none⟩) T T)) rfl rfl 30 (rkC 0 0 (.slice none 0 0)) HK6.out (rkC_sz _ _ _) rfl ?_ ?_; exact rkC_one _ _ _ _ _))
  obtain ⟨w3, hw3⟩ : ∃ w3, (w2.alloc (.cells (rkC 0 0 (.slice none 0 0)) 30)).setRow w2.heap.size (rkC N 0 (.slice (some ⟨g2, 0, none⟩) T T)) = w3 := ⟨_, rfl⟩
  have hk3 : w3.heap[w2.heap.size]? = some (.cells (rkC N 0 (.slice (some ⟨g2, 0, none⟩) T T)) 30 (0, 0)) := by rw [← hw3]; exact setRow_heap1 _ _ _ _ _ _ HK6.out
  have hlt2 := blk_lt HG2.out
  have hg3 : w3.heap[g2]? = some (.cells (ints (List.replicate T 0)).toArray 3 (0, 0)) := by rw [← hw3, setRow_other1 _ _ _ _ (by omega)]; exact blk_alloc HG2.out _
  have hb3 : Below w1.heap.size w1 w3 := by rw [← hw3]; exact below_setRow1 (HB2.out.alloc HB2.out.size _) HB2.out.size _
  have hs2 : w1.heap.size ≤ w2.heap.size := HB2.out.size
  change Code.wp _ _ _ _ ((w2.alloc (.cells (rkC 0 0 (.slice none 0 0)) 30)).setRow w2.heap.size (rkC N 0 (.slice (some ⟨g2, 0, none⟩) T T)))
  rw [hw3]
  obtain ⟨S3, hS3⟩ : ∃ S3, w2.heap.size = S3 := ⟨_, rfl⟩
  rw [hS3] at hk3 hs2 ⊢
  have hne : g2 ≠ S3 := blk_ne hg3 hk3 (by decide)
  have HNE := Lib.hid (And.intro hne hs2)
  have H3 : Hid (HvIn w g2 S3 T N l 0 w1 w3) := ⟨by rw [hvL_zero, HLEN.out]; exact hg3, hk3, hb3, HB1.out.trans (hb3.mono HB1.out.size)⟩
  clear hw3 hk3 hlt2 hg3 hb3 hs2 hS3 hne q0 HNEW HG2 HB2 HK6
  go_wp2
  go_loopw [4] (fun v W => ∃ i : Nat, i ≤ T ∧ v = .int .i64 (i : Int) ∧ HvIn w g2 S3 T N l i w1 W) (fun v _ => T - (intOf v).toNat)
  case atStart => exact ⟨0, Nat.zero_le _, rfl, H3.out⟩
  case round =>
    obtain ⟨i, hi, rfl, hv⟩ := hrel
    have HV := Lib.hid hv
    have hbb := (hv.below.block _ (blk_lt HK1.out)).trans HK1.out
    have d2 : wr.cell? ⟨w.heap.size, 2, none⟩ = some (.slice a T c) := blk_cell hbb 2
    by_cases hlt : i < T
    · obtain ⟨g, off, rfl, hg, hc⟩ := (HROW.out _ hv.beloww).get (i := i) (by have := HLEN.out; omega)
      have q1 : wr.drew.cell? ⟨w.heap.size, 2, none⟩ = some (.slice (some ⟨g, off, none⟩) T c) := d2
      have q2 : wr.drew.cell? ⟨S3, 2, none⟩ = some (.slice (some ⟨g2, 0, none⟩) T T) := blk_cell hv.sk 2
      have q3 : wr.drew.cell? ⟨g, off + i, none⟩ = some (.int .i64 (l[i]?.getD 0)) := hc
      have q4 : wr.drew.cell? ⟨g2, i, none⟩ = some (.int .i64 ((hvL l i)[i]?.getD 0)) := by
        rw [blk_cell (show wr.drew.heap[g2]? = _ from hv.row), List.getElem?_toArray]
        exact ints_get _ (by rw [hvL_len]; have := HLEN.out; omega)
      have q5 : wr.drew.frozen? ⟨g2, i, none⟩ = false := blk_frozen (show wr.drew.heap[g2]? = _ from hv.row) _
      have HLS := Lib.hid (hvL_set l i)
      have hx0 : ∃ x : Nat, l[i]?.getD 0 = (x : Int) ∧ x ≤ 15 := rk_small HR.out (by have := HT.out; omega)
      obtain ⟨x, hx, hx15⟩ := hx0
      rw [hx] at q3 HLS
      have i1 : (i : Int) < (T : Int) := by omega
      have i2 : (T : Int) ≤ 16384 := by have := HT.out; have := HLE.out; omega
      have HX : Hid ((x : Int) / 2 = ((x / 2 : Nat) : Int)) := rfl
      have fx : ((x : Int)).tdiv 2 = ((x / 2 : Nat) : Int) := by rw [Int.tdiv_eq_ediv_of_nonneg (Int.natCast_nonneg _)]; rfl
      have fx1 : (x : Int) / 2 = ((x / 2 : Nat) : Int) := rfl
      rw [fx1] at HLS
      obtain ⟨y, hy⟩ : ∃ y, x / 2 = y := ⟨_, rfl⟩
      have y15 : (y : Int) ≤ 15 := by omega
      have fw : IntKind.i64.wrap (y : Int) = (y : Int) := wrap_s15 y15
      rw [hy] at HLS fx fx1
      have HF : Hid (HvIn w g2 S3 T N l (i + 1) w1 (wr.setCell ⟨g2, i, none⟩ (.int .i64 (y : Int))).drew) := by
        refine ⟨?_, (Below.heap_setCell _ _ _ _ (fun e => HNE.out.1 e.symm)).trans hv.sk, (hv.below.setCell (p := ⟨g2, i, none⟩) HGE.out _).drew, (hv.beloww.setCell (p := ⟨g2, i, none⟩) (Nat.le_trans HB1.out.size HGE.out) _).drew⟩
        show (wr.setCell ⟨g2, i, none⟩ (.int .i64 (y : Int))).heap[g2]? = _
        rw [blk_set hv.row, ← HLS.out, ← ints_set]
        simp
      have HLI := Lib.hid hlt
      clear hbb hv hi hlt hg hc hx hx15 hy HX HLS
      go_wp2
      go_still_tail 10, (by kernel_rfl)
      change wpList _ _ _ _ _ wr.drew
      go_wp2
      go_roundw
      case rel => exact ⟨i + 1, HLI.out, by go_num, HF.out⟩
      case measure => have h9 := HLI.out; simp [intOf]; omega
    · obtain rfl : i = T := by omega
      have d0 : wr.cell? ⟨S3, 0, none⟩ = some (.int .i64 (N : Int)) := blk_cell hv.sk 0
      have d1 : wr.cell? ⟨S3, 1, none⟩ = some (.int .i64 0) := blk_cell hv.sk 1
      have d3 : wr.cell? ⟨S3, 2, none⟩ = some (.slice (some ⟨g2, 0, none⟩) i i) := blk_cell hv.sk 2
      have HRB := Lib.hid ((hv.below.block _ (blk_lt HK2.out)).trans HK2.out)
      clear hbb hv hi hlt
      go_wp2_with (refine wpList_store_row (o := ⟨none, _, _, _, _, _⟩) rfl 30 (.tmp 2) (.tmp 25) rfl (w.heap.size + 1) (rkC N 0 (.slice (some ⟨g2, 0, none⟩) i i)) rfl rfl 30 (rkC 0 0 (.slice none 0 0)) HRB.out (rkC_sz _ _ _) rfl ?_ ?_; exact rkC_one _ _ _ _ _)
      have hne2 : g2 ≠ w.heap.size + 1 := blk_ne HV.out.row HRB.out (by decide)
      have hrow : (wr.setRow (w.heap.size + 1) (rkC N 0 (.slice (some ⟨g2, 0, none⟩) i i))).heap[g2]? = some (.cells (ints (hvL l i)).toArray 3 (0, 0)) := (setRow_other1 _ _ _ _ hne2).trans HV.out.row
      have hcn := hvL_cnt HR.out.cnt
      rw [HT.out] at hcn
      refine bodyPost_ret (rhalve_res _ (w.heap.size + 1) N 0 _ _ rfl (setRow_heap1 _ _ _ _ _ _ HRB.out)) rfl ⟨some ⟨g2, 0, none⟩, i, hvL l i, rfl, ⟨HR.out.wide, hlv_le HR.out.small, ?_, hcn, fun g off e => by cases e; exact ⟨_, _, hrow⟩⟩, below_setRow1 HV.out.beloww (Nat.le_succ _) _⟩
      have := IntsAt.of_blk hrow
      rw [HT.out]
      rwa [hvL_len, HLEN.out] at this
end Go.Proofs.Ytalgkiagdjckiaa

/-
  sgraffitolaw14's told (of what is alike), awake.
  Conditions: none.
-/
import Derived.Test.YtpihncafmjbccaaBkt6
namespace Go.Proofs.Ytpihncafmjbccaa
open Go.RowKit

set_option maxRecDepth 100000 in
theorem ent_neq (h r a s : Int) (V : World) : (binOp .neq 40 (.agg #[.int .u64 h, .int .i64 r, .int .i64 a, .int .i64 s]) (.agg #[.int .u64 h, .int .i64 r, .int .i64 a, .int .i64 s])).run Try.prog V = .ok (.bool false) V := by
  have h3 : ∀ (n : Nat) (a : Int) (W : World), (Op.equalIn (n + 1) 3 (.int .i64 a) (.int .i64 a)).run Try.prog W = .ok true W := fun n a W => by
    rw [run_equalIn_int W n 3 .i64 _ a a Try.underlying3, beq_self_eq_true]
  have h2 : ∀ (n : Nat) (a : Int) (W : World), (Op.equalIn (n + 1) 25 (.int .u64 a) (.int .u64 a)).run Try.prog W = .ok true W := fun n a W => by
    rw [run_equalIn_int W n 25 .u64 _ a a Try.underlying25, beq_self_eq_true]
  have h4 : ∀ (n : Nat) (r a s : Int) (W : World), (Op.equalIn (n + 2) 35 (.agg #[.int .i64 r, .int .i64 a, .int .i64 s]) (.agg #[.int .i64 r, .int .i64 a, .int .i64 s])).run Try.prog W = .ok true W := fun n r a s W => by
    rw [run_equalIn_struct _ _ _ _ _ (by kernel_rfl) (by kernel_rfl)]
    simp [Program.fieldsOf, Try.underlying35, Op.eqFields, part, h3]
  have h5 : (Op.equalIn 10000 40 (.agg #[.int .u64 h, .int .i64 r, .int .i64 a, .int .i64 s]) (.agg #[.int .u64 h, .int .i64 r, .int .i64 a, .int .i64 s])).run Try.prog V = .ok true V := by
    rw [show (10000 : Nat) = 9999 + 1 from rfl, run_equalIn_struct _ _ _ _ _ (by kernel_rfl) (by kernel_rfl)]
    have e2 := fun a W => h2 9998 a W
    have e4 := fun r a s W => h4 9997 r a s W
    simp [Program.fieldsOf, Try.underlying40, Op.eqFields, part, e2, e4]
  simp only [binOp]
  simp [Op.equal, Op.maxDepth, h5]
set_option maxRecDepth 100000 in
theorem ent_guard (h r a s : Int) (x y : Operand) (V : World) : (eqGuard .neq 40 x y (.agg #[.int .u64 h, .int .i64 r, .int .i64 a, .int .i64 s]) (.agg #[.int .u64 h, .int .i64 r, .int .i64 a, .int .i64 s])).run Try.prog V = .ok () V := run_eqGuard_agg _ _ _ _ _ _ _ (by kernel_rfl)
section
attribute [-go_sem] run_eql_struct run_eqGuard_agg
attribute [local go_sem] ent_neq ent_guard
set_option maxRecDepth 100000 in
set_option maxHeartbeats 4000000 in
theorem told_any (d p : Int) (a b : Option Addr) (n c m e : Nat) (l : List Ent) (w : World) (hE1 : EntsAt w.heap.size w (.slice a n c) l) (hE2 : EntsAt w.heap.size w (.slice b m e) l) (hlen : l.length ≤ 1073741824) :
    Calls Try.prog 12 #[.agg #[.int .i64 d, .int .i64 p, .slice a n c], .agg #[.int .i64 d, .int .i64 p, .slice b m e]] w fun e w' => e = .returned (.bool true) ∧ Below w.heap.size w w' := by
  obtain ⟨_, _, e0, hc1⟩ := hE1.slice
  cases e0
  obtain ⟨_, _, e0, hc2⟩ := hE2.slice
  cases e0
  have hl1 : (l.length : Int) ≤ 1073741824 := by omega
  have hl2 : (l.length : Int) ≤ c := by omega
  have hl3 : (l.length : Int) ≤ e := by omega
  have hb2 : Below w.heap.size w ((w.alloc (.cells #[.int .i64 d, .int .i64 p, .slice a l.length c] 32)).alloc (.cells #[.int .i64 d, .int .i64 p, .slice b l.length e] 24)) := ((Below.refl _ w).alloc (Nat.le_refl _) _).alloc (by simp) _
  have hk0 : ((w.alloc (.cells #[.int .i64 d, .int .i64 p, .slice a l.length c] 32)).alloc (.cells #[.int .i64 d, .int .i64 p, .slice b l.length e] 24)).heap[w.heap.size]? = some (.cells #[.int .i64 d, .int .i64 p, .slice a l.length c] 32 (0, 0)) := blk_alloc (heap_alloc_new _ _) _
  have hk1 : ((w.alloc (.cells #[.int .i64 d, .int .i64 p, .slice a l.length c] 32)).alloc (.cells #[.int .i64 d, .int .i64 p, .slice b l.length e] 24)).heap[w.heap.size + 1]? = some (.cells #[.int .i64 d, .int .i64 p, .slice b l.length e] 24 (0, 0)) := by
    have := heap_alloc_new (w.alloc (.cells #[.int .i64 d, .int .i64 p, .slice a l.length c] 32)) (.cells #[.int .i64 d, .int .i64 p, .slice b l.length e] 24)
    rw [World.size_alloc] at this
    exact this
  obtain ⟨w2, hw2⟩ : ∃ w2, ((w.alloc (.cells #[.int .i64 d, .int .i64 p, .slice a l.length c] 32)).alloc (.cells #[.int .i64 d, .int .i64 p, .slice b l.length e] 24)) = w2 := ⟨_, rfl⟩
  rw [hw2] at hb2 hk0 hk1
  have HB2 := Lib.hid hb2
  have HK0 := Lib.hid hk0
  have HK1 := Lib.hid hk1
  have HF1 := Lib.hid (hE1.below hb2)
  have HF2 := Lib.hid (hE2.below hb2)
  have c2 : w2.cell? ⟨w.heap.size, 2, none⟩ = some (.slice a l.length c) := blk_cell hk0 2
  have HW2 := Lib.hid hw2
  clear hE1 hE2 hb2 hk0 hk1 hlen hw2
  go_enter Try.func12, Try.ntmps12
  go_wp2
  rw [HW2.out]
  go_loopw [5] (fun i wr => ∃ k : Nat, k ≤ l.length ∧ i = .int .i64 k ∧ Below w2.heap.size w2 wr) (fun i _ => l.length - (intOf i).toNat)
  case atStart => exact ⟨0, Nat.zero_le _, rfl, Below.refl _ _⟩
  case round =>
    obtain ⟨k, hk, rfl, hB⟩ := hrel
    have hS : ∀ W, Below w2.heap.size w2 W → W.cell? ⟨w.heap.size, 2, none⟩ = some (.slice a l.length c) ∧ W.cell? ⟨w.heap.size + 1, 2, none⟩ = some (.slice b l.length e) := fun W h =>
      ⟨(h.cell (p := ⟨w.heap.size, 2, none⟩) (blk_lt HK0.out)).trans (blk_cell HK0.out 2), (h.cell (p := ⟨w.heap.size + 1, 2, none⟩) (blk_lt HK1.out)).trans (blk_cell HK1.out 2)⟩
    obtain ⟨s1, s2⟩ := hS wr hB
    by_cases hlt : k < l.length
    · obtain ⟨g, off, rfl, hg, e4⟩ := HF1.out.get hlt
      obtain ⟨g', off', rfl, hg', f4⟩ := HF2.out.get hlt
      have hgw : w.heap.size ≤ w2.heap.size := HB2.out.size
      have k1 : (k : Int) < l.length := by omega
      have HS : Hid (∀ W, Below w2.heap.size w2 W → W.cell? ⟨w.heap.size, 2, none⟩ = some (.slice (some ⟨g, off, none⟩) l.length c) ∧ W.cell? ⟨w.heap.size + 1, 2, none⟩ = some (.slice (some ⟨g', off', none⟩) l.length e) ∧
          (W.cell? ⟨g, off + k * 4, none⟩ = some (.int .u64 (U (l[k]?.getD default).hash)) ∧ W.cell? ⟨g, off + k * 4 + 1, none⟩ = some (.int .i64 (l[k]?.getD default).reg) ∧ W.cell? ⟨g, off + k * 4 + 2, none⟩ = some (.int .i64 (l[k]?.getD default).at_) ∧ W.cell? ⟨g, off + k * 4 + 3, none⟩ = some (.int .i64 (l[k]?.getD default).size)) ∧
          (W.cell? ⟨g', off' + k * 4, none⟩ = some (.int .u64 (U (l[k]?.getD default).hash)) ∧ W.cell? ⟨g', off' + k * 4 + 1, none⟩ = some (.int .i64 (l[k]?.getD default).reg) ∧ W.cell? ⟨g', off' + k * 4 + 2, none⟩ = some (.int .i64 (l[k]?.getD default).at_) ∧ W.cell? ⟨g', off' + k * 4 + 3, none⟩ = some (.int .i64 (l[k]?.getD default).size))) := fun W h =>
        ⟨(hS W h).1, (hS W h).2, ⟨(h.cell (p := ⟨g, _, none⟩) (show g < w2.heap.size by omega)).trans e4.1, (h.cell (p := ⟨g, _, none⟩) (show g < w2.heap.size by omega)).trans e4.2.1, (h.cell (p := ⟨g, _, none⟩) (show g < w2.heap.size by omega)).trans e4.2.2.1, (h.cell (p := ⟨g, _, none⟩) (show g < w2.heap.size by omega)).trans e4.2.2.2⟩,
          ⟨(h.cell (p := ⟨g', _, none⟩) (show g' < w2.heap.size by omega)).trans f4.1, (h.cell (p := ⟨g', _, none⟩) (show g' < w2.heap.size by omega)).trans f4.2.1, (h.cell (p := ⟨g', _, none⟩) (show g' < w2.heap.size by omega)).trans f4.2.2.1, (h.cell (p := ⟨g', _, none⟩) (show g' < w2.heap.size by omega)).trans f4.2.2.2⟩⟩
      generalize l[k]?.getD default = x at HS e4 f4
      have HENT : Hid (∀ W, Calls Try.prog 9 #[.agg #[.int .u64 (U x.hash), .int .i64 x.reg, .int .i64 x.at_, .int .i64 x.size]] W fun e w' => e = .returned (.agg #[.int .u64 (U x.hash), .int .i64 x.reg, .int .i64 x.at_, .int .i64 x.size]) ∧ Below W.heap.size W w') := fun W => entry_any x W
      have hBc := Lib.hid (hB.drew)
      clear e4 f4 hB hS
      go_upto_region 6 with (fail)
      go_region_held3 (fun W => W.cell? ⟨w.heap.size, 2, none⟩ = some (.slice (some ⟨g, off, none⟩) l.length c) ∧ W.cell? ⟨w.heap.size + 1, 2, none⟩ = some (.slice (some ⟨g', off', none⟩) l.length e) ∧
          (W.cell? ⟨g, off + k * 4, none⟩ = some (.int .u64 (U x.hash)) ∧ W.cell? ⟨g, off + k * 4 + 1, none⟩ = some (.int .i64 x.reg) ∧ W.cell? ⟨g, off + k * 4 + 2, none⟩ = some (.int .i64 x.at_) ∧ W.cell? ⟨g, off + k * 4 + 3, none⟩ = some (.int .i64 x.size)) ∧
          (W.cell? ⟨g', off' + k * 4, none⟩ = some (.int .u64 (U x.hash)) ∧ W.cell? ⟨g', off' + k * 4 + 1, none⟩ = some (.int .i64 x.reg) ∧ W.cell? ⟨g', off' + k * 4 + 2, none⟩ = some (.int .i64 x.at_) ∧ W.cell? ⟨g', off' + k * 4 + 3, none⟩ = some (.int .i64 x.size)))
        (exact HS.out _ hBc.out)
        ((go_at_call 9; (with_reducible refine (HENT.out _).mono ?_); rintro e w7 ⟨rfl, hb7⟩; have hBn := hBc.out.trans (hb7.mono hBc.out.size); clear hBc hb7; have hBc := Lib.hid hBn; clear hBn))
      all_goals
        go_wp2
        go_roundw
        case rel => exact ⟨k + 1, by omega, by go_num, hBc.out⟩
        case measure => simp [intOf]; omega
    · obtain rfl : k = l.length := by omega
      go_wp2
      go_ret
      exact ⟨rfl, HB2.out.trans (hB.mono HB2.out.size)⟩
end
/-- What the example's two entries are parted into. -/
def AwRet (w : World) (e : Ending) (w' : World) : Prop := ∃ a c b k, e = .returned (.agg #[.int .i64 1, .int .i64 0, .slice a 1 c, .int .i64 1, .int .i64 1, .slice b 1 k]) ∧ (∃ g off, a = some ⟨g, off, none⟩ ∧ w'.cell? ⟨g, off, none⟩ = some (.int .u64 1)) ∧ 1 ≤ c ∧ Below w.heap.size w w'
theorem aw_one : ([⟨1#64, 0, 0, 0⟩, ⟨9223372036854775808#64, 0, 0, 0⟩] : List Ent).filter (fun x => preI x.hash (0 + 1) == 0 * 2) = [⟨1#64, 0, 0, 0⟩] := by
  have h1 : (preI 1#64 (0 + 1) == 0 * 2) = true := by decide
  have h2 : (preI 9223372036854775808#64 (0 + 1) == 0 * 2) = false := by decide
  simp only [List.filter, h1, h2]
theorem aw_two : ([⟨1#64, 0, 0, 0⟩, ⟨9223372036854775808#64, 0, 0, 0⟩] : List Ent).filter (fun x => !(preI x.hash (0 + 1) == 0 * 2)) = [⟨9223372036854775808#64, 0, 0, 0⟩] := by
  have h1 : (preI 1#64 (0 + 1) == 0 * 2) = true := by decide
  have h2 : (preI 9223372036854775808#64 (0 + 1) == 0 * 2) = false := by decide
  simp only [List.filter, h1, h2, Bool.not_true, Bool.not_false]
theorem aw_split (w : World) : Calls Try.prog 11 #[.agg #[.int .i64 0, .int .i64 0, .slice (some ⟨w.heap.size, 0, none⟩) 2 2]] (w.alloc (.cells #[.int .u64 1, .int .i64 0, .int .i64 0, .int .i64 0, .int .u64 9223372036854775808, .int .i64 0, .int .i64 0, .int .i64 0] 40)) (AwRet (w.alloc (.cells #[.int .u64 1, .int .i64 0, .int .i64 0, .int .i64 0, .int .u64 9223372036854775808, .int .i64 0, .int .i64 0, .int .i64 0] 40))) := by
  have hE : EntsAt (w.alloc (.cells #[.int .u64 1, .int .i64 0, .int .i64 0, .int .i64 0, .int .u64 9223372036854775808, .int .i64 0, .int .i64 0, .int .i64 0] 40)).heap.size (w.alloc (.cells #[.int .u64 1, .int .i64 0, .int .i64 0, .int .i64 0, .int .u64 9223372036854775808, .int .i64 0, .int .i64 0, .int .i64 0] 40)) (.slice (some ⟨w.heap.size, 0, none⟩) 2 2) [⟨1#64, 0, 0, 0⟩, ⟨9223372036854775808#64, 0, 0, 0⟩] := by
    have := World.ownsRow_lit (base := w.heap.size) (e := 40) (size := 4) w #[.int .u64 1, .int .i64 0, .int .i64 0, .int .i64 0, .int .u64 9223372036854775808, .int .i64 0, .int .i64 0, .int .i64 0] 2 (Nat.le_refl _) (by decide) rfl
    exact EntsAt.of_owns (l := [⟨1#64, 0, 0, 0⟩, ⟨9223372036854775808#64, 0, 0, 0⟩]) this rfl
  refine (split_any 0 0 (by decide) (by decide) _ 2 2 _ _ hE (by decide)).mono ?_
  rintro e w' ⟨a, n, c, b, m, k, rfl, h1, h2, _, hb⟩
  rw [show (((0 : Nat) : Int)) = 0 from rfl, aw_one] at h1
  rw [show (((0 : Nat) : Int)) = 0 from rfl, aw_two] at h2
  obtain ⟨g, off, rfl, _, h3, _⟩ := EntsAt.get h1 (i := 0) (by obtain ⟨_, _, e, _⟩ := h1; decide)
  obtain ⟨_, _, e1, hc⟩ := h1.slice
  cases e1
  obtain ⟨_, _, e2, _⟩ := h2.slice
  cases e2
  exact ⟨_, _, _, _, rfl, ⟨g, off, rfl, h3⟩, hc, hb⟩
set_option maxRecDepth 100000 in
set_option maxHeartbeats 4000000 in
theorem awake14 (w : World) : Calls Try.prog 5 #[] w fun e w' => e = .returned (.bool true) ∧ Below w.heap.size w w' := by
  have HSP := Lib.hid (aw_split w)
  have HB1 := Lib.hid ((Below.refl _ w).alloc (Nat.le_refl _) (.cells #[.int .u64 1, .int .i64 0, .int .i64 0, .int .i64 0, .int .u64 9223372036854775808, .int .i64 0, .int .i64 0, .int .i64 0] 40))
  go_enter Try.func5, Try.ntmps5
  go_wp2_with (first
    | (go_at_call 11; (with_reducible refine HSP.out.mono ?_); rintro e w2 ⟨a, c, b, k, rfl, ⟨g, off, rfl, h3⟩, hc, hb⟩; have HB2 := Lib.hid hb; have hc1 : (1 : Int) ≤ c := (by omega); have h4 : (w2.alloc (.cells #[.int .i64 1, .int .i64 0, .slice (some ⟨g, off, none⟩) 1 c, .int .i64 1, .int .i64 1, .slice b 1 k] 44)).cell? ⟨g, off, none⟩ = some (.int .u64 1) := (World.cell?_of_block (Below.heap_alloc _ _ _ (World.block_lt_of_cell? _ _ h3))).trans h3; have HB3 := Lib.hid (HB1.out.trans ((hb.alloc hb.size (.cells #[.int .i64 1, .int .i64 0, .slice (some ⟨g, off, none⟩) 1 c, .int .i64 1, .int .i64 1, .slice b 1 k] 44)).mono HB1.out.size)); clear hb h3))
  go_ret
  exact ⟨rfl, HB3.out⟩
end Go.Proofs.Ytpihncafmjbccaa

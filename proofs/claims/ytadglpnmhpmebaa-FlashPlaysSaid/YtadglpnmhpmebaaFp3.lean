/-
  sgraffitoref04's Read.
  Conditions: none.
-/
import Derived.Test.YtadglpnmhpmebaaFp2
namespace Go.Proofs.Ytadglpnmhpmebaa
open Go.RowKit
attribute [-go_sem] Instr.build Instr.fill

theorem cur_snoc (d : Dev) (l : List (Nat × List (BitVec 8))) (x : Nat × List (BitVec 8)) (k : Nat) : ({ d with loose := l ++ [x] } : Dev).cur k = if x.1 = k then x.2 else ({ d with loose := l } : Dev).cur k := by
  unfold Dev.cur
  simp only [List.reverse_append, List.reverse_cons, List.reverse_nil, List.nil_append, List.singleton_append, List.find?_cons]
  by_cases h : x.1 = k
  · simp [h]
  · simp [h]
theorem cur_nil (d : Dev) (k : Nat) : ({ d with loose := [] } : Dev).cur k = d.fast k := rfl
theorem cur_full (d : Dev) (k : Nat) : ({ d with loose := d.loose.take d.loose.length } : Dev).cur k = d.cur k := by rw [List.take_length]
theorem take_snoc {α : Type} [Inhabited α] (l : List α) (i : Nat) (h : i < l.length) : l.take (i + 1) = l.take i ++ [l[i]?.getD default] := by
  rw [List.take_add_one, List.getElem?_eq_getElem h]
  rfl
theorem wrC_even (l : List (Nat × List (BitVec 8))) (i : Nat) : wrC l (i * 2) = .int .i64 ((l[i]?.getD default).1 : Int) := by
  unfold wrC
  rw [if_pos (by omega), show i * 2 / 2 = i by omega]
theorem wrC_odd (l : List (Nat × List (BitVec 8))) (i : Nat) : wrC l (i * 2 + 1) = .string (strB (l[i]?.getD default).2) := by
  unfold wrC
  rw [if_neg (by omega), show (i * 2 + 1) / 2 = i by omega]
theorem PstF.slice {n : Nat} {W : World} {v : Value} {m : Nat} {p : Nat → List (List (BitVec 8))} (h : PstF n W v m p) : ∃ a c, v = .slice a m c := by
  obtain ⟨us, h, _⟩ := h
  exact RowF.slice h
def readS04 (d : Dev) (at_ : Int) : List (BitVec 8) := if askErr d.sectors d.down at_ = 0 then d.cur at_.toNat else []
set_option maxRecDepth 100000 in
set_option maxHeartbeats 4000000 in
theorem refRead04_any {vF vL vP : Value} {d : Dev} {w : World} (hR : RefAt w.heap.size w vF vL vP d) (hl : d.loose.length ≤ 65536) (at_ : Int) :
    Calls Try.prog 15 #[.agg (rdC d.size vF vL vP d.armed d.acts d.down), .int .i64 at_] w fun e w' => e = .returned (.tuple #[.string (strB (readS04 d at_)), .int .i64 (askErr d.sectors d.down at_)]) ∧ Below w.heap.size w w' := by
  obtain ⟨a1, c1, rfl⟩ := hR.1.slice
  obtain ⟨a2, c2, rfl⟩ := hR.2.1.slice
  obtain ⟨a3, c3, rfl⟩ := hR.2.2.slice
  obtain ⟨W0, hW0⟩ : ∃ W0, w.alloc (.cells (rdC d.size (.slice a1 d.sectors c1) (.slice a2 d.loose.length c2) (.slice a3 d.sectors c3) d.armed d.acts d.down) 33) = W0 := ⟨_, rfl⟩
  have hX : W0.heap[w.heap.size]? = some (.cells (rdC d.size (.slice a1 d.sectors c1) (.slice a2 d.loose.length c2) (.slice a3 d.sectors c3) d.armed d.acts d.down) 33 (0, 0)) := by rw [← hW0]; exact heap_alloc_new _ _
  have hB : Below w.heap.size w W0 := by rw [← hW0]; exact (Below.refl _ w).alloc (Nat.le_refl _) _
  have HW0 := Lib.hid hW0
  have HX := Lib.hid hX
  have HB := Lib.hid hB
  have HR := Lib.hid hR
  clear hW0 hX hB hR
  have x6 := blk_cell HX.out 6
  have HTH := Lib.hid (fun W => there_any d.size d.sectors a1 c1 (.slice a2 d.loose.length c2) (.slice a3 d.sectors c3) d.armed d.acts d.down at_ W)
  have hl2 : (d.loose.length : Int) ≤ 65536 := by omega
  by_cases hdn : d.down = true
  · have he : askErr d.sectors d.down at_ = 4 := by unfold askErr; rw [if_pos hdn]
    have HE : Hid (readS04 d at_ = []) := by unfold Hid readS04; rw [he, if_neg (by decide)]
    rw [he, HE.out]
    unfold rdC at x6 HW0 ⊢
    rw [hdn] at x6 HW0 ⊢
    clear he HTH hdn
    go_enter Try.func15, Try.ntmps15
    go_upto_region 1 with (fail)
    change Code.wp _ _ _ _ (w.alloc (.cells #[.int .i64 d.size, .slice a1 d.sectors c1, .slice a2 d.loose.length c2, .slice a3 d.sectors c3, .int .i64 d.armed, .int .i64 d.acts, .bool true] 33))
    rw [HW0.out]
    go_wp2
    go_ret2
    exact ⟨rfl, HB.out⟩
  · have hdf : d.down = false := by simpa using hdn
    have x0 := blk_cell HX.out 0
    have x1 := blk_cell HX.out 1
    have x2 := blk_cell HX.out 2
    have x3 := blk_cell HX.out 3
    have x4 := blk_cell HX.out 4
    have x5 := blk_cell HX.out 5
    unfold rdC at x0 x1 x2 x3 x4 x5 x6 HW0 HTH ⊢
    rw [hdf] at x6 HW0 HTH ⊢
    by_cases hin : 0 ≤ at_ ∧ at_ < (d.sectors : Int)
    · have he : askErr d.sectors false at_ = 0 := by unfold askErr; rw [if_neg (by decide), if_pos hin]
      obtain ⟨k, rfl⟩ := Int.eq_ofNat_of_zero_le hin.1
      have hks : k < d.sectors := by omega
      have HE : Hid (readS04 d k = d.cur k) := by unfold Hid readS04; rw [hdf, if_pos he, Int.toNat_natCast]
      rw [show decide (0 ≤ (k : Int) ∧ (k : Int) < (d.sectors : Int)) = true by simpa using hin.2] at HTH
      rw [he, HE.out]
      obtain ⟨g1, c1', hm1, hv1, hc1, hg1, hcF, _⟩ := (HR.out.1).resolve_left (fun h => by omega)
      cases hv1
      have hcFk := hcF k (by omega)
      have HCF := Lib.hid (And.intro hg1 hcFk)
      have kc : (k : Int) < d.sectors := by omega
      clear he HE hdn hdf hcF hcFk hg1 hm1 hc1 hin
      go_enter Try.func15, Try.ntmps15
      go_upto_region 1 with (fail)
      change Code.wp _ _ _ _ (w.alloc (.cells #[.int .i64 d.size, .slice (some ⟨g1, 0, none⟩) d.sectors c1, .slice a2 d.loose.length c2, .slice a3 d.sectors c3, .int .i64 d.armed, .int .i64 d.acts, .bool false] 33))
      rw [HW0.out]
      go_wp2_with (go_at_call 40; (with_reducible refine (HTH.out _).mono ?_); rintro e w1 ⟨rfl, hb⟩; have HB1 := Lib.hid (HB.out.trans (hb.mono HB.out.size)); have hx := (hb.block _ (blk_lt HX.out)).trans HX.out; have HX1 := Lib.hid hx; clear x0 x1 x2 x3 x4 x5 x6; have x1 := blk_cell hx 1; have x2 := blk_cell hx 2; unfold rdC at x1 x2; have xk := (HB1.out.cell (p := ⟨g1, k, none⟩) HCF.out.1).trans HCF.out.2; clear hx hb)
      have HR1 := Lib.hid (HR.out.2.1.below HB1.out)
      go_loopw [6, 7] (fun o i wr => ∃ j : Nat, j ≤ d.loose.length ∧ i = .int .i64 j ∧ o = .string (strB (({ d with loose := d.loose.take j } : Dev).cur k)) ∧ wr = w1) (fun _ i _ => d.loose.length - (intOf i).toNat)
      case atStart => exact ⟨0, Nat.zero_le _, rfl, by rw [List.take_zero, cur_nil], rfl⟩
      case round =>
        obtain ⟨j, hj, rfl, rfl, rfl⟩ := hrel
        by_cases hlt : j < d.loose.length
        · have j1 : (j : Int) < d.loose.length := by omega
          obtain ⟨g2, c2', hm2, hv2, hc2, hg2, hcL, _⟩ := (HR1.out).resolve_left (fun h => by omega)
          cases hv2
          have e0 := (hcL (j * 2) (by omega)).trans (congrArg some (wrC_even d.loose j))
          have e1 := (hcL (j * 2 + 1) (by omega)).trans (congrArg some (wrC_odd d.loose j))
          have HST : Hid (({ d with loose := d.loose.take (j + 1) } : Dev).cur k = if (d.loose[j]?.getD default).1 = k then (d.loose[j]?.getD default).2 else ({ d with loose := d.loose.take j } : Dev).cur k) := by
            unfold Hid
            rw [take_snoc _ _ hlt, cur_snoc]
          have HLT := Lib.hid hlt
          generalize d.loose[j]?.getD default = x at e0 e1 HST
          generalize ({ d with loose := d.loose.take j } : Dev).cur k = cu at HST
          clear hcL hg2 hc2 hm2 hlt hj
          by_cases hxk : x.1 = k
          · have hb : ((x.1 : Int) == (k : Int)) = true := by rw [hxk]; exact beq_self_eq_true _
            have HST2 := Lib.hid (HST.out.trans (if_pos hxk))
            clear hxk
            go_wp2
            go_roundw
            case rel => exact ⟨j + 1, HLT.out, by go_num, by rw [HST2.out], (by trivial)⟩
            case measure => have := HLT.out; simp [intOf]; omega
          · have hb : ((x.1 : Int) == (k : Int)) = false := beq_eq_false_iff_ne.2 (by omega)
            have HST2 := Lib.hid (HST.out.trans (if_neg hxk))
            clear hxk
            go_wp2
            go_roundw
            case rel => exact ⟨j + 1, HLT.out, by go_num, by rw [HST2.out], (by trivial)⟩
            case measure => have := HLT.out; simp [intOf]; omega
        · obtain rfl : j = d.loose.length := by omega
          rw [cur_full]
          clear hj hlt
          go_wp2
          go_ret2
          exact ⟨rfl, HB1.out⟩
    · have he : askErr d.sectors false at_ = 2 := by unfold askErr; rw [if_neg (by decide), if_neg hin]
      have HE : Hid (readS04 d at_ = []) := by unfold Hid readS04; rw [hdf, he, if_neg (by decide)]
      rw [show decide (0 ≤ at_ ∧ at_ < (d.sectors : Int)) = false by simpa using hin] at HTH
      rw [he, HE.out]
      clear he HE hdn hdf hin
      go_enter Try.func15, Try.ntmps15
      go_upto_region 1 with (fail)
      change Code.wp _ _ _ _ (w.alloc (.cells #[.int .i64 d.size, .slice a1 d.sectors c1, .slice a2 d.loose.length c2, .slice a3 d.sectors c3, .int .i64 d.armed, .int .i64 d.acts, .bool false] 33))
      rw [HW0.out]
      go_wp2_with (go_at_call 40; (with_reducible refine (HTH.out _).mono ?_); rintro e w1 ⟨rfl, hb⟩; have HB1 := Lib.hid (HB.out.trans (hb.mono HB.out.size)); clear hb)
      go_ret2
      exact ⟨rfl, HB1.out⟩
end Go.Proofs.Ytadglpnmhpmebaa

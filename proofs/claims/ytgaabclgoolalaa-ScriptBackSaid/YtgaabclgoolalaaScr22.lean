/-
  sgraffitolaw20's told: acts that say the same.
  Conditions: none.
-/
import Derived.Test.YtgaabclgoolalaaScr17
import Derived.Test.YtgaabclgoolalaaScr15
namespace Go.Proofs.Ytgaabclgoolalaa
open Go.RowKit
attribute [local go_sem] Oper.semAt_some

set_option maxRecDepth 100000 in
set_option maxHeartbeats 4000000 in
theorem told_yes (u v : Value) (l : List SAct) (w : World) (hA : ActsAt w.heap.size w u l) (hE : DocsAt w.heap.size w v l) (hl : l.length ≤ 1000000) (hn : ∀ x ∈ l, x.nums.length ≤ 1000000) : Calls Try.prog 8 #[u, v] w fun e w' => e = .returned (.bool true) ∧ Below w.heap.size w w' := by
  obtain ⟨ua, uc, rfl, huc⟩ := hA.slice
  obtain ⟨va, vc, rfl, hvc⟩ := hE.slice
  have l1 : (l.length : Int) ≤ 1000000 := by omega
  have HA := Lib.hid hA
  have HE := Lib.hid hE
  have HN := Lib.hid hn
  clear hA hE hl hn
  go_enter Try.func8, Try.ntmps8
  go_wp2
  go_loopw [5] (fun i wr => ∃ j : Nat, j ≤ l.length ∧ i = .int .i64 j ∧ Below w.heap.size w wr) (fun i _ => l.length - (intOf i).toNat)
  case atStart => exact ⟨0, Nat.zero_le _, rfl, Below.refl _ _⟩
  case round =>
    obtain ⟨j, hj, rfl, hB⟩ := hrel
    by_cases hlt : j < l.length
    · obtain ⟨ga, oa, rfl, hga, hea⟩ := (HA.out.below hB).get hlt
      obtain ⟨gd, od, rfl, hgd, hed⟩ := (HE.out.below hB).get hlt
      have j1 : (j : Int) < l.length := by omega
      have HLT := Lib.hid hlt
      obtain ⟨x, hx⟩ : ∃ x, (l[j]?.getD default) = x := ⟨_, rfl⟩
      rw [hx] at hea hed
      obtain ⟨a1, c1, a2, c2, a3, c3, ⟨e0, e1, e2, e3, e4⟩, k1, k2, k3⟩ := hea
      obtain ⟨b3, d3, ⟨f0, f1, f2, f3, f4⟩, m3⟩ := hed
      have hnx : x.nums.length ≤ 1000000 := by
        rw [← hx, List.getElem?_eq_getElem hlt]
        exact HN.out _ (List.getElem_mem hlt)
      have HNX := Lib.hid hnx
      clear hnx
      have HK1 : Hid (BytesAt w.heap.size wr (.slice a1 x.key.length c1) x.key) := k1
      have HK2 : Hid (BytesAt w.heap.size wr (.slice a2 x.val.length c2) x.val) := k2
      have HK3 := Lib.hid k3
      have HM3 := Lib.hid m3
      have HB := Lib.hid hB
      have hgaw : ga < wr.heap.size := Nat.lt_of_lt_of_le hga hB.size
      have hgdw : gd < wr.heap.size := Nat.lt_of_lt_of_le hgd hB.size
      have n1 : ga ≠ wr.heap.size := Nat.ne_of_lt hgaw
      have n2 : gd ≠ wr.heap.size := Nat.ne_of_lt hgdw
      have HC : Hid (∀ W, Below wr.heap.size wr W → (W.cell? ⟨ga, oa + j * 5, none⟩ = some (.int .i64 x.kind) ∧ W.cell? ⟨ga, oa + j * 5 + 1, none⟩ = some (.slice a1 x.key.length c1) ∧ W.cell? ⟨ga, oa + j * 5 + 2, none⟩ = some (.slice a2 x.val.length c2) ∧ W.cell? ⟨ga, oa + j * 5 + 3, none⟩ = some (.int .i64 x.num) ∧ W.cell? ⟨ga, oa + j * 5 + 4, none⟩ = some (.slice a3 x.nums.length c3)) ∧
          (W.cell? ⟨gd, od + j * 5, none⟩ = some (.int .i64 x.kind) ∧ W.cell? ⟨gd, od + j * 5 + 1, none⟩ = some (.string (strB x.key)) ∧ W.cell? ⟨gd, od + j * 5 + 2, none⟩ = some (.string (strB x.val)) ∧ W.cell? ⟨gd, od + j * 5 + 3, none⟩ = some (.int .i64 x.num) ∧ W.cell? ⟨gd, od + j * 5 + 4, none⟩ = some (.slice b3 x.nums.length d3))) := fun W h =>
        ⟨⟨(h.cell (p := ⟨ga, _, none⟩) hgaw).trans e0, (h.cell (p := ⟨ga, _, none⟩) hgaw).trans e1, (h.cell (p := ⟨ga, _, none⟩) hgaw).trans e2, (h.cell (p := ⟨ga, _, none⟩) hgaw).trans e3, (h.cell (p := ⟨ga, _, none⟩) hgaw).trans e4⟩,
          ⟨(h.cell (p := ⟨gd, _, none⟩) hgdw).trans f0, (h.cell (p := ⟨gd, _, none⟩) hgdw).trans f1, (h.cell (p := ⟨gd, _, none⟩) hgdw).trans f2, (h.cell (p := ⟨gd, _, none⟩) hgdw).trans f3, (h.cell (p := ⟨gd, _, none⟩) hgdw).trans f4⟩⟩
      clear hx hlt hj hB k1 k2 k3 m3 hga hgd n1 n2
      go_upto_region 6 with (fail)
      have hb2 : ∀ o1 o2, Below wr.heap.size wr ((wr.alloc o1).alloc o2).drew := fun o1 o2 => (((Below.refl _ wr).alloc (Nat.le_refl _) o1).alloc (by rw [World.size_alloc]; omega) o2).drew
      have hb1 : ∀ o1, Below wr.heap.size wr (wr.alloc o1).drew := fun o1 => ((Below.refl _ wr).alloc (Nat.le_refl _) o1).drew
      have ce0 := fun o1 o2 => (HC.out _ (hb2 o1 o2)).1.1
      have ce1 := fun o1 o2 => (HC.out _ (hb2 o1 o2)).1.2.1
      have ce2 := fun o1 o2 => (HC.out _ (hb2 o1 o2)).1.2.2.1
      have ce3 := fun o1 o2 => (HC.out _ (hb2 o1 o2)).1.2.2.2.1
      have ce4 := fun o1 o2 => (HC.out _ (hb2 o1 o2)).1.2.2.2.2
      have cf0 := fun o1 o2 => (HC.out _ (hb2 o1 o2)).2.1
      have cf1 := fun o1 o2 => (HC.out _ (hb2 o1 o2)).2.2.1
      have cf2 := fun o1 o2 => (HC.out _ (hb2 o1 o2)).2.2.2.1
      have cf3 := fun o1 o2 => (HC.out _ (hb2 o1 o2)).2.2.2.2.1
      have cf4 := fun o1 o2 => (HC.out _ (hb2 o1 o2)).2.2.2.2.2
      clear hb1
      clear HC hb2
      go_region
      · have hbw : Below wr.heap.size wr ((wr.alloc (.cells #[.int .i64 x.kind, .slice a1 x.key.length c1, .slice a2 x.val.length c2, .int .i64 x.num, .slice a3 x.nums.length c3] 49)).alloc (.cells #[.int .i64 x.kind, .string (strB x.key), .string (strB x.val), .int .i64 x.num, .slice b3 x.nums.length d3] 54)).drew := (((Below.refl _ wr).alloc (Nat.le_refl _) _).alloc (by rw [World.size_alloc]; omega) _).drew
        have hz1 : ((wr.alloc (.cells #[.int .i64 x.kind, .slice a1 x.key.length c1, .slice a2 x.val.length c2, .int .i64 x.num, .slice a3 x.nums.length c3] 49)).alloc (.cells #[.int .i64 x.kind, .string (strB x.key), .string (strB x.val), .int .i64 x.num, .slice b3 x.nums.length d3] 54)).drew.heap[wr.heap.size]? = some (.cells #[.int .i64 x.kind, .slice a1 x.key.length c1, .slice a2 x.val.length c2, .int .i64 x.num, .slice a3 x.nums.length c3] 49 (0, 0)) := blk_alloc (heap_alloc_new _ _) _
        have hz2 : ((wr.alloc (.cells #[.int .i64 x.kind, .slice a1 x.key.length c1, .slice a2 x.val.length c2, .int .i64 x.num, .slice a3 x.nums.length c3] 49)).alloc (.cells #[.int .i64 x.kind, .string (strB x.key), .string (strB x.val), .int .i64 x.num, .slice b3 x.nums.length d3] 54)).drew.heap[wr.heap.size + 1]? = some (.cells #[.int .i64 x.kind, .string (strB x.key), .string (strB x.val), .int .i64 x.num, .slice b3 x.nums.length d3] 54 (0, 0)) := by
          have := heap_alloc_new (wr.alloc (.cells #[.int .i64 x.kind, .slice a1 x.key.length c1, .slice a2 x.val.length c2, .int .i64 x.num, .slice a3 x.nums.length c3] 49)) (.cells #[.int .i64 x.kind, .string (strB x.key), .string (strB x.val), .int .i64 x.num, .slice b3 x.nums.length d3] 54)
          rw [World.size_alloc] at this
          exact this
        generalize ((wr.alloc (.cells #[.int .i64 x.kind, .slice a1 x.key.length c1, .slice a2 x.val.length c2, .int .i64 x.num, .slice a3 x.nums.length c3] 49)).alloc (.cells #[.int .i64 x.kind, .string (strB x.key), .string (strB x.val), .int .i64 x.num, .slice b3 x.nums.length d3] 54)).drew = w6 at hbw hz1 hz2 ⊢
        have HBW := Lib.hid hbw
        have y0 : w6.cell? ⟨wr.heap.size, 0, none⟩ = some (.int .i64 x.kind) := blk_cell hz1 0
        have y1 : w6.cell? ⟨wr.heap.size, 1, none⟩ = some (.slice a1 x.key.length c1) := blk_cell hz1 1
        have y2 : w6.cell? ⟨wr.heap.size, 2, none⟩ = some (.slice a2 x.val.length c2) := blk_cell hz1 2
        have y3 : w6.cell? ⟨wr.heap.size, 3, none⟩ = some (.int .i64 x.num) := blk_cell hz1 3
        have y4 : w6.cell? ⟨wr.heap.size, 4, none⟩ = some (.slice a3 x.nums.length c3) := blk_cell hz1 4
        have z0 : w6.cell? ⟨wr.heap.size + 1, 0, none⟩ = some (.int .i64 x.kind) := blk_cell hz2 0
        have z1 : w6.cell? ⟨wr.heap.size + 1, 1, none⟩ = some (.string (strB x.key)) := blk_cell hz2 1
        have z2 : w6.cell? ⟨wr.heap.size + 1, 2, none⟩ = some (.string (strB x.val)) := blk_cell hz2 2
        have z3 : w6.cell? ⟨wr.heap.size + 1, 3, none⟩ = some (.int .i64 x.num) := blk_cell hz2 3
        have z4 : w6.cell? ⟨wr.heap.size + 1, 4, none⟩ = some (.slice b3 x.nums.length d3) := blk_cell hz2 4
        have hck : (convert 22 9 (.slice a1 x.key.length c1)).run Try.prog w6 = .ok (.string (strB x.key)) w6 := conv_str (HK1.out.below (hbw.mono HB.out.size))
        have hcvv : (convert 22 9 (.slice a2 x.val.length c2)).run Try.prog w6 = .ok (.string (strB x.val)) w6 := conv_str (HK2.out.below (hbw.mono HB.out.size))
        have HI1 := Lib.hid (HK3.out.below (hbw.mono HB.out.size))
        have HI2 := Lib.hid (HM3.out.below (hbw.mono HB.out.size))
        have HC6 : Hid (∀ W, Below w6.heap.size w6 W → W.cell? ⟨wr.heap.size, 4, none⟩ = some (.slice a3 x.nums.length c3) ∧ W.cell? ⟨wr.heap.size + 1, 4, none⟩ = some (.slice b3 x.nums.length d3)) := fun W h => ⟨(h.cell (p := ⟨wr.heap.size, 4, none⟩) (blk_lt hz1)).trans y4, (h.cell (p := ⟨wr.heap.size + 1, 4, none⟩) (blk_lt hz2)).trans z4⟩
        have HSZ : Hid (w.heap.size ≤ w6.heap.size) := Nat.le_trans HB.out.size hbw.size
        clear hbw hz1 hz2
        go_wp2
        clear y0 y1 y2 y3 y4 z0 z1 z2 z3 z4 hck hcvv
        go_loopw [8] (fun i wq => ∃ m : Nat, m ≤ x.nums.length ∧ i = .int .i64 m ∧ Below w6.heap.size w6 wq) (fun i _ => x.nums.length - (intOf i).toNat)
        case atStart => exact ⟨0, Nat.zero_le _, rfl, Below.refl _ _⟩
        case round =>
          obtain ⟨m, hm, rfl, hq⟩ := hrel
          obtain ⟨y4, z4⟩ := HC6.out _ hq
          by_cases hlm : m < x.nums.length
          · obtain ⟨g1, o1, rfl, hg1, hy⟩ := (HI1.out.below (hq.mono HSZ.out)).get hlm
            obtain ⟨g2, o2, rfl, hg2, hz⟩ := (HI2.out.below (hq.mono HSZ.out)).get hlm
            have m1 : (m : Int) < x.nums.length := by omega
            have m2 : (x.nums.length : Int) ≤ 1000000 := by have := HNX.out; omega
            have HLM := Lib.hid hlm
            generalize x.nums[m]?.getD 0 = y at hy hz
            have HQ := Lib.hid hq
            clear hg1 hg2 hlm hm hq
            go_wp2
            go_region
            go_wp2
            go_roundw
            case rel => exact ⟨m + 1, HLM.out, by go_num, HQ.out.drew⟩
            case measure => have := HLM.out; simp [intOf]; omega
          · obtain rfl : m = x.nums.length := by omega
            have HQ := Lib.hid hq
            clear hlm hm hq
            go_wp2
            go_roundw
            case rel => exact ⟨j + 1, HLT.out, by go_num, HB.out.trans ((HBW.out.trans (HQ.out.mono HBW.out.size)).mono HB.out.size)⟩
            case measure => have := HLT.out; simp [intOf]; omega
      · have hbw : Below wr.heap.size wr ((wr.alloc (.cells #[.int .i64 x.kind, .string (strB x.key), .string (strB x.val), .int .i64 x.num, .slice b3 x.nums.length d3] 54)).alloc (.cells #[.int .i64 x.kind, .slice a1 x.key.length c1, .slice a2 x.val.length c2, .int .i64 x.num, .slice a3 x.nums.length c3] 49)).drew := (((Below.refl _ wr).alloc (Nat.le_refl _) _).alloc (by rw [World.size_alloc]; omega) _).drew
        have hz1 : ((wr.alloc (.cells #[.int .i64 x.kind, .string (strB x.key), .string (strB x.val), .int .i64 x.num, .slice b3 x.nums.length d3] 54)).alloc (.cells #[.int .i64 x.kind, .slice a1 x.key.length c1, .slice a2 x.val.length c2, .int .i64 x.num, .slice a3 x.nums.length c3] 49)).drew.heap[wr.heap.size]? = some (.cells #[.int .i64 x.kind, .string (strB x.key), .string (strB x.val), .int .i64 x.num, .slice b3 x.nums.length d3] 54 (0, 0)) := blk_alloc (heap_alloc_new _ _) _
        have hz2 : ((wr.alloc (.cells #[.int .i64 x.kind, .string (strB x.key), .string (strB x.val), .int .i64 x.num, .slice b3 x.nums.length d3] 54)).alloc (.cells #[.int .i64 x.kind, .slice a1 x.key.length c1, .slice a2 x.val.length c2, .int .i64 x.num, .slice a3 x.nums.length c3] 49)).drew.heap[wr.heap.size + 1]? = some (.cells #[.int .i64 x.kind, .slice a1 x.key.length c1, .slice a2 x.val.length c2, .int .i64 x.num, .slice a3 x.nums.length c3] 49 (0, 0)) := by
          have := heap_alloc_new (wr.alloc (.cells #[.int .i64 x.kind, .string (strB x.key), .string (strB x.val), .int .i64 x.num, .slice b3 x.nums.length d3] 54)) (.cells #[.int .i64 x.kind, .slice a1 x.key.length c1, .slice a2 x.val.length c2, .int .i64 x.num, .slice a3 x.nums.length c3] 49)
          rw [World.size_alloc] at this
          exact this
        generalize ((wr.alloc (.cells #[.int .i64 x.kind, .string (strB x.key), .string (strB x.val), .int .i64 x.num, .slice b3 x.nums.length d3] 54)).alloc (.cells #[.int .i64 x.kind, .slice a1 x.key.length c1, .slice a2 x.val.length c2, .int .i64 x.num, .slice a3 x.nums.length c3] 49)).drew = w6 at hbw hz1 hz2 ⊢
        have HBW := Lib.hid hbw
        have y0 : w6.cell? ⟨wr.heap.size + 1, 0, none⟩ = some (.int .i64 x.kind) := blk_cell hz2 0
        have y1 : w6.cell? ⟨wr.heap.size + 1, 1, none⟩ = some (.slice a1 x.key.length c1) := blk_cell hz2 1
        have y2 : w6.cell? ⟨wr.heap.size + 1, 2, none⟩ = some (.slice a2 x.val.length c2) := blk_cell hz2 2
        have y3 : w6.cell? ⟨wr.heap.size + 1, 3, none⟩ = some (.int .i64 x.num) := blk_cell hz2 3
        have y4 : w6.cell? ⟨wr.heap.size + 1, 4, none⟩ = some (.slice a3 x.nums.length c3) := blk_cell hz2 4
        have z0 : w6.cell? ⟨wr.heap.size, 0, none⟩ = some (.int .i64 x.kind) := blk_cell hz1 0
        have z1 : w6.cell? ⟨wr.heap.size, 1, none⟩ = some (.string (strB x.key)) := blk_cell hz1 1
        have z2 : w6.cell? ⟨wr.heap.size, 2, none⟩ = some (.string (strB x.val)) := blk_cell hz1 2
        have z3 : w6.cell? ⟨wr.heap.size, 3, none⟩ = some (.int .i64 x.num) := blk_cell hz1 3
        have z4 : w6.cell? ⟨wr.heap.size, 4, none⟩ = some (.slice b3 x.nums.length d3) := blk_cell hz1 4
        have hck : (convert 22 9 (.slice a1 x.key.length c1)).run Try.prog w6 = .ok (.string (strB x.key)) w6 := conv_str (HK1.out.below (hbw.mono HB.out.size))
        have hcvv : (convert 22 9 (.slice a2 x.val.length c2)).run Try.prog w6 = .ok (.string (strB x.val)) w6 := conv_str (HK2.out.below (hbw.mono HB.out.size))
        have HI1 := Lib.hid (HK3.out.below (hbw.mono HB.out.size))
        have HI2 := Lib.hid (HM3.out.below (hbw.mono HB.out.size))
        have HC6 : Hid (∀ W, Below w6.heap.size w6 W → W.cell? ⟨wr.heap.size + 1, 4, none⟩ = some (.slice a3 x.nums.length c3) ∧ W.cell? ⟨wr.heap.size, 4, none⟩ = some (.slice b3 x.nums.length d3)) := fun W h => ⟨(h.cell (p := ⟨wr.heap.size + 1, 4, none⟩) (blk_lt hz2)).trans y4, (h.cell (p := ⟨wr.heap.size, 4, none⟩) (blk_lt hz1)).trans z4⟩
        have HSZ : Hid (w.heap.size ≤ w6.heap.size) := Nat.le_trans HB.out.size hbw.size
        clear hbw hz1 hz2
        go_wp2
        clear y0 y1 y2 y3 y4 z0 z1 z2 z3 z4 hck hcvv
        go_loopw [8] (fun i wq => ∃ m : Nat, m ≤ x.nums.length ∧ i = .int .i64 m ∧ Below w6.heap.size w6 wq) (fun i _ => x.nums.length - (intOf i).toNat)
        case atStart => exact ⟨0, Nat.zero_le _, rfl, Below.refl _ _⟩
        case round =>
          obtain ⟨m, hm, rfl, hq⟩ := hrel
          obtain ⟨y4, z4⟩ := HC6.out _ hq
          by_cases hlm : m < x.nums.length
          · obtain ⟨g1, o1, rfl, hg1, hy⟩ := (HI1.out.below (hq.mono HSZ.out)).get hlm
            obtain ⟨g2, o2, rfl, hg2, hz⟩ := (HI2.out.below (hq.mono HSZ.out)).get hlm
            have m1 : (m : Int) < x.nums.length := by omega
            have m2 : (x.nums.length : Int) ≤ 1000000 := by have := HNX.out; omega
            have HLM := Lib.hid hlm
            generalize x.nums[m]?.getD 0 = y at hy hz
            have HQ := Lib.hid hq
            clear hg1 hg2 hlm hm hq
            go_wp2
            go_region
            go_wp2
            go_roundw
            case rel => exact ⟨m + 1, HLM.out, by go_num, HQ.out.drew⟩
            case measure => have := HLM.out; simp [intOf]; omega
          · obtain rfl : m = x.nums.length := by omega
            have HQ := Lib.hid hq
            clear hlm hm hq
            go_wp2
            go_roundw
            case rel => exact ⟨j + 1, HLT.out, by go_num, HB.out.trans ((HBW.out.trans (HQ.out.mono HBW.out.size)).mono HB.out.size)⟩
            case measure => have := HLT.out; simp [intOf]; omega
    · obtain rfl : j = l.length := by omega
      have HB := Lib.hid hB
      clear hB hlt hj
      go_wp2
      go_ret
      exact ⟨rfl, HB.out⟩
end Go.Proofs.Ytgaabclgoolalaa

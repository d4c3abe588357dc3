/-
  The document's own set of numbers: All.
  Conditions: none.
-/
import Derived.Test.YtpljbjceokoeiaaDoorPl7B
import Derived.Test.YtpljbjceokoeiaaDoorTaken2
import Derived.Test.YtpljbjceokoeiaaDoorInts
namespace Go.Proofs.YtpljbjceokoeiaaDoor
open Go.RowKit

theorem cell1_new (w : World) (x : Int) : IntsAt (w.alloc (.cells #[.int .i64 x] 3)).heap.size (w.alloc (.cells #[.int .i64 x] 3)) (.slice (some ⟨w.heap.size, 0, none⟩) 1 1) [x] :=
  IntsAt.of_blk (l := [x]) (heap_alloc_new w (.cells #[.int .i64 x] 3))
theorem allTo_miss (s : BSet) {m : Nat} (h : s.has m = false) : s.allTo (m + 1) = s.allTo m :=
  allTo_none s (Nat.le_succ m) fun i h1 h2 => by
    obtain rfl : i = m := by omega
    exact h
set_option maxHeartbeats 4000000 in
theorem refAll_any {w : World} {v : Value} {l : List Bool} {s : BSet} (h : BoolsAt w.heap.size w v l) (hu : UsedIs s.n s l) (hand : Int) :
    Calls Tryd.prog 19 #[.agg #[v, .int .i64 hand]] w (IntsDid (natInts s.all) w) := by
  obtain ⟨i0, hi, hz0, hz1, hz2⟩ := info_partsI infoInt
  obtain ⟨a, c, rfl⟩ := h.slice
  have hle := hu.ok.n2
  have hlen : l.length = s.n := hu.len
  have HLE := Lib.hid hlen
  have n2 : (s.n : Int) ≤ 65536 := by omega
  obtain ⟨w1, hw1⟩ : ∃ w1, w.alloc (.cells #[.slice a s.n c, .int .i64 hand] 29) = w1 := ⟨_, rfl⟩
  have b0 : w1.heap[w.heap.size]? = some (.cells #[.slice a s.n c, .int .i64 hand] 29 (0, 0)) := by rw [← hw1]; exact heap_alloc_new _ _
  have hB : Below w.heap.size w w1 := by rw [← hw1]; exact (Below.refl _ _).alloc (Nat.le_refl _) _
  have HP := Lib.hid (h.next hB)
  have HB := Lib.hid hB
  have HB0 := Lib.hid b0
  have HW1 := Lib.hid hw1
  have HL := Lib.hid hle
  have HU := Lib.hid hu
  rw [hlen]
  clear h hB b0 hw1 hle hu hlen
  go_enter Tryd.func19, Tryd.ntmps19
  go_upto_region 1 with fail
  change (Code.region _ _ _).wp _ _ _ (w.alloc (.cells #[.slice a s.n c, .int .i64 hand] 29))
  rw [HW1.out]
  clear HW1
  go_wp2
  go_loopw [3, 4] (fun o i wr => ∃ k : Nat, k ≤ s.n ∧ i = .int .i64 k ∧ wr.ownsRow w1.heap.size 3 1 o (natInts (s.allTo k)).length (ints (natInts (s.allTo k))) ∧ Below w1.heap.size w1 wr) (fun _ i _ => s.n - (intOf i).toNat)
  case atStart => exact ⟨0, Nat.zero_le _, rfl, World.ownsRow_nil _ _ _ _, Below.refl _ _⟩
  case round =>
    obtain ⟨k, hk, rfl, hO, hB⟩ := hrel
    have c0 : wr.cell? ⟨w.heap.size, 0, none⟩ = some (.slice a s.n c) := (hB.cell (p := ⟨w.heap.size, 0, none⟩) (blk_lt HB0.out)).trans (blk_cell HB0.out 0)
    have HO := Lib.hid hO
    have HBW := Lib.hid hB
    have HK := Lib.hid hk
    by_cases hlt : k < s.n
    · have k1 : (k : Int) < s.n := by omega
      have HP0 := HP.out
      obtain ⟨g, off, rfl, hg, d0⟩ := (HP0.next hB).get (i := k) (by have := HLE.out; omega)
      rw [HU.out.eq k hlt] at d0
      have HLT := Lib.hid hlt
      cases hf : s.has k with
      | false =>
        have HN := Lib.hid (allTo_miss s hf)
        rw [hf] at d0
        clear hf hO hB hlt hg HP0
        go_wp2
        go_roundw
        case rel => exact ⟨k + 1, by have := HLT.out; omega, by go_num, by rw [HN.out]; exact HO.out, HBW.out⟩
        case measure => have := HLT.out; simp [intOf]; omega
      | true =>
        have HN : Hid (natInts (s.allTo (k + 1)) = natInts (s.allTo k) ++ [(k : Int)]) := by unfold Hid; rw [allTo_one s hf, natInts_snoc]
        rw [hf] at d0
        have HLE2 : Hid ((natInts (s.allTo k)).length + [(k : Int)].length ≤ 1073741824) := by
          have := HL.out
          have h2 := allTo_len s k
          unfold Hid
          rw [natInts_len]
          simp only [List.length_singleton]
          omega
        have HA := Lib.hid (hO.alloc (.cells #[.int .i64 (k : Int)] 3))
        have HI := Lib.hid (cell1_new wr (k : Int))
        have HBA := Lib.hid (hB.alloc hB.size (.cells #[.int .i64 (k : Int)] 3))
        clear hf hO hB hlt hg HP0
        go_wp2_with (at_builtin; refine wpList_append_ints (by rfl) _ _ (by rfl) (by rfl) w1.heap.size i0 hi hz0 hz1 hz2 _ (by rfl) (natInts (s.allTo k)) HA.out (.slice (some ⟨wr.heap.size, 0, none⟩) 1 1) (by rfl) _ [(k : Int)] HI.out HLE2.out HBA.out.size ?_; intro v' w2 m hm hown hgrow hat; have hm' := hm.out; subst hm'; have HO2 := Lib.hid hown; have HB2 := Lib.hid (HBA.out.grown hgrow HBA.out.size (fun k e => (HA.out.lt k e).1)); clear hm hown hgrow hat)
        go_roundw
        case rel => exact ⟨k + 1, by have := HLT.out; omega, by go_num, by rw [HN.out]; exact HO2.out, HB2.out⟩
        case measure => have := HLT.out; simp [intOf]; omega
    · obtain rfl : k = s.n := by omega
      clear hO hB
      go_wp2
      go_ret
      exact ⟨_, rfl, IntsAt.of_owns HO.out rfl, HB.out.trans (HBW.out.mono HB.out.size)⟩
end Go.Proofs.YtpljbjceokoeiaaDoor

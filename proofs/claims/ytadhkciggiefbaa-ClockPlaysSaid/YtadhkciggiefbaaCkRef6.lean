/-
  The document's own clock: Keys.
  Conditions: none.
-/
import Derived.Test.YtadhkciggiefbaaCkRef5
import Derived.Test.YtadhkciggiefbaaInts
namespace Go.Proofs.Ytadhkciggiefbaa
open Go.RowKit

/-- The keys of the places that are full. -/
def keysF (ps : List Pl) : List Int := (ps.filter Pl.full).map Pl.key
theorem keysF_hit {ps : List Pl} {k : Nat} {p : Pl} (hp : ps[k]? = some p) (hf : p.full = true) : keysF (ps.take (k + 1)) = keysF (ps.take k) ++ [p.key] := by
  unfold keysF
  rw [List.take_add_one, hp]
  simp [List.filter_append, hf]
theorem keysF_miss {ps : List Pl} {k : Nat} {p : Pl} (hp : ps[k]? = some p) (hf : p.full = false) : keysF (ps.take (k + 1)) = keysF (ps.take k) := by
  unfold keysF
  rw [List.take_add_one, hp]
  simp [List.filter_append, hf]
theorem keysF_len (ps : List Pl) (k : Nat) : (keysF (ps.take k)).length ≤ ps.length := by
  unfold keysF
  rw [List.length_map]
  exact Nat.le_trans (List.length_filter_le _ _) (by rw [List.length_take]; omega)
/-- A row of numbers is answered. -/
def KeysDid (l : List Int) (w : World) (e : Ending) (w' : World) : Prop := ∃ v, e = .returned v ∧ IntsAt w'.heap.size w' v l ∧ Below w.heap.size w w'
theorem cell1_new (w : World) (x : Int) : IntsAt (w.alloc (.cells #[.int .i64 x] 3)).heap.size (w.alloc (.cells #[.int .i64 x] 3)) (.slice (some ⟨w.heap.size, 0, none⟩) 1 1) [x] :=
  IntsAt.of_blk (l := [x]) (heap_alloc_new w (.cells #[.int .i64 x] 3))
set_option maxHeartbeats 4000000 in
theorem refKeys_any {w : World} {v : Value} {ps : List Pl} (h : PlsAt w.heap.size w v ps) (hl : ps.length ≤ 4096) (hand : Int) :
    Calls Try.prog 16 #[.agg #[v, .int .i64 hand]] w (KeysDid (keysF ps) w) := by
  obtain ⟨i0, hi, hz0, hz1, hz2⟩ := info_partsI infoInt
  obtain ⟨a, c, rfl⟩ := h.slice
  have l1 : (ps.length : Int) ≤ 4096 := by omega
  obtain ⟨w1, hw1⟩ : ∃ w1, w.alloc (.cells #[.slice a ps.length c, .int .i64 hand] 29) = w1 := ⟨_, rfl⟩
  have b0 : w1.heap[w.heap.size]? = some (.cells #[.slice a ps.length c, .int .i64 hand] 29 (0, 0)) := by rw [← hw1]; exact heap_alloc_new _ _
  have hB : Below w.heap.size w w1 := by rw [← hw1]; exact (Below.refl _ _).alloc (Nat.le_refl _) _
  have HP := Lib.hid (h.next hB)
  have HB := Lib.hid hB
  have HB0 := Lib.hid b0
  have HW1 := Lib.hid hw1
  have HL := Lib.hid hl
  clear h hB b0 hw1 hl
  go_enter Try.func16, Try.ntmps16
  go_upto_region 1 with fail
  change (Code.region _ _ _).wp _ _ _ (w.alloc (.cells #[.slice a ps.length c, .int .i64 hand] 29))
  rw [HW1.out]
  clear HW1
  go_wp2
  go_loopw [3, 4] (fun o i wr => ∃ k : Nat, k ≤ ps.length ∧ i = .int .i64 k ∧ wr.ownsRow w1.heap.size 3 1 o (keysF (ps.take k)).length (ints (keysF (ps.take k))) ∧ Below w1.heap.size w1 wr) (fun _ i _ => ps.length - (intOf i).toNat)
  case atStart => exact ⟨0, Nat.zero_le _, rfl, World.ownsRow_nil _ _ _ _, Below.refl _ _⟩
  case round =>
    obtain ⟨k, hk, rfl, hO, hB⟩ := hrel
    have c0 : wr.cell? ⟨w.heap.size, 0, none⟩ = some (.slice a ps.length c) := (hB.cell (p := ⟨w.heap.size, 0, none⟩) (blk_lt HB0.out)).trans (blk_cell HB0.out 0)
    have HO := Lib.hid hO
    have HBW := Lib.hid hB
    have HK := Lib.hid hk
    by_cases hlt : k < ps.length
    · obtain ⟨p, hp⟩ : ∃ p, ps[k]? = some p := ⟨ps[k], List.getElem?_eq_getElem hlt⟩
      have k1 : (k : Int) < ps.length := by omega
      obtain ⟨g, off, rfl, hg, d0, d1, d2, d3⟩ := (HP.out.next hB).get hp
      have HLT := Lib.hid hlt
      have hlen := keysF_len ps k
      cases hf : p.full with
      | false =>
        have HN := Lib.hid (keysF_miss hp hf)
        rw [hf] at d0
        clear hp hf d1 d2 d3 hO hB hlt hg hlen
        go_wp2
        go_roundw
        case rel => exact ⟨k + 1, by have := HLT.out; omega, by go_num, by rw [HN.out]; exact HO.out, HBW.out⟩
        case measure => have := HLT.out; simp [intOf]; omega
      | true =>
        have HN := Lib.hid (keysF_hit hp hf)
        rw [hf] at d0
        have HLE : Hid ((keysF (ps.take k)).length + [p.key].length ≤ 1073741824) := by have := HL.out; unfold Hid; simp only [List.length_singleton]; omega
        have HA := Lib.hid (hO.alloc (.cells #[.int .i64 p.key] 3))
        have HI := Lib.hid (cell1_new wr p.key)
        have HBA := Lib.hid (hB.alloc hB.size (.cells #[.int .i64 p.key] 3))
        generalize p.key = key at *
        clear hp hf d1 d3 hO hB hlt hg hlen
        go_wp2_with (at_builtin; refine wpList_append_ints (by rfl) _ _ (by rfl) (by rfl) w1.heap.size i0 hi hz0 hz1 hz2 _ (by rfl) (keysF (ps.take k)) HA.out (.slice (some ⟨wr.heap.size, 0, none⟩) 1 1) (by rfl) _ [key] HI.out HLE.out HBA.out.size ?_; intro v' w2 m hm hown hgrow hat; have hm' := hm.out; subst hm'; have HO2 := Lib.hid hown; have HB2 := Lib.hid (HBA.out.grown hgrow HBA.out.size (fun k e => (HA.out.lt k e).1)); clear hm hown hgrow hat)
        go_roundw
        case rel => exact ⟨k + 1, by have := HLT.out; omega, by go_num, by rw [HN.out]; exact HO2.out, HB2.out⟩
        case measure => have := HLT.out; simp [intOf]; omega
    · obtain rfl : k = ps.length := by omega
      clear hO hB
      go_wp2
      go_ret
      have hO := HO.out
      rw [List.take_length] at hO
      exact ⟨_, rfl, IntsAt.of_owns hO rfl, HB.out.trans (HBW.out.mono HB.out.size)⟩
end Go.Proofs.Ytadhkciggiefbaa

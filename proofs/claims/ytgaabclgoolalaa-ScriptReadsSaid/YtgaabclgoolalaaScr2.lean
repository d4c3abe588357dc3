/-
  script.Name, script.Kind, the document's Name.
  Conditions: none.
-/
import Derived.Test.YtgaabclgoolalaaScr1
import Derived.Test.YtgaabclgoolalaaStrConv
import Derived.Test.YtgaabclgoolalaaStr
import Derived.Maps.RangeRun
namespace Go.Proofs.Ytgaabclgoolalaa
open Go.RowKit Go.MapKept
open Go.ChangeMaps (setBlock)

theorem nm_inj : ∀ i j, i < 10 → j < 10 → nm i = nm j → i = j := by
  have h : ∀ i, i < 10 → ∀ j, j < 10 → (nm i).data = (nm j).data → i = j := by decide
  exact fun i j hi hj e => h i hi j hj (by rw [e])
/-- The kind that a number is; 10 of none. -/
def kn (k : Int) : Nat := if 0 ≤ k ∧ k < 10 then k.toNat else 10
theorem kn_le (k : Int) : kn k ≤ 10 := by unfold kn; split <;> omega
theorem kn_is (k : Int) : (kn k < 10 ∧ k = kn k) ∨ (kn k = 10 ∧ (k < 0 ∨ 9 < k)) := by unfold kn; split <;> omega
def kindL : List (Int × Value) := (List.range 10).map fun (i : Nat) => ((i : Int), whatV i)
theorem mget_kind (n : Nat) (h : n < 10) : mget kindL (n : Int) = some (whatV n) := by
  match n, h with
  | 0, _ | 1, _ | 2, _ | 3, _ | 4, _ | 5, _ | 6, _ | 7, _ | 8, _ | 9, _ => rfl
  | n + 10, h => omega
theorem mget_kindL (k : Int) : mget kindL k = if kn k < 10 then some (whatV (kn k)) else none := by
  rcases kn_is k with ⟨h, e⟩ | ⟨h, e⟩
  · rw [if_pos h]
    have := mget_kind (kn k) h
    rw [← e] at this
    exact this
  · rw [if_neg (by omega)]
    refine mget_none fun p hp => ?_
    simp only [kindL, List.mem_map, List.mem_range] at hp
    obtain ⟨i, hi, rfl⟩ := hp
    show (i : Int) ≠ k
    omega
theorem KindsAt.map {w W : World} {b : Nat} (h : KindsAt w b 10 W) : MapIs W b kindL := by
  refine ⟨by decide, _, _, h.at_, ?_⟩
  simp only [kindEs, kindL, List.map_map]
  rfl
theorem KindsAt.on {w W W' : World} {b : Nat} (h : KindsAt w b 10 W) (hb : Below W.heap.size W W') : KindsAt w b 10 W' := ⟨(hb.block _ (Array.getElem?_eq_some_iff.1 h.at_).1).trans h.at_, h.bel.trans (hb.mono h.bel.size)⟩
/-- What a look-up tells. -/
theorem look_any {w W : World} {b : Nat} (h : KindsAt w b 10 W) (k : Int) (ok : Bool) :
    (Instr.lookup 63 (.map (some b)) (.int .i64 k) ok).run Try.prog W = .ok (if ok then .tuple #[whatV (kn k), .bool (decide (kn k < 10))] else whatV (kn k)) W := by
  have hz : (zeroValue 70).run Try.prog W = .ok (whatV 10) W := by kernel_rfl
  have := run_lookup_int (P := Try.prog) Try.underlying63 Try.underlying3 h.map k _ hz ok
  rw [mget_kindL] at this
  rw [this]
  by_cases hk : kn k < 10
  · rw [if_pos hk, decide_eq_true hk]; rfl
  · rw [if_neg hk, decide_eq_false hk]
    have : kn k = 10 := by have := kn_le k; omega
    rw [this]; rfl
theorem field_name (i : Nat) (W : World) : (Instr.field 70 (whatV i) 0).run Try.prog W = .ok (.string (nm i)) W := by
  unfold whatV
  kernel_rfl
set_option maxRecDepth 100000 in
set_option maxHeartbeats 1000000 in
theorem name_any (k : Int) (w : World) : Calls Try.prog 23 #[.int .i64 k] w fun e w' => e = .returned (.string (nm (kn k))) ∧ Below w.heap.size w w' := by
  have HK := Lib.hid (kinds_any w)
  have hf := field_name (kn k)
  go_enter Try.func23, Try.ntmps23
  go_wp2_with (go_at_call 24; (with_reducible refine HK.out.mono ?_); rintro e w1 ⟨rfl, h1⟩; have hl : (Instr.lookup 63 (.map (some w.heap.size)) (.int .i64 k) false).run Try.prog w1 = .ok (whatV (kn k)) w1 := look_any h1 k false; have H1 := Lib.hid h1.bel; clear h1)
  go_ret
  exact ⟨rfl, H1.out⟩
section
attribute [-go_sem] Instr.build Instr.fill
end
/-- Which kind a name is of the first n. -/
def KindOf (n : Nat) (s : ByteArray) (k : Int) (f : Bool) : Prop := (f = true ∧ ∃ i : Nat, i < n ∧ nm i = s ∧ k = i) ∨ (f = false ∧ k = 0 ∧ ∀ i : Nat, i < n → nm i ≠ s)
theorem KindOf.one {n : Nat} {s : ByteArray} {k k' : Int} {f f' : Bool} (hn : n ≤ 10) (h : KindOf n s k f) (h' : KindOf n s k' f') : k = k' ∧ f = f' := by
  rcases h with ⟨hf, i, hi, hs, hk⟩ | ⟨hf, hk, hno⟩
  · rcases h' with ⟨hf', j, hj, hs', hk'⟩ | ⟨_, _, hno⟩
    · have := nm_inj i j (by omega) (by omega) (hs.trans hs'.symm)
      rw [hk, hk', hf, hf', this]
      exact ⟨rfl, rfl⟩
    · exact absurd hs (hno i hi)
  · rcases h' with ⟨_, j, hj, hs', _⟩ | ⟨hf', hk', _⟩
    · exact absurd hs' (hno j hj)
    · rw [hk, hk', hf, hf']
      exact ⟨rfl, rfl⟩
theorem str_beq (s t : ByteArray) : (s.toList == t.toList) = decide (s = t) := by
  obtain ⟨xs, rfl⟩ := strB_surj s
  obtain ⟨ys, rfl⟩ := strB_surj t
  rw [strB_beq]
  simp [strB_inj]
theorem kindEs_mem {e : MapEntry} (h : e ∈ (kindEs 10).toList) : ∃ i : Nat, i < 10 ∧ e.key = .int .i64 (i : Int) ∧ e.val = whatV i ∧ e.born = i := by
  simp only [kindEs, List.mem_map, List.mem_range] at h
  obtain ⟨i, hi, rfl⟩ := h
  exact ⟨i, hi, rfl, rfl, rfl⟩
theorem kindEs_born : ((kindEs 10).toList.map (·.born)).Nodup := by decide
set_option maxRecDepth 100000 in
set_option maxHeartbeats 2000000 in
theorem kind_any (s : ByteArray) (w : World) : Calls Try.prog 22 #[.string s] w fun e w' => ∃ k f, e = .returned (.tuple #[.int .i64 k, .bool f]) ∧ KindOf 10 s k f ∧ Below w.heap.size w w' := by
  have HK := Lib.hid (kinds_any w)
  go_enter Try.func22, Try.ntmps22
  go_wp2_with (go_at_call 24; (with_reducible refine HK.out.mono ?_); rintro e w1 ⟨rfl, h1⟩; have hrg := run_range_map (P := Try.prog) w1 63 3 70 w.heap.size (kindEs 10) 10 Try.underlying63 h1.at_; have H1 := Lib.hid h1; clear h1)
  go_loopw [] (fun wr => ∃ seen, Below w.heap.size w wr ∧ wr.heap[w.heap.size]? = some (.map (kindEs 10) 10) ∧ wr.heap[w1.heap.size]? = some (.mapIter (some w.heap.size) 10 seen 10) ∧ ∀ i : Nat, i < 10 → seen.contains i = true → nm i ≠ s) (fun wr => (leftOf (kindEs 10) (wr.iterSeen w1.heap.size)).size)
  case atStart => exact ⟨#[], H1.out.bel.alloc H1.out.bel.size _, (heap_alloc_old _ _ (Array.getElem?_eq_some_iff.1 H1.out.at_).1).trans H1.out.at_, heap_alloc_new _ _, fun i _ h => by simp at h⟩
  case round =>
    obtain ⟨seen, hB, hM, hI, hno⟩ := hrel
    have hold : ∀ x ∈ (kindEs 10).toList, x.born < 10 := fun x hx => by
      obtain ⟨i, hi, _, _, hb⟩ := kindEs_mem hx
      rw [hb]; exact hi
    have hlt0 : w.heap.size < w1.heap.size := Nat.lt_of_lt_of_le (Array.getElem?_eq_some_iff.1 H1.out.at_).1 (Nat.le_refl _)
    have law := run_next_at (P := Try.prog) wr 0 w1.heap.size w.heap.size 10 10 seen (kindEs 10) 10 hI hM hold (Nat.le_refl _)
    clear hrg
    rcases law with ⟨h0, hrun⟩ | ⟨e, he, w2, hw2, hrun⟩
    · have hnx : ∀ ty, (Instr.next (.pointer (some ⟨w1.heap.size, 0, none⟩)) false ty).run Try.prog wr = _ := fun _ => hrun
      have HNO : Hid (∀ i : Nat, i < 10 → nm i ≠ s) := fun (i : Nat) hi => hno i hi (all_seen (kindEs 10) seen h0 { key := .int .i64 (i : Int), val := whatV i, born := i } (by
        simp only [kindEs, List.mem_map, List.mem_range]
        exact ⟨i, hi, rfl⟩))
      have HB := Lib.hid hB
      clear hno hold h0 hrun hB hM hI
      go_wp2
      go_ret2
      exact ⟨0, false, rfl, .inr ⟨rfl, rfl, HNO.out⟩, HB.out⟩
    · have hmem := (mem_left he).1
      obtain ⟨i, hi, hkey, hval, hborn⟩ := kindEs_mem hmem
      obtain ⟨k, v, u, l, m, hwv⟩ : ∃ k v u l m, whatV i = .agg #[.string (nm i), .bool k, .bool v, .bool u, .int .i64 l, .int .i64 m] := ⟨_, _, _, _, _, rfl⟩
      have hs2 : w2.heap = wr.heap := by rcases hw2 with rfl | rfl <;> rfl
      have hI2 : w2.heap[w1.heap.size]? = some (.mapIter (some w.heap.size) 10 seen 10) := by rw [hs2]; exact hI
      have hset := heap_set (o' := .mapIter (some w.heap.size) 10 (seen.push e.born) 10) hI2
      have hM3 : (setBlock w2 w1.heap.size (.mapIter (some w.heap.size) 10 (seen.push e.born) 10)).heap[w.heap.size]? = some (.map (kindEs 10) 10) := (hset.2 _ (by omega)).trans (by rw [hs2]; exact hM)
      have hb3 : Below w.heap.size w (setBlock w2 w1.heap.size (.mapIter (some w.heap.size) 10 (seen.push e.born) 10)) := by
        have hd : Below w.heap.size w w2 := by rcases hw2 with rfl | rfl
                                               · exact hB
                                               · exact hB.drew
        refine hd.trans (Moves.below (S := fun j => j = w1.heap.size) ⟨rfl, rfl, rfl, by simp [setBlock], fun j hj hne => hset.2 j hne⟩ (fun j hj => by omega) hd.size)
      have hen := run_entry_at (P := Try.prog) _ w1.heap.size w.heap.size 10 seen (kindEs 10) 10 e hset.1 hM3 hmem kindEs_born
      have hI3 : (setBlock w2 w1.heap.size (.mapIter (some w.heap.size) 10 (seen.push e.born) 10)).heap[w1.heap.size]? = some (.mapIter (some w.heap.size) 10 (seen.push e.born) 10) := hset.1
      rw [hkey, hval, hwv] at hrun hen
      have hshr := left_shrinks (kindEs 10) seen e he
      generalize setBlock w2 w1.heap.size (.mapIter (some w.heap.size) 10 (seen.push e.born) 10) = w3 at hrun hen hM3 hb3 hI3
      have hnx : ∀ ty, (Instr.next (.pointer (some ⟨w1.heap.size, 0, none⟩)) false ty).run Try.prog wr = _ := fun _ => hrun
      have HB3 := Lib.hid (hb3.alloc hb3.size (.cells #[.string (nm i), .bool k, .bool v, .bool u, .int .i64 l, .int .i64 m] 70))
      have HM3 := Lib.hid ((heap_alloc_old w3 (.cells #[.string (nm i), .bool k, .bool v, .bool u, .int .i64 l, .int .i64 m] 70) (Array.getElem?_eq_some_iff.1 hM3).1).trans hM3)
      have HI3 := Lib.hid ((heap_alloc_old w3 (.cells #[.string (nm i), .bool k, .bool v, .bool u, .int .i64 l, .int .i64 m] 70) (Array.getElem?_eq_some_iff.1 hI3).1).trans hI3)
      have HI0 := Lib.hid hI
      have HNO := Lib.hid hno
      have HSHR := Lib.hid hshr
      have HBORN := Lib.hid hborn
      have HI10 := Lib.hid hi
      have hq := str_beq (nm i) s
      clear hno hold hB hM hI hI2 hset hb3 hM3 hI3 hshr hborn hmem he hw2 hs2 hkey hval hwv hrun hi
      by_cases hs : nm i = s
      · rw [decide_eq_true hs] at hq
        have HS := Lib.hid hs
        clear hs
        go_wp2
        go_ret2
        exact ⟨i, true, rfl, .inl ⟨rfl, i, HI10.out, HS.out, rfl⟩, HB3.out⟩
      · rw [decide_eq_false hs] at hq
        have HS := Lib.hid hs
        clear hs
        go_wp2
        go_roundw
        case rel =>
          refine ⟨_, HB3.out, HM3.out, HI3.out, fun j hj hc => ?_⟩
          rw [contains_push] at hc
          rcases Bool.or_eq_true _ _ ▸ hc with h1 | h1
          · exact HNO.out j hj h1
          · have : j = i := by rw [HBORN.out] at h1; exact beq_iff_eq.1 h1
            subst this
            exact HS.out
        case measure =>
          have e1 : ∀ (W : World) (r : Nat) (x : Option Nat) (y z : Nat) (t : Array Nat), W.heap[r]? = some (.mapIter x y t z) → W.iterSeen r = t := fun W r x y z t h => by unfold World.iterSeen; rw [h]
          rw [e1 _ _ _ _ _ _ HI3.out, e1 _ _ _ _ _ _ HI0.out]
          exact HSHR.out
end Go.Proofs.Ytgaabclgoolalaa

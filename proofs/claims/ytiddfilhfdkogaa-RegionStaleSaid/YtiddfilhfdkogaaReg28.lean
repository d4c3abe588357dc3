/-
  sgraffitolaw11's acts as lists; light, bytes.
  Conditions: none.
-/
import Derived.Test.YtiddfilhfdkogaaOpenBn
import Derived.Test.YtiddfilhfdkogaaLaw
import Derived.Test.YtiddfilhfdkogaaJL2
import Derived.Test.YtiddfilhfdkogaaReg27
namespace Go.Proofs.Ytiddfilhfdkogaa
open Go.ChangeShapes Go.WideShapes Go.ChangeAt Go.RowKit Go.Deep

/-- An act. -/
structure Act11 where
  kind : Int
  size : Int
  n : Int
  b : BitVec 8
instance : Inhabited Act11 := ⟨⟨0, 0, 0, 0#8⟩⟩
def Act11.wf (x : Act11) : Prop := (-9223372036854775808 ≤ x.kind ∧ x.kind ≤ 9223372036854775807) ∧ (-9223372036854775808 ≤ x.size ∧ x.size ≤ 9223372036854775807) ∧ (-9223372036854775808 ≤ x.n ∧ x.n ≤ 9223372036854775807)
/-- The four cells of an act. -/
def ActAt11 (w : World) (g o : Nat) (x : Act11) : Prop :=
  w.cell? ⟨g, o, none⟩ = some (.int .i64 x.kind) ∧ w.cell? ⟨g, o + 1, none⟩ = some (.int .i64 x.size) ∧ w.cell? ⟨g, o + 2, none⟩ = some (.int .i64 x.n) ∧ w.cell? ⟨g, o + 3, none⟩ = some (.int .u8 (U x.b))
/-- A slice of acts. -/
def ActsAt11 (n₀ : Nat) (w : World) (v : Value) (l : List Act11) : Prop :=
  ∃ a cap, v = .slice a l.length cap ∧ l.length ≤ cap ∧ (∀ i, i < l.length → (l[i]?.getD default).wf) ∧ (l = [] ∨ ∃ g off, a = some ⟨g, off, none⟩ ∧ g < n₀ ∧ ∀ i, i < l.length → ActAt11 w g (off + i * 4) (l[i]?.getD default))
theorem ActAt11.below {n₀ : Nat} {w w' : World} {g o : Nat} {x : Act11} (h : ActAt11 w g o x) (hb : Below n₀ w w') (hg : g < n₀) : ActAt11 w' g o x := by
  obtain ⟨h0, h1, h2, h3⟩ := h
  exact ⟨(hb.cell (p := ⟨g, o, none⟩) hg).trans h0, (hb.cell (p := ⟨g, o + 1, none⟩) hg).trans h1, (hb.cell (p := ⟨g, o + 2, none⟩) hg).trans h2, (hb.cell (p := ⟨g, o + 3, none⟩) hg).trans h3⟩
section
variable {H : Type} {enc : TypeId × Value → H}
set_option maxRecDepth 100000 in
theorem u8_cell {W : World} {fuel : Nat} {v : Value} {y : DataW H × List MemPlace} (h : DataW.trod enc Try.prog W 0 (fun _ => true) true fuel 5 [v] = some y) : ∃ x : BitVec 8, v = .int .u8 (U x) := by
  obtain ⟨n, h1, _, h2⟩ := DataW.trod_int Try.underlying5 h
  obtain ⟨x, rfl⟩ := wf_u8 h2
  exact ⟨x, by simpa using h1⟩
set_option maxRecDepth 100000 in
theorem open_acts11 {W : World} {base : Nat} {v : Value} {d : DataW H} {p : List MemPlace} (o : Value.okWide Try.prog W .any base 61 v) (h : DataW.Trod enc Try.prog W 0 (fun _ => true) true 61 v d p) : ∃ l, ActsAt11 W.heap.size W v l ∧ l.length ≤ maxLen := by
  obtain ⟨a, len, cap, rfl, hl, hm, ha, hr⟩ := open_structs Try.underlying61 Try.underlying64 (by kernel_rfl) (by kernel_rfl) (by decide) o h
  rcases hr with rfl | ⟨g, off, rfl, hg, hf⟩
  · exact ⟨[], ⟨a, cap, rfl, Nat.zero_le _, fun i hi => (by simp at hi), .inl rfl⟩, Nat.zero_le _⟩
  · have each : ∀ i, i < len → ∃ x : Act11, x.wf ∧ ActAt11 W g (off + i * 4) x := by
      intro i hi
      obtain ⟨u0, _, _, c0, t0⟩ := hf i hi 0 _ rfl
      obtain ⟨u1, _, _, c1, t1⟩ := hf i hi 1 _ rfl
      obtain ⟨u2, _, _, c2, t2⟩ := hf i hi 2 _ rfl
      obtain ⟨u3, _, _, c3, t3⟩ := hf i hi 3 _ rfl
      obtain ⟨n0, rfl, w0⟩ := int_cell t0
      obtain ⟨n1, rfl, w1⟩ := int_cell t1
      obtain ⟨n2, rfl, w2⟩ := int_cell t2
      obtain ⟨x3, rfl⟩ := u8_cell t3
      exact ⟨⟨n0, n1, n2, x3⟩, ⟨wf_i64 w0, wf_i64 w1, wf_i64 w2⟩, c0, c1, c2, c3⟩
    refine ⟨(List.range len).map fun i => if hi : i < len then Classical.choose (each i hi) else default, ⟨some ⟨g, off, none⟩, cap, by simp, by simpa using hl, fun i hi => ?_, .inr ⟨g, off, rfl, hg, fun i hi => ?_⟩⟩, by simpa using hm⟩
    · have hi' : i < len := by simpa using hi
      simp only [List.getElem?_map, List.getElem?_range hi', Option.map_some, Option.getD_some, dif_pos hi']
      exact (Classical.choose_spec (each i hi')).1
    · have hi' : i < len := by simpa using hi
      simp only [List.getElem?_map, List.getElem?_range hi', Option.map_some, Option.getD_some, dif_pos hi']
      exact (Classical.choose_spec (each i hi')).2
end

/-- Are acts few, and short? -/
def light11B (l : List Act11) : Bool := decide (l.length ≤ 60) && l.all fun x => decide (x.size ≤ 400)
theorem light11_parts {l : List Act11} (h : light11B l = true) : l.length ≤ 60 ∧ ∀ i, i < l.length → (l[i]?.getD default).size ≤ 400 := by
  unfold light11B at h
  rw [Bool.and_eq_true, List.all_eq_true] at h
  refine ⟨by simpa using h.1, fun i hi => ?_⟩
  have := h.2 l[i] (List.getElem_mem hi)
  simpa [hi] using this
set_option maxRecDepth 100000 in
set_option maxHeartbeats 1000000 in
theorem light11_any (l : List Act11) (v : Value) (n₀ : Nat) (w : World) (hv : ActsAt11 n₀ w v l) (hm : l.length ≤ maxLen) : Calls Try.prog 22 #[v] w fun e w' => e = .returned (.bool (light11B l)) ∧ w = w' := by
  unfold maxLen at hm
  obtain ⟨a, cap, rfl, hcap, hwf, hv⟩ := hv
  by_cases hbig : 60 < l.length
  · have hL : light11B l = false := by simp [light11B]; omega
    have HL := Lib.hid hL
    have b1 : (60 : Int) < l.length := by omega
    clear hL hwf hv
    go_enter Try.func22, Try.ntmps22
    go_wp2
    go_ret
    exact ⟨by rw [HL.out]; rfl, rfl⟩
  have b1 : (l.length : Int) ≤ 60 := by omega
  go_enter Try.func22, Try.ntmps22
  go_wp2
  go_loop [3] (fun i => ∃ k : Nat, k ≤ l.length ∧ i = .int .i64 k ∧ ∀ j, j < k → (l[j]?.getD default).size ≤ 400) (fun i => l.length - (intOf i).toNat)
  case atStart => exact ⟨0, Nat.zero_le _, rfl, fun j hj => absurd hj (by omega)⟩
  case round =>
    obtain ⟨k, hk, rfl, hno⟩ := hrel
    by_cases hlt : k < l.length
    · rcases hv with h | ⟨g, off, rfl, hg, hc⟩
      · subst h; simp at hlt
      obtain ⟨_, c1, _, _⟩ := hc k hlt
      have HN := Lib.hid hno
      have HW := Lib.hid hwf
      clear hno hc hwf
      have k0 : (0 : Int) ≤ k := by omega
      have k1 : (k : Int) < l.length := by omega
      obtain ⟨x, hx⟩ : ∃ x, l[k]?.getD default = x := ⟨_, rfl⟩
      have hmem : x ∈ l := by rw [← hx]; simp [hlt]
      rw [hx] at c1
      have HX := Lib.hid hx
      clear hx
      by_cases hlong : 400 < x.size
      · have hL : light11B l = false := by
          unfold light11B
          rw [Bool.and_eq_false_iff]
          right
          rw [List.all_eq_false]
          exact ⟨x, hmem, by simp; omega⟩
        have HL := Lib.hid hL
        clear hL hmem
        go_wp2
        go_ret
        exact ⟨by rw [HL.out]; rfl, rfl⟩
      · have hl1 : x.size ≤ 400 := by omega
        go_wp2
        go_round
        case rel =>
          refine ⟨k + 1, by omega, by go_num, fun j hj => ?_⟩
          by_cases hjk : j = k
          · subst hjk; rw [HX.out]; omega
          · exact HN.out j (by omega)
        case measure => simp [intOf]; omega
    · obtain rfl : k = l.length := by omega
      have hL : light11B l = true := by
        unfold light11B
        rw [Bool.and_eq_true]
        refine ⟨by simp; omega, ?_⟩
        rw [List.all_eq_true]
        intro x hx
        obtain ⟨j, hj, rfl⟩ := List.mem_iff_getElem.1 hx
        have := hno j hj
        simpa [hj] using this
      have HL := Lib.hid hL
      clear hL hno hv hwf
      go_wp2
      go_ret
      exact ⟨by rw [HL.out]; rfl, rfl⟩

theorem u8_add (b : BitVec 8) (k : Nat) : (U b + (k : Int)) % 256 = U (b + BitVec.ofNat 8 k) := by
  simp only [U, BitVec.toNat_add, BitVec.toNat_ofNat]
  omega
/-- An act's bytes. -/
def Act11.bs (x : Act11) : List (BitVec 8) := (List.range x.size.toNat).map fun i => x.b + BitVec.ofNat 8 i
theorem Act11.bs_len (x : Act11) : x.bs.length = x.size.toNat := by simp [Act11.bs]
/-- So many of them are laid. -/
def partB (b : BitVec 8) (n k : Nat) : List (BitVec 8) := ((List.range k).map fun i => b + BitVec.ofNat 8 i) ++ List.replicate (n - k) 0#8
theorem part_len (b : BitVec 8) {n k : Nat} (h : k ≤ n) : (partB b n k).length = n := by simp [partB]; omega
theorem part_step (b : BitVec 8) {n k : Nat} (hk : k < n) : (partB b n k).set k (b + BitVec.ofNat 8 k) = partB b n (k + 1) := by
  have e : n - k = (n - (k + 1)) + 1 := by omega
  unfold partB
  rw [List.set_append_right _ _ (by simp), e, List.replicate_succ, List.length_map, List.length_range, Nat.sub_self, List.set_cons_zero, List.range_succ, List.map_append]
  simp
theorem row_cell {w : World} {base g n cap i : Nat} {bs : List (BitVec 8)} (h : w.ownsRow base 5 1 (.slice (some ⟨g, 0, none⟩) n cap) n (cellsOf bs)) (hi : i < bs.length) : w.cell? ⟨g, i, none⟩ = some (.int .u8 (U (bs[i]?.getD 0))) := by
  have hc : (cellsOf bs)[i]? = some (.int .u8 (U (bs[i]?.getD 0))) := by simp [cellsOf, hi]
  have q := h.cells rfl _ _ hc
  rw [add_plain, Nat.zero_add] at q
  exact q
theorem row_free {w : World} {base g n cap size : Nat} {t : TypeId} {cs : List Value} (h : w.ownsRow base t size (.slice (some ⟨g, 0, none⟩) n cap) n cs) (i : Nat) : w.frozen? ⟨g, i, none⟩ = false := by
  rcases h.2 with ⟨h2, _⟩ | ⟨g', cap', cur, hv, _, hg, _⟩
  · cases h2
  · simp only [Value.slice.injEq, Option.some.injEq, Addr.mk.injEq] at hv
    obtain ⟨⟨rfl, _⟩, _⟩ := hv
    exact blk_frozen hg i
theorem row_set {w : World} {base g i : Nat} {n cap : Nat} {bs : List (BitVec 8)} (h : w.ownsRow base 5 1 (.slice (some ⟨g, 0, none⟩) n cap) n (cellsOf bs)) (x : BitVec 8) : (w.setCell ⟨g, i, none⟩ (.int .u8 (U x))).ownsRow base 5 1 (.slice (some ⟨g, 0, none⟩) n cap) n (cellsOf (bs.set i x)) := by
  obtain ⟨h1, h2⟩ := h
  rcases h2 with ⟨h2, _⟩ | ⟨g', cap', cur, hv, hb, hg, hn, hc, hs, ht⟩
  · cases h2
  · simp only [Value.slice.injEq, Option.some.injEq, Addr.mk.injEq] at hv
    obtain ⟨⟨rfl, _⟩, _, rfl⟩ := hv
    refine ⟨by rw [cellsOf_len, List.length_set, ← cellsOf_len]; exact h1, .inr ⟨g, cap, _, rfl, hb, blk_set hg i _, hn, hc, by rw [Array.size_setIfInBounds]; exact hs, ?_⟩⟩
    rw [Array.toList_setIfInBounds, List.take_set, ht]
    simp [cellsOf, List.map_set]
set_option maxRecDepth 100000 in
set_option maxHeartbeats 2000000 in
theorem bytes11_any (x : Act11) (hx : x.size ≤ 400) (w : World) : Calls Try.prog 23 #[.agg #[.int .i64 x.kind, .int .i64 x.size, .int .i64 x.n, .int .u8 (U x.b)]] w fun e w' => ∃ g, w.heap.size ≤ g ∧ e = .returned (.slice (some ⟨g, 0, none⟩) x.size.toNat x.size.toNat) ∧ w'.ownsRow w.heap.size 5 1 (.slice (some ⟨g, 0, none⟩) x.size.toNat x.size.toNat) x.size.toNat (cellsOf x.bs) ∧ Below w.heap.size w w' := by
  obtain ⟨W1, hW1⟩ : ∃ W1, w.alloc (.cells #[.int .i64 x.kind, .int .i64 x.size, .int .i64 x.n, .int .u8 (U x.b)] 64) = W1 := ⟨_, rfl⟩
  have hb1 : Below w.heap.size w W1 := by rw [← hW1]; exact (Below.refl _ w).alloc (Nat.le_refl _) _
  have hk1 : W1.heap[w.heap.size]? = some (.cells #[.int .i64 x.kind, .int .i64 x.size, .int .i64 x.n, .int .u8 (U x.b)] 64 (0, 0)) := by rw [← hW1]; exact heap_alloc_new _ _
  have c1 : W1.cell? ⟨w.heap.size, 1, none⟩ = some (.int .i64 x.size) := blk_cell hk1 1
  obtain ⟨n, hn⟩ : ∃ n, x.size.toNat = n := ⟨_, rfl⟩
  have hn4 : n ≤ 1000 := by omega
  have hmk := makeBytes n hn4
  have HO := Lib.hid (own_zeros W1 w.heap.size n hb1.size hn4)
  have hmx : max x.size 0 = (n : Int) := by omega
  have HB : Hid (x.bs = partB x.b n n) := by unfold Hid Act11.bs partB; rw [hn]; simp
  have HW1 := Lib.hid hW1
  have HB1 := Lib.hid hb1
  have HK1 := Lib.hid hk1
  have n1 : (n : Int) ≤ 1000 := by omega
  have HXN := Lib.hid hn
  rw [hn]
  have HL1 : Hid (w.heap.size < W1.heap.size) := blk_lt hk1
  have hcase : (x.size < 0 ∧ n = 0) ∨ x.size = (n : Int) := by omega
  clear hn hW1 hb1 hk1 hx hmx
  go_enter Try.func23, Try.ntmps23
  go_upto_region 1 with (fail)
  change Code.wp _ _ _ _ (w.alloc (.cells #[.int .i64 x.kind, .int .i64 x.size, .int .i64 x.n, .int .u8 (U x.b)] 64))
  rw [HW1.out]
  clear HW1
  rcases hcase with ⟨hneg, rfl⟩ | hpos
  · have hmk0 : ∀ W : World, (Instr.makeSlice 36 (.int .i64 0) (.int .i64 0)).run Try.prog W = .ok (.slice (some ⟨W.heap.size, 0, none⟩) 0 0) (W.alloc (.cells (madeCells #[.int .u8 0] 0) 5)) := makeBytes 0 (by decide)
    go_wp2
    go_loopw [4] (fun iv wr => ∃ k : Nat, k ≤ 0 ∧ iv = .int .i64 k ∧ wr.ownsRow w.heap.size 5 1 (.slice (some ⟨W1.heap.size, 0, none⟩) 0 0) 0 (cellsOf (partB x.b 0 k)) ∧ wr.heap[w.heap.size]? = some (.cells #[.int .i64 x.kind, .int .i64 x.size, .int .i64 x.n, .int .u8 (U x.b)] 64 (0, 0)) ∧ Below w.heap.size w wr) (fun iv _ => 0 - (intOf iv).toNat)
    case atStart =>
      refine ⟨0, Nat.zero_le _, rfl, ?_, blk_alloc HK1.out _, HB1.out.alloc HB1.out.size _⟩
      have := HO.out
      simpa [partB, zeros] using this
    case round =>
      obtain ⟨k, hk, rfl, hr, hq, hB⟩ := hrel
      by_cases hlt : k < 0
      · exact absurd hlt (Nat.not_lt_zero _)
      · obtain rfl : k = 0 := by omega
        have hb := HB.out
        rw [← hb] at hr
        clear hb
        have HL := Lib.hid HL1.out
        go_wp2
        go_ret
        exact ⟨_, by have := HL.out; omega, rfl, hr, hB⟩
  · rw [hpos] at c1
    go_wp2
    go_loopw [4] (fun iv wr => ∃ k : Nat, k ≤ n ∧ iv = .int .i64 k ∧ wr.ownsRow w.heap.size 5 1 (.slice (some ⟨W1.heap.size, 0, none⟩) n n) n (cellsOf (partB x.b n k)) ∧ wr.heap[w.heap.size]? = some (.cells #[.int .i64 x.kind, .int .i64 x.size, .int .i64 x.n, .int .u8 (U x.b)] 64 (0, 0)) ∧ Below w.heap.size w wr) (fun iv _ => n - (intOf iv).toNat)
    case atStart =>
      refine ⟨0, Nat.zero_le _, rfl, ?_, blk_alloc HK1.out _, HB1.out.alloc HB1.out.size _⟩
      have := HO.out
      simpa [partB, zeros] using this
    case round =>
      obtain ⟨k, hk, rfl, hr, hq, hB⟩ := hrel
      by_cases hlt : k < n
      · have q0 := row_cell (i := k) hr (by rw [part_len x.b hk]; exact hlt)
        have q1 := row_free hr k
        have cb : wr.cell? ⟨w.heap.size, 3, none⟩ = some (.int .u8 (U x.b)) := blk_cell hq 3
        have HS := Lib.hid (row_set (i := k) hr (x.b + BitVec.ofNat 8 k))
        rw [part_step x.b hlt] at HS
        have HB2 := Lib.hid hB
        have hne : W1.heap.size ≠ w.heap.size := by have := HL1.out; omega
        have HQ := Lib.hid ((Below.heap_setCell wr ⟨W1.heap.size, k, none⟩ (.int .u8 (U (x.b + BitVec.ofNat 8 k))) w.heap.size (by show w.heap.size ≠ W1.heap.size; omega)).trans hq)
        clear hr hB hq hne
        have k1 : (k : Int) < n := by omega
        go_wp2
        rw [u8_add]
        go_roundw
        case rel => exact ⟨k + 1, by omega, by go_num, HS.out, HQ.out, HB2.out.setCell (p := ⟨W1.heap.size, k, none⟩) (by have := HL1.out; show w.heap.size ≤ W1.heap.size; omega) _⟩
        case measure => simp [intOf]; omega
      · obtain rfl : k = n := by omega
        have hb := HB.out
        rw [← hb] at hr
        clear hb
        have HL := Lib.hid HL1.out
        go_wp2
        go_ret
        exact ⟨_, by have := HL.out; omega, rfl, hr, hB⟩
end Go.Proofs.Ytiddfilhfdkogaa

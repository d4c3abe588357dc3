/-
  Joined: CrcMath, CrcTable, CrcPiecesL, CrcAddL, CrcSumL.
  Conditions: none.
-/
import Derived.Test.YtiibpkncdflfcaaJA
import Derived.Test.YtiibpkncdflfcaaRows
import Derived.BigRegionIn
import Derived.Lib.SlBytesConst
namespace Go.Proofs.Ytiibpkncdflfcaa
open Go.RowKit

/-- A number one place down. -/
def dn (x : BitVec 32) : BitVec 32 := if x &&& 1#32 = 1#32 then x >>> 1 ^^^ 2197175160#32 else x >>> 1
def dnN : Nat → BitVec 32 → BitVec 32
  | 0, x => x
  | k + 1, x => dnN k (dn x)
theorem dnN_succ (k : Nat) (x : BitVec 32) : dnN (k + 1) x = dn (dnN k x) := by
  induction k generalizing x with
  | zero => rfl
  | succ k ih => rw [dnN, ih, dnN]
/-- A byte's row. -/
def tab (b : BitVec 8) : BitVec 32 := dnN 8 (b.setWidth 32)
def tabN (i : Nat) : BitVec 32 := tab (BitVec.ofNat 8 i)

def tz (i : Nat) : Nat :=
  if i % 2 = 1 then 0 else if i % 4 = 2 then 1 else if i % 8 = 4 then 2 else if i % 16 = 8 then 3 else if i % 32 = 16 then 4 else if i % 64 = 32 then 5 else if i % 128 = 64 then 6 else 7
/-- When the row i is made. -/
def ord (i : Nat) : Nat := 2 ^ (7 - tz i) - 1 + i / 2 ^ (tz i + 1)
/-- Which row is made then. -/
def idx (s : Nat) : Nat := (s + 1 - 2 ^ Nat.log2 (s + 1)) * 2 ^ (8 - Nat.log2 (s + 1)) + 2 ^ (7 - Nat.log2 (s + 1))

theorem chk1 : ∀ s < 255, ord (idx s) = s ∧ 1 ≤ idx s ∧ idx s < 256 := by decide +kernel
theorem chk2 : ∀ i < 256, i ≠ 0 → idx (ord i) = i ∧ ord i < 255 := by decide +kernel
theorem chk3 : ∀ j < 8, ∀ m < 128, m < 2 ^ j →
    idx (2 ^ j - 1 + m) = m * (2 * (128 / 2 ^ j)) + 128 / 2 ^ j ∧ tabN (m * (2 * (128 / 2 ^ j)) + 128 / 2 ^ j) = tabN (m * (2 * (128 / 2 ^ j))) ^^^ dnN (j + 1) 1#32 ∧
    (m = 0 ∨ ord (m * (2 * (128 / 2 ^ j))) < 2 ^ j - 1 + m) ∧ m * (2 * (128 / 2 ^ j)) < 256 := by decide +kernel
theorem tabN_zero : tabN 0 = 0#32 := by decide +kernel

/-- The table when s rows are made. -/
def tabAt (s i : Nat) : BitVec 32 := if i ≠ 0 ∧ ord i < s then tabN i else 0#32
theorem tabAt_step (s i : Nat) (hs : s < 255) (hi : i < 256) : tabAt (s + 1) i = if i = idx s then tabN i else tabAt s i := by
  unfold tabAt
  by_cases h0 : i = 0
  · subst h0
    have := (chk1 s hs).2.1
    rw [if_neg (by simp), if_neg (by omega), if_neg (by simp)]
  · by_cases h : i = idx s
    · have := (chk1 s hs).1
      rw [← h] at this
      rw [if_pos ⟨h0, by omega⟩, if_pos h]
    · have h2 : ord i ≠ s := by
        intro e
        have := (chk2 i hi h0).1
        rw [e] at this
        exact h this.symm
      rw [if_neg h]
      by_cases h3 : ord i < s
      · rw [if_pos ⟨h0, by omega⟩, if_pos ⟨h0, h3⟩]
      · rw [if_neg (by omega), if_neg (by omega)]
theorem tabAt_all (i : Nat) (hi : i < 256) : tabAt 255 i = tabN i := by
  unfold tabAt
  by_cases h0 : i = 0
  · subst h0; rw [if_neg (by simp), tabN_zero]
  · rw [if_pos ⟨h0, (chk2 i hi h0).2⟩]
/-- Its cells. -/
def Arr (s : Nat) : Array Value := ((List.range 256).map fun i => Value.int .u32 (U (tabAt s i))).toArray
theorem Arr_size (s : Nat) : (Arr s).size = 256 := by simp [Arr]
theorem Arr_one (s : Nat) : ∀ v ∈ (Arr s).toList, v.oneCell' = true := by
  intro v hv
  simp only [Arr, List.mem_map] at hv
  obtain ⟨i, _, rfl⟩ := hv
  rfl
theorem Arr_get (s i : Nat) (hi : i < 256) : (Arr s)[i]? = some (.int .u32 (U (tabAt s i))) := by
  simp [Arr, hi]
theorem Arr_set (s : Nat) (hs : s < 255) : (Arr s).setIfInBounds (idx s) (.int .u32 (U (tabN (idx s)))) = Arr (s + 1) := by
  apply Array.ext
  · simp [Arr]
  · intro i h1 h2
    have hi : i < 256 := by rw [Arr_size] at h2; exact h2
    rw [Array.getElem_setIfInBounds]
    · simp only [Arr, List.getElem_toArray, List.getElem_map, List.getElem_range]
      rw [tabAt_step s i hs hi]
      by_cases h : idx s = i
      · rw [if_pos h, if_pos h.symm, h]
      · rw [if_neg h, if_neg (fun e => h e.symm)]
    · rw [Arr_size]; exact hi
theorem Arr_zero : Arr 0 = (Array.replicate 256 (Value.int .u32 0)) := by
  apply Array.ext
  · simp [Arr]
  · intro i h1 h2
    simp [Arr, tabAt]
    rfl
theorem Arr_read (j m : Nat) (hj : j < 8) (hm : m < 2 ^ j) : (Arr (2 ^ j - 1 + m))[m * (2 * (128 / 2 ^ j))]? = some (.int .u32 (U (tabN (m * (2 * (128 / 2 ^ j)))))) := by
  have hm2 : m < 128 := by
    have : 2 ^ j ≤ 2 ^ 7 := Nat.pow_le_pow_right (by omega) (by omega)
    have : (2 : Nat) ^ 7 = 128 := by decide
    omega
  obtain ⟨_, _, h3, h4⟩ := chk3 j hj m hm2 hm
  rw [Arr_get _ _ h4]
  rcases h3 with h3 | h3
  · subst h3
    simp [tabAt, tabN_zero]
  · unfold tabAt
    by_cases h0 : m * (2 * (128 / 2 ^ j)) = 0
    · rw [if_neg (by omega), h0, tabN_zero]
    · rw [if_pos ⟨h0, h3⟩]
theorem Arr_write (j m : Nat) (hj : j < 8) (hm : m < 2 ^ j) :
    (Arr (2 ^ j - 1 + m)).setIfInBounds (m * (2 * (128 / 2 ^ j)) + 128 / 2 ^ j) (.int .u32 (U (tabN (m * (2 * (128 / 2 ^ j))) ^^^ dnN (j + 1) 1#32))) = Arr (2 ^ j - 1 + (m + 1)) := by
  have hp : 2 ^ j ≤ 2 ^ 7 := Nat.pow_le_pow_right (by omega) (by omega)
  have h7 : (2 : Nat) ^ 7 = 128 := by decide
  obtain ⟨h1, h2, _, _⟩ := chk3 j hj m (by omega) hm
  rw [← h2, ← h1]
  exact Arr_set _ (by omega)

end Go.Proofs.Ytiibpkncdflfcaa
namespace Go.Proofs.Ytiibpkncdflfcaa
open Go.RowKit

theorem shr1_32 (x : BitVec 32) : U x / (2 : Int) = U (x >>> 1) := shr_U x 1 _ (by decide)
theorem and1_32 (x : BitVec 32) : (bits .and .u32 (U x) 1 == 1) = decide (x &&& 1#32 = 1#32) := by
  have h : bits .and .u32 (U x) 1 = U (x &&& 1#32) := and_u32 x 1#32
  rw [h]
  exact U_beq (x &&& 1#32) 1#32
theorem xorP (x : BitVec 32) : bits .xor .u32 (U x) 2197175160 = U (x ^^^ 2197175160#32) := xor_u32 x 2197175160#32

set_option maxHeartbeats 400000 in
theorem down_any (x : BitVec 32) (w : World) : Calls Try.prog 66 #[.int .u32 (U x)] w fun e w' => e = .returned (.int .u32 (U (dn x))) ∧ w = w' := by
  have h0 := U_nonneg x
  have ha := and1_32 x
  have e1 := shr1_32 x
  have e2 := xorP (x >>> 1)
  by_cases h : x &&& 1#32 = 1#32
  · have hd : U (dn x) = U (x >>> 1 ^^^ 2197175160#32) := by rw [dn, if_pos h]
    rw [hd]
    have ha' : (bits .and .u32 (U x) 1 == 1) = true := by rw [ha]; simpa using h
    clear ha hd h
    go_enter Try.func66, Try.ntmps66
    go_wp2
    go_ret
    exact ⟨by rw [← e2, ← e1]; rfl, rfl⟩
  · have hd : U (dn x) = U (x >>> 1) := by rw [dn, if_neg h]
    rw [hd]
    have ha' : (bits .and .u32 (U x) 1 == 1) = false := by rw [ha]; simpa using h
    clear ha hd h
    go_enter Try.func66, Try.ntmps66
    go_wp2
    go_ret
    exact ⟨by rw [← e1]; rfl, rfl⟩

/-- 256 cells of 0. -/
def Z256 : Array Value := Array.replicate 256 (.int .u32 0)
theorem zero24 (w : World) : (zeroValue 110).run Try.prog w = .ok (.agg Z256) w := by kernel_rfl
theorem info24 : (Try.prog.info? 110).map (·.size) = some 256 := by kernel_rfl

theorem row1 : U (dnN 0 1#32) = 1 := by decide

theorem place_bit (j : Nat) (hj : j < 8) : ((128 : Int) / 2 ^ j = ((128 / 2 ^ j : Nat) : Int)) ∧ 1 ≤ 128 / 2 ^ j ∧ 128 / 2 ^ j ≤ 128 ∧ 2 ^ j * (2 * (128 / 2 ^ j)) = 256 := by
  have : ∀ j < 8, ((128 : Int) / 2 ^ j = ((128 / 2 ^ j : Nat) : Int)) ∧ 1 ≤ 128 / 2 ^ j ∧ 128 / 2 ^ j ≤ 128 ∧ 2 ^ j * (2 * (128 / 2 ^ j)) = 256 := by decide
  exact this j hj

set_option maxRecDepth 100000 in
set_option maxHeartbeats 1000000 in
theorem table_any (w : World) : Calls Try.prog 62 #[] w fun e w' => e = .returned (.agg (Arr 255)) ∧ Below w.heap.size w w' := by
  have hz := zero24
  go_enter Try.func62, Try.ntmps62
  go_wp2
  go_loopw [2, 6] (fun r p wr => ∃ j : Nat, j ≤ 8 ∧ p = .int .i64 j ∧ r = .int .u32 (U (dnN j 1#32)) ∧ wr.heap[w.heap.size + 1]? = some (.cells (Arr (2 ^ j - 1)) 110 (0, 0)) ∧ wr.heap[w.heap.size]? = some (.cells Z256 110 (0, 0)) ∧ Below w.heap.size w wr) (fun _ p _ => 8 - (intOf p).toNat)
  case atStart =>
    refine ⟨0, by omega, rfl, by rw [row1], ?_, ?_, ((Below.refl _ _).alloc (Nat.le_refl _) _).alloc (by simp) _⟩
    · rw [show (2 : Nat) ^ 0 - 1 = 0 by decide, Arr_zero]
      exact heap_alloc2_new w _ _
    · exact heap_alloc2_old w _ _
  case round =>
    obtain ⟨j, hj, rfl, rfl, hT, hZ, hB⟩ := hrel
    by_cases hlt : j < 8
    · obtain ⟨eb, hb1, hb2, hb3⟩ := place_bit j hlt
      have hread := Arr_read j
      have hwrite := Arr_write j
      have hsucc : 2 ^ j - 1 + 2 ^ j = 2 ^ (j + 1) - 1 := by
        have := Nat.two_pow_pos j
        rw [Nat.pow_succ]; omega
      have hpj := Nat.two_pow_pos j
      generalize 128 / 2 ^ j = bit at eb hb1 hb2 hb3 hread hwrite
      obtain ⟨K, hK⟩ : ∃ K : Nat, 2 ^ j = K := ⟨_, rfl⟩
      rw [hK] at hb3 hread hwrite hsucc hpj hT
      clear hK
      have HS := Lib.hid hsucc
      have H3 := Lib.hid hb3
      clear hsucc hb3
      have cb1 : (1 : Int) ≤ bit := by omega
      have cb2 : (bit : Int) ≤ 128 := by omega
      go_wp2_with (go_at_call 66; refine (down_any _ _).mono ?_; rintro e w' ⟨rfl, rfl⟩)
      obtain ⟨wo, rfl⟩ : ∃ wo : World, wo = wr := ⟨_, rfl⟩
      go_loopw [5] (fun i wi => ∃ m I : Nat, m ≤ K ∧ Hid (I = m * (2 * bit)) ∧ i = .int .i64 I ∧ wi.heap[w.heap.size + 1]? = some (.cells (Arr (K - 1 + m)) 110 (0, 0)) ∧ wi.heap[w.heap.size]? = some (.cells Z256 110 (0, 0)) ∧ Below w.heap.size w wi) (fun i _ => 256 - (intOf i).toNat)
      case atStart => exact ⟨0, 0, Nat.zero_le _, by show 0 = _; simp, rfl, hT, hZ, hB⟩
      case round =>
        obtain ⟨m, I, hm, HI, rfl, hT2, hZ2, hB2⟩ := hrel
        by_cases hlm : m < K
        · have hr := hread m hlt hlm
          have hw := hwrite m hlt hlm
          rw [← HI.out] at hr hw
          have hI : I + 2 * bit ≤ 256 := by
            have h1 := HI.out
            have h2 := H3.out
            have h3 : (m + 1) * (2 * bit) ≤ K * (2 * bit) := Nat.mul_le_mul_right _ hlm
            rw [Nat.add_mul, Nat.one_mul] at h3
            omega
          have c1 : wr.cell? ⟨w.heap.size + 1, I, none⟩ = some (.int .u32 (U (tabN I))) := by rw [cell_of_row _ _ _ _ _ _ hT2, hr]
          have f1 : wr.frozen? ⟨w.heap.size + 1, I + bit, none⟩ = false := frozen_of_row _ _ _ _ _ hT2
          have c2 : wr.cell? ⟨w.heap.size + 1, I + bit, none⟩ = some (.int .u32 (U (tabAt (K - 1 + m) (I + bit)))) := by rw [cell_of_row _ _ _ _ _ _ hT2]; exact Arr_get _ _ (by omega)
          have i0 : (0 : Int) ≤ I := by omega
          have i1 : (I : Int) < 256 := by omega
          have i2 : (I : Int) + bit < 256 := by omega
          have HW := Lib.hid hw
          have HX := Lib.hid (xor_u32 (tabN I) (dn (dnN j 1#32)))
          have HT := Lib.hid hT2
          clear hr hw hT2 hread hwrite hT hZ
          go_wp2
          go_roundw
          case rel =>
            refine ⟨m + 1, I + 2 * bit, by omega, ?_, by go_num, ?_, ?_, hB2.setCell (p := ⟨w.heap.size + 1, _, none⟩) (by simp) _⟩
            · show _ = _
              rw [HI.out, Nat.add_mul, Nat.one_mul]
            · rw [heap_setCell_same _ _ _ _ _ _ HT.out, HX.out, ← dnN_succ, ← HW.out]
            · rw [heap_setCell_other _ _ _ _ (by simp)]; exact hZ2
          case measure => simp [intOf]; omega
        · obtain rfl : m = K := by omega
          have hI : I = 256 := by rw [HI.out, H3.out]
          subst hI
          rw [HS.out] at hT2
          clear hread hwrite hT hZ
          go_wp2
          go_roundw
          case rel => exact ⟨j + 1, by omega, by go_num, by rw [dnN_succ], hT2, hZ2, hB2⟩
          case measure => simp [intOf]; omega
    · obtain rfl : j = 8 := by omega
      rw [show 2 ^ 8 - 1 = 255 by decide] at hT
      have hlt0 : w.heap.size < wr.heap.size := (Array.getElem?_eq_some_iff.1 hZ).1
      have hst : (storeCells ⟨w.heap.size, 0, none⟩ (Arr 255).toList).run Try.prog wr = .ok () (wr.setRow w.heap.size (Arr 255)) := run_storeAll hZ (by rw [Arr_size]; simp [Z256]) (Arr_one 255)
      go_wp2_with (refine wpList_load_row rfl 110 _ rfl (w.heap.size + 1) rfl 110 _ _ _ hT Try.underlying110 rfl (by rw [Arr_size]; exact info24) ?_)
      exact bodyPost_ret (results_cell_row rfl _ _ w.heap.size 110 (Arr 255) (0, 0) _ rfl (setRow_heap _ _ _ _ _ _ hZ) Try.underlying110 rfl (by rw [Arr_size]; exact info24)) rfl ⟨rfl, below_setRow hB (Nat.le_refl _) _⟩

end Go.Proofs.Ytiibpkncdflfcaa
namespace Go.Proofs.Ytiibpkncdflfcaa.Crc
open Go.RowKit Go.Shelf
attribute [local go_sem] Oper.semAt_some

/-- A slice value that reads as these bytes, in a block below n₀. -/
def BytesAt (n₀ : Nat) (w : World) (v : Value) (bs : List (BitVec 8)) : Prop :=
  ∃ a cap, v = .slice a bs.length cap ∧ (a = none → cap = 0) ∧ (bs = [] ∨ ∃ g off, a = some ⟨g, off, none⟩ ∧ g < n₀ ∧ ∀ j, j < bs.length → w.cell? ⟨g, off + j, none⟩ = some (.int .u8 (U (bs[j]?.getD 0))))
theorem BytesAt.below {n₀ : Nat} {w w' : World} (hb : Below n₀ w w') {v : Value} {bs : List (BitVec 8)} (h : BytesAt n₀ w v bs) : BytesAt n₀ w' v bs := by
  obtain ⟨a, cap, rfl, h0, h⟩ := h
  refine ⟨a, cap, rfl, h0, ?_⟩
  rcases h with h | ⟨g, off, rfl, hg, hc⟩
  · exact .inl h
  · exact .inr ⟨g, off, rfl, hg, fun j hj => (hb.cell (p := ⟨g, off + j, none⟩) hg).trans (hc j hj)⟩
theorem BytesAt.mono {n₀ n₁ : Nat} (hn : n₀ ≤ n₁) {w : World} {v : Value} {bs : List (BitVec 8)} (h : BytesAt n₀ w v bs) : BytesAt n₁ w v bs := by
  obtain ⟨a, cap, rfl, h0, h⟩ := h
  refine ⟨a, cap, rfl, h0, ?_⟩
  rcases h with h | ⟨g, off, rfl, hg, hc⟩
  · exact .inl h
  · exact .inr ⟨g, off, rfl, by omega, hc⟩
theorem BytesAt.nil (n₀ : Nat) (w : World) : BytesAt n₀ w (.slice none 0 0) [] := ⟨none, 0, rfl, fun _ => rfl, .inl rfl⟩

/-- A slice of slices that reads as these pieces. -/
def PiecesAt (n₀ : Nat) (w : World) (v : Value) (ps : List (List (BitVec 8))) : Prop :=
  ∃ a cap, v = .slice a ps.length cap ∧ (ps = [] ∨ ∃ g off, a = some ⟨g, off, none⟩ ∧ g < n₀ ∧ ∀ i, i < ps.length → ∃ u, w.cell? ⟨g, off + i, none⟩ = some u ∧ BytesAt n₀ w u (ps[i]?.getD []))
theorem PiecesAt.below {n₀ : Nat} {w w' : World} (hb : Below n₀ w w') {v : Value} {ps : List (List (BitVec 8))} (h : PiecesAt n₀ w v ps) : PiecesAt n₀ w' v ps := by
  obtain ⟨a, cap, rfl, h⟩ := h
  refine ⟨a, cap, rfl, ?_⟩
  rcases h with h | ⟨g, off, rfl, hg, hc⟩
  · exact .inl h
  · refine .inr ⟨g, off, rfl, hg, fun j hj => ?_⟩
    obtain ⟨u, h1, h2⟩ := hc j hj
    exact ⟨u, (hb.cell (p := ⟨g, off + j, none⟩) hg).trans h1, h2.below hb⟩
theorem PiecesAt.mono {n₀ n₁ : Nat} (hn : n₀ ≤ n₁) {w : World} {v : Value} {ps : List (List (BitVec 8))} (h : PiecesAt n₀ w v ps) : PiecesAt n₁ w v ps := by
  obtain ⟨a, cap, rfl, h⟩ := h
  refine ⟨a, cap, rfl, ?_⟩
  rcases h with h | ⟨g, off, rfl, hg, hc⟩
  · exact .inl h
  · refine .inr ⟨g, off, rfl, by omega, fun j hj => ?_⟩
    obtain ⟨u, h1, h2⟩ := hc j hj
    exact ⟨u, h1, h2.mono hn⟩

/-- The bytes of the first k pieces. -/
def flat (ps : List (List (BitVec 8))) (k : Nat) : List (BitVec 8) := (ps.take k).flatten
theorem flat_zero (ps : List (List (BitVec 8))) : flat ps 0 = [] := by simp [flat]
theorem flat_succ (ps : List (List (BitVec 8))) (k : Nat) (hk : k < ps.length) : flat ps (k + 1) = flat ps k ++ ps[k]?.getD [] := by
  unfold flat
  rw [List.take_succ_eq_append_getElem hk, List.flatten_append]
  congr 1
  simp [hk]
theorem flat_all (ps : List (List (BitVec 8))) : flat ps ps.length = ps.flatten := by simp [flat]
theorem flat_len (ps : List (List (BitVec 8))) (k : Nat) : (flat ps k).length ≤ ps.flatten.length := by
  unfold flat
  conv => rhs; rw [← List.take_append_drop k ps, List.flatten_append, List.length_append]
  exact Nat.le_add_right _ _
theorem take_one {α : Type} (l : List α) (d : α) (j : Nat) (hj : j < l.length) : l.take (j + 1) = l.take j ++ [l[j]?.getD d] := by
  rw [List.take_succ_eq_append_getElem hj]
  simp [hj]

set_option maxRecDepth 100000 in
set_option maxHeartbeats 2000000 in
theorem bytesOf1_in (F : Fence) (n : Nat) (h6 : F.fn 67) (hro : F.round = none) (hn : 1 ≤ n) (l Bp n₀ : Nat) (ps : List (List (BitVec 8))) (v : Value) (hlen : ps.length ≤ 1099511627776) (hlens : ∀ i : Nat, (ps[i]?.getD []).length ≤ 1099511627776) (J Jx : List (BitVec 8) → World → Prop)
    (hY : ∀ pre x W, J pre W → pre.length < ps.flatten.length → YieldAt F (n - 1) Try.prog l #[.int .u8 (U x)] W fun e W' =>
      (e = .returned (.bool true) ∧ J (pre ++ [x]) W' ∧ Below n₀ W W') ∨ (e = .returned (.bool false) ∧ Jx (pre ++ [x]) W'))
    (W : World) (hBp : W.cell? ⟨Bp, 0, none⟩ = some v) (hv : PiecesAt n₀ W v ps) (h0 : J [] W) :
    CallsIn F n Try.prog 67 #[.func (.yield l) #[] #[], .pointer (some ⟨Bp, 0, none⟩)] W fun e W' => (∃ v, e = .returned v) ∧
      ((∃ ys, ys = ps.flatten ∧ J ys W') ∨ (∃ pre, True ∧ Jx pre W')) := by
  have hv0 := hv
  obtain ⟨a, cap, rfl, hv⟩ := hv
  refine callsIn_of_wp Try.func67 rfl h6 ?_ hro
  simp only [Try.ntmps67, List.size_toArray, List.length_cons, List.length_nil, Nat.reduceAdd, Nat.reduceSub, Array.replicate_succ, Array.replicate_zero, List.push_toArray, List.append_toArray, List.nil_append, List.cons_append]
  have lp : (ps.length : Int) ≤ 1099511627776 := by omega
  gi_wp2
  gi_loopw [9] (fun i wr => ∃ k : Nat, k ≤ ps.length ∧ i = .int .i64 k ∧ J (flat ps k) wr ∧ Below n₀ W wr)
    (fun i _ => ps.length - (intOf i).toNat)
  case atStart => exact ⟨0, Nat.zero_le _, rfl, by rw [flat_zero]; exact h0, Below.refl _ _⟩
  case round =>
    obtain ⟨k, hk, rfl, hJs, hnx⟩ := hrel
    by_cases hlt : k < ps.length
    · rcases hv with hv | ⟨g, off, rfl, hg, hc⟩
      · subst hv; simp at hlt
      obtain ⟨u, hu, a2, cap2, rfl, _, hu2⟩ := hc k hlt
      have hu' := (hnx.cell (p := ⟨g, off + k, none⟩) hg).trans hu
      have lq := hlens k
      have FS := Lib.hid (flat_succ ps k hlt)
      have FL := flat_len ps (k + 1)
      rw [flat_succ ps k hlt] at FL
      generalize ps[k]?.getD [] = bs at hu hu' hu2 lq FS FL
      have lq' : (bs.length : Int) ≤ 1099511627776 := by omega
      clear hc hu hlens
      have k0 : (0 : Int) ≤ k := by omega
      gi_wp2
      obtain ⟨wo, rfl⟩ : ∃ wo : World, wo = wr := ⟨_, rfl⟩
      gi_loopw [15] (fun i wr => ∃ j : Nat, j ≤ bs.length ∧ i = .int .i64 j ∧ J (flat ps k ++ bs.take j) wr ∧ Below n₀ W wr)
        (fun i _ => bs.length - (intOf i).toNat)
      case atStart => exact ⟨0, Nat.zero_le _, rfl, by simpa using hJs, hnx⟩
      case round =>
        obtain ⟨j, hj, rfl, hJj, hnj⟩ := hrel
        by_cases hlj : j < bs.length
        · rcases hu2 with h | ⟨g2, off2, rfl, hg2, hc2⟩
          · subst h; simp at hlj
          have c2 := (hnj.cell (p := ⟨g2, off2 + j, none⟩) hg2).trans (hc2 j hlj)
          have TS := Lib.hid (take_one bs 0 j hlj)
          generalize hx : bs[j]?.getD 0 = x at c2 TS
          obtain ⟨fn, tmps, assign, body, hy, hR⟩ := hY _ x wr hJj (by simp at FL ⊢; omega)
          clear hc2 hx
          have j0 : (0 : Int) ≤ j := by omega
          gi_wp2
          refine hR.mono ?_
          rintro e W3 (⟨rfl, hJ3, hk3⟩ | ⟨rfl, hJx3⟩)
          · gi_wp2
            go_roundw
            case rel => exact ⟨j + 1, by omega, by simp, by rw [TS.out, ← List.append_assoc]; exact hJ3, hnj.trans hk3⟩
            case measure => simp [intOf]; omega
          · gi_wp2
            refine bodyPost_ret (results_none rfl _ _ _) rfl ?_
            exact ⟨⟨_, rfl⟩, .inr ⟨_, trivial, hJx3⟩⟩
        · obtain rfl : j = bs.length := by omega
          rw [List.take_length] at hJj
          gi_wp2
          go_roundw
          case rel => exact ⟨k + 1, by omega, by simp, by rw [FS.out]; exact hJj, hnj⟩
          case measure => simp [intOf]; omega
    · obtain rfl : k = ps.length := by omega
      rw [flat_all] at hJs
      gi_wp2
      go_end0
      exact ⟨⟨_, rfl⟩, .inl ⟨_, rfl, hJs⟩⟩

end Go.Proofs.Ytiibpkncdflfcaa.Crc
namespace Go.Proofs.Ytiibpkncdflfcaa.Crc
open Go.RowKit Go.Shelf
attribute [local go_sem] Oper.semAt_some

/-- One byte more. -/
def stepB (s : BitVec 32) (b : BitVec 8) : BitVec 32 := s >>> 8 ^^^ tab (s.setWidth 8 ^^^ b)
/-- Many. -/
def runB (s : BitVec 32) (bs : List (BitVec 8)) : BitVec 32 := bs.foldl stepB s
theorem runB_snoc (s : BitVec 32) (bs : List (BitVec 8)) (b : BitVec 8) : runB s (bs ++ [b]) = stepB (runB s bs) b := by simp [runB]
/-- The check that goes on. -/
def crcAdd (s : BitVec 32) (bs : List (BitVec 8)) : BitVec 32 := ~~~ (runB (~~~ s) bs)

theorem not_u32 (x : BitVec 32) : bits .xor .u32 IntKind.u32.max (U x) = U (~~~ x) := by
  have h : bits .xor .u32 IntKind.u32.max (U x) = U (BitVec.allOnes 32 ^^^ x) := xor_u32 (BitVec.allOnes 32) x
  rw [h, BitVec.allOnes_xor]
theorem tabRow (y : BitVec 8) {W : World} {B : Nat} (hT : W.heap[B]? = some (.cells (Arr 255) 110 (0, 0))) : W.cell? ⟨B, (U y).toNat, none⟩ = some (.int .u32 (U (tab y))) := by
  have h : (U y).toNat = y.toNat := by unfold U; simp
  have hy : y.toNat < 256 := y.isLt
  rw [h, cell_of_row _ _ _ _ _ _ hT, Arr_get _ _ hy, tabAt_all _ hy]
  unfold tabN
  rw [BitVec.ofNat_toNat, BitVec.setWidth_eq]
theorem shr8_32 (x : BitVec 32) : U x / (256 : Int) = U (x >>> 8) := shr_U x 8 _ (by decide)
theorem low8_32 (x : BitVec 32) : U x % (256 : Int) = U (x.setWidth 8) := by
  unfold U
  rw [BitVec.toNat_setWidth]
  simp
theorem wrap8_32 (x : BitVec 32) : IntKind.u8.wrap (U x) = U (x.setWidth 8) := by
  rw [IntKind.wrap_u8', low8_32]

set_option maxHeartbeats 400000 in
theorem bytesOf_in (F : Fence) (n : Nat) (h4 : F.fn 63) (hro : F.round = none) (a : Option Addr) (len cap : Nat) (w : World) :
    CallsIn F n Try.prog 63 #[.slice a len cap] w fun e w' => e = .returned (.func (.func 67) #[] #[.pointer (some ⟨w.heap.size, 0, none⟩)]) ∧ w.alloc (.cells #[.slice a len cap] 50) = w' := by
  refine callsIn_of_wp Try.func63 rfl h4 ?_ hro
  simp only [Try.ntmps63, List.size_toArray, List.length_cons, List.length_nil, Nat.reduceAdd, Nat.reduceSub, Array.replicate_succ, Array.replicate_zero, List.push_toArray, List.append_toArray, List.nil_append, List.cons_append]
  gi_wp2
  go_ret
  exact ⟨rfl, rfl⟩

theorem bytesOf_stops (F : Fence) (n : Nat) (h6 : F.fn 67) (hro : F.round = none) (hn : 1 ≤ n) (Bp n₀ : Nat) (ps : List (List (BitVec 8))) (v : Value) (hlen : ps.length ≤ 1099511627776) (hlens : ∀ i : Nat, (ps[i]?.getD []).length ≤ 1099511627776) (w : World) (hBp : Bp < w.heap.size) (hn₀ : n₀ ≤ w.heap.size)
    (hc : w.cell? ⟨Bp, 0, none⟩ = some v) (hv : PiecesAt n₀ w v ps) :
    SeqStopsK F n Try.prog 67 #[.pointer (some ⟨Bp, 0, none⟩)] (fun x : BitVec 8 => #[Value.int .u8 (U x)]) (Below n₀) (fun ys => ys = ps.flatten) (fun _ => True) ps.flatten.length w := fun l J Jx W hW _ _ hY h0 =>
  bytesOf1_in F n h6 hro hn l Bp n₀ ps v hlen hlens J Jx hY W ((hW.cell (p := ⟨Bp, 0, none⟩) hBp).trans hc) (hv.below (hW.mono hn₀)) h0

attribute [local go_sem] not_u32 shr8_32 low8_32 wrap8_32 xor_u8 xor_u32
theorem zeroStore (W : World) : (storeCells ⟨W.heap.size, 0, none⟩ (Arr 255).toList).run Try.prog (W.alloc (.cells Z256 110)) = .ok () ((W.alloc (.cells Z256 110)).setRow W.heap.size (Arr 255)) :=
  run_storeAll (heap_alloc_new W _) (by rw [Arr_size]; simp [Z256]) (Arr_one 255)

theorem add_start {w w1 : World} {s : BitVec 32} (hb1 : Below (w.alloc (.cells #[.int .u32 (U s)] 91)).heap.size (w.alloc (.cells #[.int .u32 (U s)] 91)) w1) :
    Boxed ((w1.alloc (.cells Z256 110)).setRow w1.heap.size (Arr 255)) w.heap.size 91 (.int .u32 (U s)) ∧
    ((w1.alloc (.cells Z256 110)).setRow w1.heap.size (Arr 255)).heap[w1.heap.size]? = some (.cells (Arr 255) 110 (0, 0)) ∧
    Below w.heap.size w ((w1.alloc (.cells Z256 110)).setRow w1.heap.size (Arr 255)) ∧ w.heap.size < w1.heap.size ∧
    ((w1.alloc (.cells Z256 110)).setRow w1.heap.size (Arr 255)).heap.size = w1.heap.size + 1 := by
  have hs := hb1.size
  rw [World.size_alloc] at hs
  have b1 : Boxed w1 w.heap.size 91 (.int .u32 (U s)) := (hb1.block w.heap.size (by simp)).trans (Boxed.new w _ _)
  have b2 := b1.alloc (.cells Z256 110)
  refine ⟨(setRow_other _ _ _ _ (by omega)).trans b2, setRow_heap _ _ _ _ _ _ (heap_alloc_new _ _), ?_, by omega, by simp⟩
  have hB : Below w.heap.size w w1 := ((Below.refl _ w).alloc (Nat.le_refl _) _).trans (hb1.mono (by simp))
  exact below_setRow (hB.alloc (by omega) _) (by omega) _

set_option maxRecDepth 100000 in
set_option maxHeartbeats 2000000 in
theorem add_in (F : Fence) (n : Nat) (h32 : F.fn 54) (f14 : F.fn 62) (h14 : ∀ W : World, CallsIn F (n - 1) Try.prog 62 #[] W fun e w' => e = .returned (.agg (Arr 255)) ∧ Below W.heap.size W w') (h41 : F.fn 63) (h43 : F.fn 67) (hro : F.round = none) (hn : 3 ≤ n)
    (s : BitVec 32) (ps : List (List (BitVec 8))) (v : Value) (hlen : ps.length ≤ 1099511627776) (hlens : ∀ i : Nat, (ps[i]?.getD []).length ≤ 1099511627776) (w : World) (hv : PiecesAt w.heap.size w v ps) :
    CallsIn F n Try.prog 54 #[.int .u32 (U s), v] w fun e W' => e = .returned (.int .u32 (U (crcAdd s ps.flatten))) ∧ Below w.heap.size w W' := by
  have h1 : 1 ≤ n := by omega
  obtain ⟨a, cap, rfl, hv'⟩ := hv
  have hv : PiecesAt w.heap.size w (.slice a ps.length cap) ps := ⟨a, cap, rfl, hv'⟩
  clear hv'
  have hz := zero24
  have hst := zeroStore
  refine callsIn_of_wp_marks Try.func54 rfl h32 ?_ hro
  simp only [Try.ntmps54, List.size_toArray, List.length_cons, List.length_nil, Nat.reduceAdd, Nat.reduceSub, Array.replicate_succ, Array.replicate_zero, List.push_toArray, List.append_toArray, List.nil_append, List.cons_append]
  gi_wp2_with (first
    | (gi_at_call 62; refine (h14 _).mono ?_; rintro e w1 ⟨rfl, hb1⟩; obtain ⟨bS, hT, hB2, hlt, hsz⟩ := add_start hb1; clear hb1; have hcs := bS.cell; have hfs := bS.frozen)
    | (gi_at_call 63; refine (bytesOf_in F (n - 1) h41 hro _ _ _ _).mono ?_; rintro e w' ⟨rfl, rfl⟩))
  have bS3 : Boxed ((((w1.alloc (.cells Z256 110)).setRow w1.heap.size (Arr 255)).setCell ⟨w.heap.size, 0, none⟩ (.int .u32 (U (~~~ s)))).alloc (.cells #[.slice a ps.length cap] 50)) w.heap.size 91 (.int .u32 (U (~~~ s))) := (bS.set _).alloc _
  have hT3 : ((((w1.alloc (.cells Z256 110)).setRow w1.heap.size (Arr 255)).setCell ⟨w.heap.size, 0, none⟩ (.int .u32 (U (~~~ s)))).alloc (.cells #[.slice a ps.length cap] 50)).heap[w1.heap.size]? = some (.cells (Arr 255) 110 (0, 0)) := by
    rw [Below.heap_alloc _ _ _ (by rw [World.size_setCell, hsz]; omega), Below.heap_setCell _ _ _ _ (by show w1.heap.size ≠ w.heap.size; omega)]
    exact hT
  have hB3 : Below w.heap.size w ((((w1.alloc (.cells Z256 110)).setRow w1.heap.size (Arr 255)).setCell ⟨w.heap.size, 0, none⟩ (.int .u32 (U (~~~ s)))).alloc (.cells #[.slice a ps.length cap] 50)) :=
    (hB2.setCell (p := ⟨w.heap.size, 0, none⟩) (Nat.le_refl _) _).alloc (by simp; omega) _
  have bN : Boxed ((((w1.alloc (.cells Z256 110)).setRow w1.heap.size (Arr 255)).setCell ⟨w.heap.size, 0, none⟩ (.int .u32 (U (~~~ s)))).alloc (.cells #[.slice a ps.length cap] 50)) (w1.heap.size + 1) 50 (.slice a ps.length cap) := by
    have := Boxed.new (((w1.alloc (.cells Z256 110)).setRow w1.heap.size (Arr 255)).setCell ⟨w.heap.size, 0, none⟩ (.int .u32 (U (~~~ s)))) 50 (.slice a ps.length cap)
    rw [World.size_setCell, hsz] at this
    exact this
  clear hcs hfs bS hT hB2
  refine rangeFunc_open hro h1 (gf := 67) (lb := #[.pointer (some ⟨w1.heap.size + 1, 0, none⟩)]) rfl h43 (enters_of Try.func67 (by kernel_rfl) rfl)
    (bytesOf_stops F (n - 1) h43 hro (by omega) (w1.heap.size + 1) w.heap.size ps (.slice a ps.length cap) hlen hlens _ (by simp) hB3.size bN.cell (hv.below hB3)) belowK_t (belowK_b hB3.size) (Below.refl _ _) (fun _ => rfl)
    (fun xs W => Boxed W w.heap.size 91 (.int .u32 (U (runB (~~~ s) xs))) ∧ W.heap[w1.heap.size]? = some (.cells (Arr 255) 110 (0, 0)) ∧ Below w.heap.size w W)
    (fun _ _ _ => False)
    (OwnFrom.and (Own.from (holdsBlock_own w.heap.size 91 (fun xs => #[.int .u32 (U (runB (~~~ s) xs))])) _) (OwnFrom.and (Own.from (holdsBlock_own w1.heap.size 110 (fun _ => Arr 255)) _) (ownFrom_below (Nat.le_refl _) hB3.size)))
    (fun _ _ _ _ _ hs _ _ => hs)
    ⟨bS3, hT3, hB3⟩ ?round ?done ?stop
  case round =>
    apply Exists.intro
    apply And.intro
    · intro l x W K hK
      gi_wp2
      exact hK
    · rintro l xs x W ⟨hv, hTW, hB⟩ _
      have hc := hv.cell
      have hf := hv.frozen
      have hr := runB_snoc (~~~ s) xs x
      have ht := tabRow ((runB (~~~ s) xs).setWidth 8 ^^^ x) hTW
      generalize runB (~~~ s) xs = q at hv hc hr ht
      have y0 := U_nonneg (q.setWidth 8 ^^^ x)
      have y1 : U (q.setWidth 8 ^^^ x) < 256 := by simpa using U_lt (q.setWidth 8 ^^^ x)
      have q0 := U_nonneg q
      gi_wp2
      gi_region
      all_goals gi_wp2
      all_goals exact ⟨((KeepsOthers.setCell _ _ _).trans (KeepsOthers.drew _)).from _, ((Below.refl _ W).setCell (p := ⟨w.heap.size, 0, none⟩) (Nat.le_refl _) _).drew, by rw [hr]; exact hv.set _, (Below.heap_setCell W _ _ _ (by show w1.heap.size ≠ w.heap.size; omega)).trans hTW, (hB.setCell (p := ⟨w.heap.size, 0, none⟩) (Nat.le_refl _) _).drew⟩
  case done =>
    rintro D ys W hD rfl ⟨hv, hTW, hB⟩ hK
    have hc := hv.cell
    gi_wp2
    refine ⟨by simp, .inl ⟨_, _, rfl, run_takeDeferred hK, ?_⟩⟩
    exact ⟨_, results_tmp rfl _ _ _, rfl, hB.trans (belowK_b (w := w) (Nat.le_refl _) W D _ _ (by have := hB3.size; omega) hK rfl rfl)⟩
  case stop =>
    rintro D c pre W _ _ h _
    exact h.elim

theorem add_any (s : BitVec 32) (ps : List (List (BitVec 8))) (v : Value) (hlen : ps.length ≤ 1099511627776) (hlens : ∀ i : Nat, (ps[i]?.getD []).length ≤ 1099511627776) (w : World) (hv : PiecesAt w.heap.size w v ps) :
    Calls Try.prog 54 #[.int .u32 (U s), v] w fun e W' => e = .returned (.int .u32 (U (crcAdd s ps.flatten))) ∧ Below w.heap.size w W' :=
  callsIn_wide.1 (add_in Fence.wide 3 trivial trivial (fun W => callsIn_wide.2 (table_any W)) trivial trivial rfl (Nat.le_refl _) s ps v hlen hlens w hv)

end Go.Proofs.Ytiibpkncdflfcaa.Crc
namespace Go.Proofs.Ytiibpkncdflfcaa.Crc
open Go.RowKit

theorem one_piece {w : World} {v : Value} {bs : List (BitVec 8)} (hv : BytesAt w.heap.size w v bs) :
    PiecesAt (w.alloc (.cells #[v] 30)).heap.size (w.alloc (.cells #[v] 30)) (.slice (some ⟨w.heap.size, 0, none⟩) 1 1) [bs] := by
  refine ⟨_, 1, rfl, .inr ⟨w.heap.size, 0, rfl, by simp, fun i hi => ?_⟩⟩
  obtain rfl : i = 0 := by simpa using hi
  refine ⟨v, (Boxed.new w _ _).cell, ?_⟩
  exact (hv.below ((Below.refl _ w).alloc (Nat.le_refl _) _)).mono (by simp)

theorem one_len {bs : List (BitVec 8)} (h : bs.length ≤ 1099511627776) : ∀ i : Nat, (([bs] : List (List (BitVec 8)))[i]?.getD []).length ≤ 1099511627776 := by
  intro i
  cases i with
  | zero => simpa using h
  | succ i => simp

/-- The contract of add as its callers take it. -/
theorem add_one (s : BitVec 32) (bs : List (BitVec 8)) (v : Value) (hlen : bs.length ≤ 1099511627776) (w : World) (hv : BytesAt w.heap.size w v bs) :
    Calls Try.prog 54 #[.int .u32 (U s), .slice (some ⟨w.heap.size, 0, none⟩) 1 1] (w.alloc (.cells #[v] 30)) fun e W' => e = .returned (.int .u32 (U (crcAdd s bs))) ∧ Below w.heap.size w W' := by
  have := add_any s [bs] _ (by simp) (one_len hlen) _ (one_piece hv)
  refine this.mono fun e W' ⟨he, hb⟩ => ⟨by simpa using he, ?_⟩
  exact ((Below.refl _ w).alloc (Nat.le_refl _) _).trans (hb.mono (by simp))

set_option maxHeartbeats 400000 in
theorem sum_any (bs : List (BitVec 8)) (v : Value) (hlen : bs.length ≤ 1099511627776) (w : World) (hv : BytesAt w.heap.size w v bs) :
    Calls Try.prog 43 #[v] w fun e W' => e = .returned (.int .u32 (U (crcAdd 0#32 bs))) ∧ Below w.heap.size w W' := by
  have hadd : Calls Try.prog 54 #[.int .u32 0, .slice (some ⟨w.heap.size, 0, none⟩) 1 1] (w.alloc (.cells #[v] 30)) fun e W' => e = .returned (.int .u32 (U (crcAdd 0#32 bs))) ∧ Below w.heap.size w W' := add_one 0 bs v hlen w hv
  clear hlen
  obtain ⟨a, cap, rfl, _⟩ := hv
  go_enter Try.func43, Try.ntmps43
  go_wp2_with (go_at_call 54; refine hadd.mono ?_; rintro e w' ⟨rfl, hb⟩)
  go_ret
  exact ⟨rfl, hb⟩

theorem sumNil (w : World) : Calls Try.prog 43 #[.slice none 0 0] w fun e W' => e = .returned (.int .u32 0) ∧ Below w.heap.size w W' := by
  have := sum_any [] (.slice none 0 0) (by simp) w (BytesAt.nil _ _)
  have e : U (crcAdd 0#32 []) = 0 := by decide
  rw [e] at this
  exact this
/-- The bytes of the chapter's example. -/
def nine : Array Value := #[.int .u8 49, .int .u8 50, .int .u8 51, .int .u8 52, .int .u8 53, .int .u8 54, .int .u8 55, .int .u8 56, .int .u8 57]
theorem sumNine (w : World) : Calls Try.prog 43 #[.slice (some ⟨w.heap.size, 0, none⟩) 9 9] (w.alloc (.cells nine 5 (9, 10))) fun e W' => e = .returned (.int .u32 3808858755) ∧ Below w.heap.size w W' := by
  have := sum_any [49#8, 50#8, 51#8, 52#8, 53#8, 54#8, 55#8, 56#8, 57#8] (.slice (some ⟨w.heap.size, 0, none⟩) 9 9) (by simp) (w.alloc (.cells nine 5 (9, 10)))
    ⟨_, 9, rfl, fun h => (by cases h), .inr ⟨w.heap.size, 0, rfl, by simp, fun j hj => by
      have hj : j < 9 := by simpa using hj
      rw [Nat.zero_add, cell_of_row _ _ _ _ _ _ (heap_alloc_new w _)]
      have : ∀ j < 9, nine[j]? = some (.int .u8 (U (([49#8, 50#8, 51#8, 52#8, 53#8, 54#8, 55#8, 56#8, 57#8] : List (BitVec 8))[j]?.getD 0))) := by
        intro j hj
        match j, hj with
        | 0, _ => rfl | 1, _ => rfl | 2, _ => rfl | 3, _ => rfl | 4, _ => rfl | 5, _ => rfl | 6, _ => rfl | 7, _ => rfl | 8, _ => rfl
      exact this j hj⟩⟩
  have e : U (crcAdd 0#32 [49#8, 50#8, 51#8, 52#8, 53#8, 54#8, 55#8, 56#8, 57#8]) = 3808858755 := by decide +kernel
  rw [e] at this
  exact this.mono fun e W' ⟨he, hb⟩ => ⟨he, ((Below.refl _ w).alloc (Nat.le_refl _) _).trans (hb.mono (by simp))⟩

end Go.Proofs.Ytiibpkncdflfcaa.Crc

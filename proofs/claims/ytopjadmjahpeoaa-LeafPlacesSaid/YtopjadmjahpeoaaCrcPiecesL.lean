/-
  The bytes of pieces, one behind the other, as crc.bytesOf hands them to a loop.
  Conditions: none.
-/
import Derived.Test.YtopjadmjahpeoaaRows
import Derived.Test.YtopjadmjahpeoaaRange
namespace Go.Proofs.Ytopjadmjahpeoaa.Crc
open Go.RowKit Go.Shelf
attribute [local go_sem] Oper.semAt_some

/-- A slice value that reads as these bytes, in a block below n₀. -/
def BytesAt (n₀ : Nat) (w : World) (v : Value) (bs : List (BitVec 8)) : Prop :=
  ∃ a cap, v = .slice a bs.length cap ∧ (a = none → cap = 0) ∧ (bs = [] ∨ ∃ g off, a = some ⟨g, off, none⟩ ∧ g < n₀ ∧ ∀ j, j < bs.length → w.cell? ⟨g, off + j, none⟩ = some (.int .u8 (U (bs[j]?.getD 0))))
theorem BytesAt.below {n₀ : Nat} {w w' : World} (hb : Below n₀ w w') {v : Value} {bs : List (BitVec 8)} (h : BytesAt n₀ w v bs) : BytesAt n₀ w' v bs := by
  obtain ⟨a, cap, rfl, h0, h⟩ := h
  refine ⟨a, cap, rfl, h0, ?_⟩
  rcases h with h | ⟨g, off, rfl, hg, hc⟩
  · exact .inl h
  · exact .inr ⟨g, off, rfl, hg, fun j hj => (hb.cell (p := ⟨g, off + j, none⟩) hg).trans (hc j hj)⟩
theorem BytesAt.mono {n₀ n₁ : Nat} (hn : n₀ ≤ n₁) {w : World} {v : Value} {bs : List (BitVec 8)} (h : BytesAt n₀ w v bs) : BytesAt n₁ w v bs := by
  obtain ⟨a, cap, rfl, h0, h⟩ := h
  refine ⟨a, cap, rfl, h0, ?_⟩
  rcases h with h | ⟨g, off, rfl, hg, hc⟩
  · exact .inl h
  · exact .inr ⟨g, off, rfl, by omega, hc⟩
theorem BytesAt.nil (n₀ : Nat) (w : World) : BytesAt n₀ w (.slice none 0 0) [] := ⟨none, 0, rfl, fun _ => rfl, .inl rfl⟩

/-- A slice of slices that reads as these pieces. -/
def PiecesAt (n₀ : Nat) (w : World) (v : Value) (ps : List (List (BitVec 8))) : Prop :=
  ∃ a cap, v = .slice a ps.length cap ∧ (ps = [] ∨ ∃ g off, a = some ⟨g, off, none⟩ ∧ g < n₀ ∧ ∀ i, i < ps.length → ∃ u, w.cell? ⟨g, off + i, none⟩ = some u ∧ BytesAt n₀ w u (ps[i]?.getD []))
theorem PiecesAt.below {n₀ : Nat} {w w' : World} (hb : Below n₀ w w') {v : Value} {ps : List (List (BitVec 8))} (h : PiecesAt n₀ w v ps) : PiecesAt n₀ w' v ps := by
  obtain ⟨a, cap, rfl, h⟩ := h
  refine ⟨a, cap, rfl, ?_⟩
  rcases h with h | ⟨g, off, rfl, hg, hc⟩
  · exact .inl h
  · refine .inr ⟨g, off, rfl, hg, fun j hj => ?_⟩
    obtain ⟨u, h1, h2⟩ := hc j hj
    exact ⟨u, (hb.cell (p := ⟨g, off + j, none⟩) hg).trans h1, h2.below hb⟩
theorem PiecesAt.mono {n₀ n₁ : Nat} (hn : n₀ ≤ n₁) {w : World} {v : Value} {ps : List (List (BitVec 8))} (h : PiecesAt n₀ w v ps) : PiecesAt n₁ w v ps := by
  obtain ⟨a, cap, rfl, h⟩ := h
  refine ⟨a, cap, rfl, ?_⟩
  rcases h with h | ⟨g, off, rfl, hg, hc⟩
  · exact .inl h
  · refine .inr ⟨g, off, rfl, by omega, fun j hj => ?_⟩
    obtain ⟨u, h1, h2⟩ := hc j hj
    exact ⟨u, h1, h2.mono hn⟩

/-- The bytes of the first k pieces. -/
def flat (ps : List (List (BitVec 8))) (k : Nat) : List (BitVec 8) := (ps.take k).flatten
theorem flat_zero (ps : List (List (BitVec 8))) : flat ps 0 = [] := by simp [flat]
theorem flat_succ (ps : List (List (BitVec 8))) (k : Nat) (hk : k < ps.length) : flat ps (k + 1) = flat ps k ++ ps[k]?.getD [] := by
  unfold flat
  rw [List.take_succ_eq_append_getElem hk, List.flatten_append]
  congr 1
  simp [hk]
theorem flat_all (ps : List (List (BitVec 8))) : flat ps ps.length = ps.flatten := by simp [flat]
theorem flat_len (ps : List (List (BitVec 8))) (k : Nat) : (flat ps k).length ≤ ps.flatten.length := by
  unfold flat
  conv => rhs; rw [← List.take_append_drop k ps, List.flatten_append, List.length_append]
  exact Nat.le_add_right _ _
theorem take_one {α : Type} (l : List α) (d : α) (j : Nat) (hj : j < l.length) : l.take (j + 1) = l.take j ++ [l[j]?.getD d] := by
  rw [List.take_succ_eq_append_getElem hj]
  simp [hj]

set_option maxRecDepth 100000 in
set_option maxHeartbeats 2000000 in
theorem bytesOf1_in (F : Fence) (n : Nat) (h6 : F.fn 70) (hro : F.round = none) (hn : 1 ≤ n) (l Bp n₀ : Nat) (ps : List (List (BitVec 8))) (v : Value) (hlen : ps.length ≤ 1099511627776) (hlens : ∀ i : Nat, (ps[i]?.getD []).length ≤ 1099511627776) (J Jx : List (BitVec 8) → World → Prop)
    (hY : ∀ pre x W, J pre W → pre.length < ps.flatten.length → YieldAt F (n - 1) Try.prog l #[.int .u8 (U x)] W fun e W' =>
      (e = .returned (.bool true) ∧ J (pre ++ [x]) W' ∧ Below n₀ W W') ∨ (e = .returned (.bool false) ∧ Jx (pre ++ [x]) W'))
    (W : World) (hBp : W.cell? ⟨Bp, 0, none⟩ = some v) (hv : PiecesAt n₀ W v ps) (h0 : J [] W) :
    CallsIn F n Try.prog 70 #[.func (.yield l) #[] #[], .pointer (some ⟨Bp, 0, none⟩)] W fun e W' => (∃ v, e = .returned v) ∧
      ((∃ ys, ys = ps.flatten ∧ J ys W') ∨ (∃ pre, True ∧ Jx pre W')) := by
  have hv0 := hv
  obtain ⟨a, cap, rfl, hv⟩ := hv
  refine callsIn_of_wp Try.func70 rfl h6 ?_ hro
  simp only [Try.ntmps70, List.size_toArray, List.length_cons, List.length_nil, Nat.reduceAdd, Nat.reduceSub, Array.replicate_succ, Array.replicate_zero, List.push_toArray, List.append_toArray, List.nil_append, List.cons_append]
  have lp : (ps.length : Int) ≤ 1099511627776 := by omega
  gi_wp2
  gi_loopw [9] (fun i wr => ∃ k : Nat, k ≤ ps.length ∧ i = .int .i64 k ∧ J (flat ps k) wr ∧ Below n₀ W wr)
    (fun i _ => ps.length - (intOf i).toNat)
  case atStart => exact ⟨0, Nat.zero_le _, rfl, by rw [flat_zero]; exact h0, Below.refl _ _⟩
  case round =>
    obtain ⟨k, hk, rfl, hJs, hnx⟩ := hrel
    by_cases hlt : k < ps.length
    · rcases hv with hv | ⟨g, off, rfl, hg, hc⟩
      · subst hv; simp at hlt
      obtain ⟨u, hu, a2, cap2, rfl, _, hu2⟩ := hc k hlt
      have hu' := (hnx.cell (p := ⟨g, off + k, none⟩) hg).trans hu
      have lq := hlens k
      have FS := Lib.hid (flat_succ ps k hlt)
      have FL := flat_len ps (k + 1)
      rw [flat_succ ps k hlt] at FL
      generalize ps[k]?.getD [] = bs at hu hu' hu2 lq FS FL
      have lq' : (bs.length : Int) ≤ 1099511627776 := by omega
      clear hc hu hlens
      have k0 : (0 : Int) ≤ k := by omega
      gi_wp2
      obtain ⟨wo, rfl⟩ : ∃ wo : World, wo = wr := ⟨_, rfl⟩
      gi_loopw [15] (fun i wr => ∃ j : Nat, j ≤ bs.length ∧ i = .int .i64 j ∧ J (flat ps k ++ bs.take j) wr ∧ Below n₀ W wr)
        (fun i _ => bs.length - (intOf i).toNat)
      case atStart => exact ⟨0, Nat.zero_le _, rfl, by simpa using hJs, hnx⟩
      case round =>
        obtain ⟨j, hj, rfl, hJj, hnj⟩ := hrel
        by_cases hlj : j < bs.length
        · rcases hu2 with h | ⟨g2, off2, rfl, hg2, hc2⟩
          · subst h; simp at hlj
          have c2 := (hnj.cell (p := ⟨g2, off2 + j, none⟩) hg2).trans (hc2 j hlj)
          have TS := Lib.hid (take_one bs 0 j hlj)
          generalize hx : bs[j]?.getD 0 = x at c2 TS
          obtain ⟨fn, tmps, assign, body, hy, hR⟩ := hY _ x wr hJj (by simp at FL ⊢; omega)
          clear hc2 hx
          have j0 : (0 : Int) ≤ j := by omega
          gi_wp2
          refine hR.mono ?_
          rintro e W3 (⟨rfl, hJ3, hk3⟩ | ⟨rfl, hJx3⟩)
          · gi_wp2
            go_roundw
            case rel => exact ⟨j + 1, by omega, by simp, by rw [TS.out, ← List.append_assoc]; exact hJ3, hnj.trans hk3⟩
            case measure => simp [intOf]; omega
          · gi_wp2
            refine bodyPost_ret (results_none rfl _ _ _) rfl ?_
            exact ⟨⟨_, rfl⟩, .inr ⟨_, trivial, hJx3⟩⟩
        · obtain rfl : j = bs.length := by omega
          rw [List.take_length] at hJj
          gi_wp2
          go_roundw
          case rel => exact ⟨k + 1, by omega, by simp, by rw [FS.out]; exact hJj, hnj⟩
          case measure => simp [intOf]; omega
    · obtain rfl : k = ps.length := by omega
      rw [flat_all] at hJs
      gi_wp2
      go_end0
      exact ⟨⟨_, rfl⟩, .inl ⟨_, rfl, hJs⟩⟩

end Go.Proofs.Ytopjadmjahpeoaa.Crc

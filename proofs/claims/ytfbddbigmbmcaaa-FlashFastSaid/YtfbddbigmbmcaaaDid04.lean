/-
  sgraffitolaw04's bytes and did.
  Conditions: none.
-/
import Derived.Test.YtfbddbigmbmcaaaFastMath
import Derived.Deep.RegionHeld3
import Derived.Deep.DeepCutAuto
import Derived.Outline
namespace Go.Proofs.Ytfbddbigmbmcaaa
open Go.RowKit

/-- What bytes leaves. -/
def BytesOut (bs : List (BitVec 8)) (W : World) (e : Ending) (W' : World) : Prop :=
  ∃ g, e = .returned (.slice (some ⟨g, 0, none⟩) bs.length bs.length) ∧ W'.ownsRow W.heap.size 5 1 (.slice (some ⟨g, 0, none⟩) bs.length bs.length) bs.length (cellsOf bs) ∧ Below W.heap.size W W'
/-- An act as a value. -/
def Act4.cells (x : Act4) (u : Value) : Array Value := #[.int .i64 x.kind, .int .i64 x.at_, .int .i64 x.len, .int .u8 (U x.b), u]

theorem bytes_end {n : Nat} {b : BitVec 8} {x : Act4} {size : Nat} (hn : x.n size = n) (hb : x.b = b) (h : 1 < n) {g : Nat} {W W' W2 : World} (hr : W'.ownsRow W.heap.size 5 1 (.slice (some ⟨g, 0, none⟩) n n) n (cellsOf ((List.replicate n b).set (n - 1) (b + 1)))) (hB : Below W.heap.size W W') (hW : W' = W2) {e : Ending} (he : e = .returned (.slice (some ⟨g, 0, none⟩) n n)) : BytesOut (x.bytes size) W e W2 := by
  subst hW he
  have e1 : x.bytes size = (List.replicate n b).set (n - 1) (b + 1) := by unfold Act4.bytes; rw [hn, hb, if_pos h]
  have e2 : (x.bytes size).length = n := by rw [x.bytes_len, hn]
  refine ⟨g, by rw [e2], ?_, hB⟩
  rw [e2, e1]; exact hr
theorem bytes_end1 {n : Nat} {b : BitVec 8} {x : Act4} {size : Nat} (hn : x.n size = n) (hb : x.b = b) (h : ¬ 1 < n) {g : Nat} {W W' : World} (hr : W'.ownsRow W.heap.size 5 1 (.slice (some ⟨g, 0, none⟩) n n) n (cellsOf (List.replicate n b))) (hB : Below W.heap.size W W') {e : Ending} (he : e = .returned (.slice (some ⟨g, 0, none⟩) n n)) : BytesOut (x.bytes size) W e W' := by
  subst he
  have e1 : x.bytes size = List.replicate n b := by unfold Act4.bytes; rw [hn, hb, if_neg h]
  have e2 : (x.bytes size).length = n := by rw [x.bytes_len, hn]
  refine ⟨g, by rw [e2], ?_, hB⟩
  rw [e2, e1]; exact hr
theorem inc_u8 (b : BitVec 8) : IntKind.u8.wrap (U b + 1) = U (b + 1) := by
  rw [wrap_u8_mod, BitVec.ofInt_add, ofInt_U]; rfl

theorem full_cast {W : World} {b : BitVec 8} {m : Nat} (h : ∀ W', W.heap.size ≤ W'.heap.size → Calls Try.prog 32 #[.int .u8 (U b), .int .i64 ((m + 1 : Nat) : Int)] W' (FullAt W.heap.size b (m + 1) W')) : ∀ W', W.heap.size ≤ W'.heap.size → Calls Try.prog 32 #[.int .u8 (U b), .int .i64 ((m : Int) + 1)] W' (FullAt W.heap.size b (m + 1) W') := by
  intro W' hW
  have := h W' hW
  have e : ((m + 1 : Nat) : Int) = (m : Int) + 1 := by omega
  rwa [e] at this
set_option maxHeartbeats 2000000 in
theorem bytes04_any (x : Act4) (u : Value) (size : Nat) (h2 : size ≤ 512) (W : World) : Calls Try.prog 22 #[.agg (x.cells u), .int .i64 size] W (BytesOut (x.bytes size) W) := by
  obtain ⟨n, hn⟩ : ∃ n, x.n size = n := ⟨_, rfl⟩
  have hn6 := x.n_le size (by omega)
  rw [hn] at hn6
  obtain ⟨b, hb⟩ : ∃ b, x.b = b := ⟨_, rfl⟩
  have HN := Lib.hid hn
  have HBB := Lib.hid hb
  have hincr := inc_u8 b
  obtain ⟨Y, hY⟩ : ∃ Y, x.cells u = Y := ⟨_, rfl⟩
  have HF : Hid (∀ W', W.heap.size ≤ W'.heap.size → Calls Try.prog 32 #[.int .u8 (U b), .int .i64 n] W' (FullAt W.heap.size b n W')) := fun W' h => full_from _ b n (by omega) W' h
  have HB1 : Hid (∀ o, Below W.heap.size W (W.alloc o)) := fun o => (Below.refl _ _).alloc (Nat.le_refl _) _
  have hY2 : Y = #[.int .i64 x.kind, .int .i64 x.at_, .int .i64 x.len, .int .u8 (U b), u] := by rw [← hY]; unfold Act4.cells; rw [hb]
  have HC : Hid (∀ w2 : World, Below (W.alloc (.cells #[.int .i64 x.kind, .int .i64 x.at_, .int .i64 x.len, .int .u8 (U b), u] 37)).heap.size (W.alloc (.cells #[.int .i64 x.kind, .int .i64 x.at_, .int .i64 x.len, .int .u8 (U b), u] 37)) w2 → w2.cell? ⟨W.heap.size, 3, none⟩ = some (.int .u8 (U b))) := fun w2 h => blk_cell ((h.block _ (by simp)).trans (heap_alloc_new _ _)) 3
  unfold Act4.n at hn
  subst hY2
  rw [hY]
  clear hY hb
  by_cases h0 : x.len < 0
  · rw [if_pos (.inl h0)] at hn
    subst hn
    by_cases h1 : 1 < size
    · obtain ⟨m, rfl⟩ : ∃ m, size = m + 1 := ⟨size - 1, by omega⟩
      have t1 : (1 : Int) < (m : Int) + 1 := by omega
      have HF := Lib.hid (full_cast HF.out)
      have HGT := Lib.hid h1
      clear h1
      go_enter Try.func22, Try.ntmps22
      go_wp2_with (go_at_call 32; (with_reducible refine (HF.out _ (HB1.out _).size).mono ?_); rintro e w2 ⟨g, rfl, hr, hbl⟩; have q0 := row_cell (i := m) hr (by simp); have q1 := row_free hr m; have q3 := HC.out _ hbl; have HS := Lib.hid (row_set (i := m) hr (b + 1)); have HBL := Lib.hid ((HB1.out _).trans (hbl.mono (HB1.out _).size)); clear hr hbl)
      go_ret
      exact bytes_end HN.out HBB.out HGT.out HS.out (HBL.out.setCell (p := ⟨g, m, none⟩) (HS.out.lt g rfl).1 _) rfl rfl
    · have t1 : (size : Int) ≤ 1 := by omega
      have HGT := Lib.hid h1
      clear h1
      go_enter Try.func22, Try.ntmps22
      go_wp2_with (go_at_call 32; (with_reducible refine (HF.out _ (HB1.out _).size).mono ?_); rintro e w2 ⟨g, rfl, hr, hbl⟩; have HR := Lib.hid hr; have HBL := Lib.hid ((HB1.out _).trans (hbl.mono (HB1.out _).size)); clear hr hbl)
      go_ret
      exact bytes_end1 HN.out HBB.out HGT.out HR.out HBL.out rfl
  · by_cases h6 : 600 < x.len
    · rw [if_pos (.inr h6)] at hn
      have h00 : 0 ≤ x.len := by omega
      subst hn
      by_cases h1 : 1 < size
      · obtain ⟨m, rfl⟩ : ∃ m, size = m + 1 := ⟨size - 1, by omega⟩
        have t1 : (1 : Int) < (m : Int) + 1 := by omega
        have HF := Lib.hid (full_cast HF.out)
        have HGT := Lib.hid h1
        clear h1
        go_enter Try.func22, Try.ntmps22
        go_wp2_with (go_at_call 32; (with_reducible refine (HF.out _ (HB1.out _).size).mono ?_); rintro e w2 ⟨g, rfl, hr, hbl⟩; have q0 := row_cell (i := m) hr (by simp); have q1 := row_free hr m; have q3 := HC.out _ hbl; have HS := Lib.hid (row_set (i := m) hr (b + 1)); have HBL := Lib.hid ((HB1.out _).trans (hbl.mono (HB1.out _).size)); clear hr hbl)
        go_ret
        exact bytes_end HN.out HBB.out HGT.out HS.out (HBL.out.setCell (p := ⟨g, m, none⟩) (HS.out.lt g rfl).1 _) rfl rfl
      · have t1 : (size : Int) ≤ 1 := by omega
        have HGT := Lib.hid h1
        clear h1
        go_enter Try.func22, Try.ntmps22
        go_wp2_with (go_at_call 32; (with_reducible refine (HF.out _ (HB1.out _).size).mono ?_); rintro e w2 ⟨g, rfl, hr, hbl⟩; have HR := Lib.hid hr; have HBL := Lib.hid ((HB1.out _).trans (hbl.mono (HB1.out _).size)); clear hr hbl)
        go_ret
        exact bytes_end1 HN.out HBB.out HGT.out HR.out HBL.out rfl
    · rw [if_neg (by omega)] at hn
      obtain ⟨l, hl⟩ : ∃ l : Nat, x.len = l := ⟨x.len.toNat, by omega⟩
      rw [hl] at hn h6 HC
      obtain rfl : l = n := by omega
      rw [hl]
      clear hl hn h0
      by_cases h1 : 1 < l
      · obtain ⟨m, rfl⟩ : ∃ m, l = m + 1 := ⟨l - 1, by omega⟩
        have t1 : (1 : Int) < (m : Int) + 1 := by omega
        have h60 : decide ((600 : Int) < (m : Int) + 1) = false := by rw [decide_eq_false_iff_not]; omega
        have h00 : decide ((m : Int) + 1 < 0) = false := by rw [decide_eq_false_iff_not]; omega
        clear h6
        have HF := Lib.hid (full_cast HF.out)
        have HGT := Lib.hid h1
        clear h1
        go_enter Try.func22, Try.ntmps22
        go_wp2_with (go_at_call 32; (with_reducible refine (HF.out _ (HB1.out _).size).mono ?_); rintro e w2 ⟨g, rfl, hr, hbl⟩; have q0 := row_cell (i := m) hr (by simp); have q1 := row_free hr m; have q3 := HC.out _ hbl; have HS := Lib.hid (row_set (i := m) hr (b + 1)); have HBL := Lib.hid ((HB1.out _).trans (hbl.mono (HB1.out _).size)); clear hr hbl)
        go_ret
        exact bytes_end HN.out HBB.out HGT.out HS.out (HBL.out.setCell (p := ⟨g, m, none⟩) (HS.out.lt g rfl).1 _) rfl rfl
      · have h60 : (l : Int) ≤ 600 := by omega
        have h00 : (0 : Int) ≤ l := by omega
        clear h6
        have t1 : (l : Int) ≤ 1 := by omega
        have HGT := Lib.hid h1
        clear h1
        go_enter Try.func22, Try.ntmps22
        go_wp2_with (go_at_call 32; (with_reducible refine (HF.out _ (HB1.out _).size).mono ?_); rintro e w2 ⟨g, rfl, hr, hbl⟩; have HR := Lib.hid hr; have HBL := Lib.hid ((HB1.out _).trans (hbl.mono (HB1.out _).size)); clear hr hbl)
        go_ret
        exact bytes_end1 HN.out HBB.out HGT.out HR.out HBL.out rfl


end Go.Proofs.Ytfbddbigmbmcaaa

/-
  The document's own clock: Put, where a place is free.
  Conditions: none.
-/
import Derived.Test.YtadhkciggiefbaaCkRef7
import Derived.Test.YtadhkciggiefbaaLastMath
namespace Go.Proofs.Ytadhkciggiefbaa
open Go.RowKit

set_option maxHeartbeats 4000000 in
theorem refPut_free {w : World} {v : Value} {ps : List Pl} (h : PlsAt w.heap.size w v ps) (hth : ∀ p ∈ ps, ∃ t, p.thing = .int .i64 t) (hl : ps.length ≤ 4096) (hand key tt : Int) {i : Nat} (hf : findI ps key = -1) (hfree : ps.findIdx? (fun p => !p.full) = some i) :
    Calls Try.prog 13 #[.agg #[v, .int .i64 hand], .int .i64 key, .int .i64 tt] w (PutDid (ps.set i ⟨true, true, key, .int .i64 tt⟩) hand false false 0 0 false w) := by
  obtain ⟨a, c, rfl⟩ := h.slice
  have hi := (some_p hfree).1
  have HPF : Hid (∀ (j : Nat) (p : Pl), ps[j]? = some p → (j < i → p.full = true) ∧ (j = i → p.full = false)) := fun j p hp => by
    obtain ⟨_, q1, q2⟩ := some_p hfree
    have := (p_of hp).1
    exact ⟨fun hj => by rw [← this]; exact q2 j hj, fun hj => by subst hj; rw [← this]; exact q1⟩
  have L := lay3 w (.slice a ps.length c) hand
  generalize hw1 : mk3 w (.slice a ps.length c) hand = w1 at L
  unfold mk3 at hw1
  have HF := Lib.hid (find_any (h.next L.hb) hl hand key)
  rw [hf] at HF
  have HP := Lib.hid (h.next L.hb)
  have c0 : w1.cell? ⟨w.heap.size, 0, none⟩ = some (.slice a ps.length c) := blk_cell L.b0 0
  have c1 : w1.cell? ⟨w.heap.size, 1, none⟩ = some (.int .i64 hand) := blk_cell L.b0 1
  have i1 : (i : Int) < ps.length := by omega
  have i2 : (i : Int) ≤ 4096 := by omega
  have l1 : (ps.length : Int) ≤ 4096 := by omega
  have HL := Lib.hid L
  have HI := Lib.hid hi
  have HTH := Lib.hid hth
  have HW2 := Lib.hid hw1
  clear h hf hw1 L hth hi hfree
  go_enter Try.func13, Try.ntmps13
  go_upto_region 1 with fail
  change (Code.region _ _ _).wp _ _ _ (((w.alloc (.cells #[.slice a ps.length c, .int .i64 hand] 29)).alloc (.cells #[.slice none 0 0, .int .i64 0] 29)).alloc (.cells #[.bool false, .bool false, .int .i64 0, .int .i64 0] 39))
  rw [HW2.out]
  clear HW2
  go_wp2_with (go_at_call 19; (with_reducible refine HF.out.mono ?_); rintro e w2 ⟨rfl, hb⟩; have L2 := HL.out.next hb; have HL2 := Lib.hid L2; have HP2 := Lib.hid (HP.out.next hb); have d0 : w2.cell? ⟨w.heap.size, 0, none⟩ = some (.slice a ps.length c) := blk_cell L2.b0 0; have d1 : w2.cell? ⟨w.heap.size, 1, none⟩ = some (.int .i64 hand) := blk_cell L2.b0 1; have HWI := Lib.hid (with_any HP2.out HTH.out hl hand HI.out true true key tt); clear hb L2 c0 c1 HP HL HF)
  go_loopw [10] (fun jv wr => ∃ k : Nat, k ≤ i ∧ jv = .int .i64 k ∧ w2 = wr) (fun jv _ => i + 1 - (intOf jv).toNat)
  case atStart => exact ⟨0, Nat.zero_le _, rfl, rfl⟩
  case round =>
    obtain ⟨k, hk, rfl, rfl⟩ := hrel
    have k1 : (k : Int) < ps.length := by omega
    have hkl : k < ps.length := by have := HI.out; omega
    obtain ⟨p, hp⟩ : ∃ p, ps[k]? = some p := ⟨ps[k], List.getElem?_eq_getElem hkl⟩
    obtain ⟨g, off, rfl, hg, q0, _, _, _⟩ := HP2.out.get hp
    obtain ⟨f1, f2⟩ := HPF.out k p hp
    by_cases hlt : k < i
    · rw [f1 hlt] at q0
      clear f1 f2 hp hg
      go_wp2
      go_roundw
      case rel => exact ⟨k + 1, by omega, by go_num, trivial⟩
      case measure => simp [intOf]; omega
    · obtain rfl : k = i := by omega
      rw [f2 rfl] at q0
      clear f1 f2 hp hg hlt hkl
      go_wp2_with (first
        | (go_at_call 20; (with_reducible refine HWI.out.mono ?_); rintro e w3 ⟨v3, rfl, h3, hb3, hf3⟩; obtain ⟨a3, c3, e3⟩ := h3.slice; rw [List.length_set] at e3; subst e3; have H3 := Lib.hid h3; have L3 := HL2.out.next hb3; have HL3 := Lib.hid L3; have HE := Lib.hid (put_end (v' := .slice a3 ps.length c3) L3 hand false false 0 0); have HFR : Hid (∀ g off n c', (Value.slice a3 ps.length c3) = .slice (some ⟨g, off, none⟩) n c' → g ≠ w.heap.size + 2) := (fun g off n c' e => by have := hf3 g off n c' e; have := blk_lt HL2.out.b2; omega); clear h3 hb3 hf3 L3 d0 d1 q0)
        | (refine wpList_store_row (o := ⟨none, _, _, _, _, _⟩) rfl 29 (.tmp 6) (.tmp 44) rfl (w.heap.size + 1) (ckC (.slice a3 ps.length c3) hand) rfl rfl 29 (ckC (.slice none 0 0) 0) HL3.out.b1 (ckC_sz _ _) rfl ?_ ?_; exact ckC_one _ _ _ _)
        | (refine wpList_store_row (o := ⟨none, _, _, _, _, _⟩) rfl 39 (.tmp 7) (.tmp 45) rfl (w.heap.size + 2) (plC false false 0 0) rfl rfl 39 (plC false false 0 0) HE.out.2.2.1 (plC_sz _ _ _ _) rfl ?_ ?_; exact plC_one _ _ _ _))
      refine bodyPost_ret (refPut_res _ (w.heap.size + 1) (w.heap.size + 2) _ _ _ _ _ _ _ _ rfl rfl rfl HE.out.1 HE.out.2.1) rfl ⟨_, rfl, ?_, HE.out.2.2.2⟩
      rw [size_setRow, size_setRow]
      exact (H3.out.setRow HL3.out.b1 _).beside HFR.out _
end Go.Proofs.Ytadhkciggiefbaa

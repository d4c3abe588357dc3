/-
  bits: Take; what the chapter's example says.
  Conditions: none.
-/
import Derived.Test.YtpljbjceokoeiaaDoorBits2
namespace Go.Proofs.YtpljbjceokoeiaaDoor
open Go.RowKit

/-- The hand's cell set. -/
theorem BitsAt.turn {n₀ : Nat} {w : World} {D g cap : Nat} {s : BSet} (h : BitsAt n₀ w D g cap s) {k : Nat} (hk : k < s.n) :
    BitsAt n₀ (w.setCell ⟨D, 1, none⟩ (.int .i64 k)) D g cap { s with hand := k } ∧ Moves (fun j => j = D ∨ j = g) w (w.setCell ⟨D, 1, none⟩ (.int .i64 k)) := by
  have hm : Moves (fun j => j = D) w (w.setCell ⟨D, 1, none⟩ (.int .i64 k)) := (Moves.refl (fun j => j = D) w).setCell (p := ⟨D, 1, none⟩) (fun _ => rfl) _
  refine ⟨⟨⟨h.ok.n1, h.ok.n2, hk, h.ok.len, h.ok.above⟩, ?_, hm.row h.row (fun j hj e => h.ne (by subst e; simpa [Value.ownBlock] using hj)), h.lo⟩, hm.mono (fun _ _ e => .inl e)⟩
  rw [blk_set h.blk]
  simp
theorem next_le (s : BSet) (h : s.hand < s.n) : s.next ≤ s.n := by
  unfold BSet.next
  split
  · exact (free_is s 0 (by omega)).1.2
  · exact (free_is s s.hand (by omega)).1.2
theorem next_free (s : BSet) (h : s.hand < s.n) (hn : s.next < s.n) : s.has s.next = false := by
  unfold BSet.next at *
  split at hn
  · next e => rw [if_pos e]; exact (free_is s 0 (by omega)).2.2 hn
  · next e => rw [if_neg e]; exact (free_is s s.hand (by omega)).2.2 hn
def takeRes (n m : Nat) : Value := if m < n then .tuple #[.int .i64 m, .bool true] else .tuple #[.int .i64 0, .bool false]
theorem take_nil (w : World) : Calls Tryd.prog 16 #[.pointer none] w fun e w' => e = .returned (.tuple #[.int .i64 0, .bool false]) ∧ w' = w := by
  go_enter Tryd.func16, Tryd.ntmps16
  go_wp2
  go_ret2
  exact ⟨rfl, rfl⟩

theorem firstFree0 {n₀ : Nat} {w : World} {D g cap : Nat} {s : BSet} (h : BitsAt n₀ w D g cap s) : Calls Tryd.prog 26 #[.pointer (some ⟨D, 0, none⟩), .int .i64 0] w fun e w' => e = .returned (.int .i64 (s.free 0)) ∧ ∃ n, w' = w.drewN n := firstFree_any h 0 (Nat.zero_le _)
set_option maxHeartbeats 2000000 in
theorem take_any {n₀ : Nat} {w : World} {D g cap : Nat} {s : BSet} (h : BitsAt n₀ w D g cap s) : Calls Tryd.prog 16 #[.pointer (some ⟨D, 0, none⟩)] w (BitsDid n₀ D g cap s.take (takeRes s.n s.next) w) := by
  obtain ⟨c0, c1, c2⟩ := h.cells
  have hok := h.ok
  have hand := hok.hand
  have hn2 := hok.n2
  have hle := next_le s hand
  have HF1 := Lib.hid (firstFree_any h s.hand (by omega))
  have HF2 := Lib.hid (fun q => firstFree0 (h.drewN q))
  have HO := Lib.hid h
  by_cases hm : s.next < s.n
  · have hno := next_free s hand hm
    have hfr : s.freeB (s.next : Int) = true := by unfold BSet.freeB inB; simp [hm, hno]
    have hmk : s.markI (s.next : Int) = s.mark s.next := by unfold BSet.markI; rw [if_pos hfr]; rfl
    have HMK := Lib.hid (fun q => mark_any (h.drewN q) (s.next : Int))
    rw [hfr, hmk] at HMK
    have HT : Hid (s.take = { (s.mark s.next) with hand := (s.next + 1) % s.n }) := by unfold Hid BSet.take; rw [if_pos hm]
    have HR : Hid (takeRes s.n s.next = .tuple #[.int .i64 s.next, .bool true]) := by unfold Hid takeRes; rw [if_pos hm]
    have HPUT := Lib.hid (fun W (hW : BitsAt n₀ W D g cap (s.mark s.next)) => hW.turn (k := (s.next + 1) % s.n) (Nat.mod_lt _ (by show 0 < s.n; omega)))
    have HLT := Lib.hid hm
    have HC : Hid (∀ W, BitsAt n₀ W D g cap (s.mark s.next) → W.cell? ⟨D, 0, none⟩ = some (.int .i64 s.n) ∧ W.cell? ⟨D, 1, none⟩ = some (.int .i64 s.hand) ∧ W.frozen? ⟨D, 1, none⟩ = false) := fun W hW => ⟨hW.cells.1, hW.cells.2.1, blk_frozen hW.blk 1⟩
    have hmod : ((s.next : Int) + 1) % (s.n : Int) = (((s.next + 1) % s.n : Nat) : Int) := by push_cast; rfl
    have HMOD := Lib.hid hmod
    have n1 : (1 : Int) ≤ s.n := by omega
    have n2 : (s.n : Int) ≤ 65536 := by omega
    have m1 : (s.next : Int) ≤ 65536 := by omega
    by_cases hx : s.free s.hand = s.n
    · have hnx : s.free 0 = s.next := by unfold BSet.next; rw [if_pos hx]
      rw [hx] at HF1
      rw [hnx] at HF2
      have HX := Lib.hid hx
      clear hx hnx hok h c2 hno hfr hmk hmod hm hle
      generalize s.next = m at *
      go_enter Tryd.func16, Tryd.ntmps16
      have tok1 : True := trivial
      go_wp2_with (first
        | (go_at_call 26; have _t := tok1; (with_reducible refine HF1.out.mono ?_); rintro e w' ⟨rfl, q1, rfl⟩; clear tok1)
        | (go_at_call 26; (with_reducible refine (HF2.out q1).mono ?_); rintro e w' ⟨rfl, q2, rfl⟩)
        | (go_at_call 10; (with_reducible refine (HMK.out _).mono ?_); rintro e w1 ⟨rfl, hb1, hmv1⟩; obtain ⟨d0, d1, df⟩ := HC.out _ hb1; have HB1 := Lib.hid hb1; have HM1 := Lib.hid hmv1; clear hb1 hmv1))
      go_ret2
      exact ⟨by rw [HR.out]; rfl, by rw [HT.out, HMOD.out]; exact (HPUT.out _ HB1.out).1, ((Moves.refl _ w).drewN _).trans (HM1.out.trans (HPUT.out _ HB1.out).2 (fun _ _ h => h)) (fun _ _ h => h)⟩
    · have hnx : s.free s.hand = s.next := by unfold BSet.next; rw [if_neg hx]
      rw [hnx] at HF1
      have e1 : ((s.next : Int) == (s.n : Int)) = false := by rw [beq_eq_false_iff_ne]; omega
      have e2 : (s.next == s.n) = false := by rw [beq_eq_false_iff_ne]; omega
      clear hx hnx hok h c2 hno hfr hmk hmod hm hle
      generalize s.next = m at *
      go_enter Tryd.func16, Tryd.ntmps16
      go_wp2_with (first
        | (go_at_call 26; (with_reducible refine HF1.out.mono ?_); rintro e w' ⟨rfl, q1, rfl⟩)
        | (go_at_call 10; (with_reducible refine (HMK.out _).mono ?_); rintro e w1 ⟨rfl, hb1, hmv1⟩; obtain ⟨d0, d1, df⟩ := HC.out _ hb1; have HB1 := Lib.hid hb1; have HM1 := Lib.hid hmv1; clear hb1 hmv1))
      go_ret2
      exact ⟨by rw [HR.out]; rfl, by rw [HT.out, HMOD.out]; exact (HPUT.out _ HB1.out).1, ((Moves.refl _ w).drewN _).trans (HM1.out.trans (HPUT.out _ HB1.out).2 (fun _ _ h => h)) (fun _ _ h => h)⟩
  · have he : s.next = s.n := by omega
    have hx : s.free s.hand = s.n := by
      unfold BSet.next at he
      split at he
      · assumption
      · exact he
    have hnx : s.free 0 = s.n := by rw [← he]; unfold BSet.next; rw [if_pos hx]
    rw [hx] at HF1
    rw [hnx] at HF2
    have hfr : s.freeB (s.n : Int) = false := by unfold BSet.freeB inB; simp
    have hmk : s.markI (s.n : Int) = s := by unfold BSet.markI; rw [if_neg (by simp [hfr])]
    have HMK := Lib.hid (fun q => mark_any (h.drewN q) (s.n : Int))
    rw [hfr, hmk] at HMK
    have HT : Hid (s.take = s) := by unfold Hid BSet.take; rw [if_neg hm]
    have HR : Hid (takeRes s.n s.next = .tuple #[.int .i64 0, .bool false]) := by unfold Hid takeRes; rw [if_neg hm]
    clear hx hnx hok h c2 hfr hmk hm hle he
    go_enter Tryd.func16, Tryd.ntmps16
    have tok1 : True := trivial
    go_wp2_with (first
      | (go_at_call 26; have _t := tok1; (with_reducible refine HF1.out.mono ?_); rintro e w' ⟨rfl, q1, rfl⟩; clear tok1)
      | (go_at_call 26; (with_reducible refine (HF2.out q1).mono ?_); rintro e w' ⟨rfl, q2, rfl⟩)
      | (go_at_call 10; (with_reducible refine (HMK.out _).mono ?_); rintro e w1 ⟨rfl, hb1, hmv1⟩; have HB1 := Lib.hid hb1; have HM1 := Lib.hid hmv1; clear hb1 hmv1))
    go_ret2
    exact ⟨by rw [HR.out]; rfl, by rw [HT.out]; exact HB1.out, ((Moves.refl _ w).drewN _).trans HM1.out (fun _ _ h => h)⟩

/-- What the example says. -/
theorem aw1 : takeRes (BSet.new 3).n (BSet.new 3).next = .tuple #[.int .i64 0, .bool true] := by kernel_rfl
theorem aw2 : takeRes (BSet.new 3).take.n (BSet.new 3).take.next = .tuple #[.int .i64 1, .bool true] := by kernel_rfl
theorem aw3 : (BSet.new 3).take.take.hasB 0 = true := by kernel_rfl
theorem aw4 : takeRes ((BSet.new 3).take.take.clearI 0).n ((BSet.new 3).take.take.clearI 0).next = .tuple #[.int .i64 2, .bool true] := by kernel_rfl
theorem aw5 : takeRes ((BSet.new 3).take.take.clearI 0).take.n ((BSet.new 3).take.take.clearI 0).take.next = .tuple #[.int .i64 0, .bool true] := by kernel_rfl
theorem aw6 : takeRes ((BSet.new 3).take.take.clearI 0).take.take.n ((BSet.new 3).take.take.clearI 0).take.take.next = .tuple #[.int .i64 0, .bool false] := by kernel_rfl
theorem new3 (w : World) : Calls Tryd.prog 5 #[.int .i64 3] w fun e w' => e = .returned (.pointer (some ⟨w.heap.size + 1, 0, none⟩)) ∧ BitsAt w.heap.size w' (w.heap.size + 1) w.heap.size 1 (BSet.new 3) ∧ Below w.heap.size w w' := new_any w.heap.size 3 (by decide) w (Nat.le_refl _)
theorem BitsDid.took {n₀ : Nat} {w : World} {D g cap : Nat} {s : BSet} (h : BitsAt n₀ w D g cap s) {v : Value} (hv : takeRes s.n s.next = v) : Calls Tryd.prog 16 #[.pointer (some ⟨D, 0, none⟩)] w (BitsDid n₀ D g cap s.take v w) := by
  subst hv; exact take_any h
theorem BitsDid.freed {n₀ : Nat} {w : World} {D g cap : Nat} {s : BSet} (h : BitsAt n₀ w D g cap s) {b : Bool} (hv : s.hasB 0 = b) : Calls Tryd.prog 12 #[.pointer (some ⟨D, 0, none⟩), .int .i64 0] w (BitsDid n₀ D g cap (s.clearI 0) (.bool b) w) := by
  subst hv; exact clear_any h 0
set_option maxHeartbeats 2000000 in
theorem awake07 (w : World) : Calls Tryd.prog 7 #[] w fun e w' => e = .returned (.bool true) ∧ Below w.heap.size w w' := by
  go_enter Tryd.func7, Tryd.ntmps7
  go_wp2_with (first
    | (go_at_call 5; (with_reducible refine (new3 _).mono ?_); rintro e w1 ⟨rfl, hb1, hw1⟩; have H1 := Lib.hid (BitsDid.took hb1 aw1); have HW := Lib.hid hw1; clear hb1 hw1)
    | (go_at_call 16; (with_reducible refine H1.out.mono ?_); rintro e w2 ⟨rfl, hb2, hm2⟩; have H2 := Lib.hid (BitsDid.took hb2 aw2); have HM2 := Lib.hid hm2; clear H1 hb2 hm2)
    | (go_at_call 16; (with_reducible refine H2.out.mono ?_); rintro e w3 ⟨rfl, hb3, hm3⟩; have H3 := Lib.hid (BitsDid.freed hb3 aw3); have HM3 := Lib.hid hm3; clear H2 hb3 hm3)
    | (go_at_call 12; (with_reducible refine H3.out.mono ?_); rintro e w4 ⟨rfl, hb4, hm4⟩; have H4 := Lib.hid (BitsDid.took hb4 aw4); have HM4 := Lib.hid hm4; clear H3 hb4 hm4)
    | (go_at_call 16; (with_reducible refine H4.out.mono ?_); rintro e w5 ⟨rfl, hb5, hm5⟩; have H5 := Lib.hid (BitsDid.took hb5 aw5); have HM5 := Lib.hid hm5; clear H4 hb5 hm5)
    | (go_at_call 16; (with_reducible refine H5.out.mono ?_); rintro e w6 ⟨rfl, hb6, hm6⟩; have H6 := Lib.hid (BitsDid.took hb6 aw6); have HM6 := Lib.hid hm6; clear H5 hb6 hm6)
    | (go_at_call 16; (with_reducible refine H6.out.mono ?_); rintro e w7 ⟨rfl, hb7, hm7⟩; have HM7 := Lib.hid hm7; clear H6 hb7 hm7))
  go_ret
  have hm := ((((HM2.out.trans HM3.out (fun _ _ h => h)).trans HM4.out (fun _ _ h => h)).trans HM5.out (fun _ _ h => h)).trans HM6.out (fun _ _ h => h)).trans HM7.out (fun _ _ h => h)
  exact ⟨rfl, HW.out.trans (hm.below (fun i hi => by omega) HW.out.size)⟩
end Go.Proofs.YtpljbjceokoeiaaDoor

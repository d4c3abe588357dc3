/-
  flash: Rot.
  Conditions: none.
-/
import Derived.Test.YtadglpnmhpmebaaFlash7
namespace Go.Proofs.Ytadglpnmhpmebaa
open Go.RowKit

theorem own_set {w : World} {base g i : Nat} {n cap : Nat} {bs : List (BitVec 8)} (h : w.ownsRow base 5 1 (.slice (some ⟨g, 0, none⟩) n cap) n (cellsOf bs)) (x : BitVec 8) : (w.setCell ⟨g, i, none⟩ (.int .u8 (U x))).ownsRow base 5 1 (.slice (some ⟨g, 0, none⟩) n cap) n (cellsOf (bs.set i x)) := by
  obtain ⟨h1, h2⟩ := h
  rcases h2 with ⟨h2, _⟩ | ⟨g', cap', cur, hv, hb, hg, hn, hc, hs, ht⟩
  · cases h2
  · simp only [Value.slice.injEq, Option.some.injEq, Addr.mk.injEq] at hv
    obtain ⟨⟨rfl, _⟩, _, rfl⟩ := hv
    refine ⟨by rw [cellsOf_len, List.length_set, ← cellsOf_len]; exact h1, .inr ⟨g, cap, _, rfl, hb, blk_set hg i _, hn, hc, by rw [Array.size_setIfInBounds]; exact hs, ?_⟩⟩
    rw [Array.toList_setIfInBounds, List.take_set, ht]
    simp [cellsOf, List.map_set]

def rotErr (d : Dev) (at_ byteAt : Int) : Int := if (0 ≤ at_ ∧ at_ < d.sectors) ∧ 0 ≤ byteAt ∧ byteAt < d.size then 0 else 2
def Dev.rot (d : Dev) (at_ byteAt : Int) (mask : BitVec 8) : Dev :=
  if (0 ≤ at_ ∧ at_ < d.sectors) ∧ 0 ≤ byteAt ∧ byteAt < d.size then d.put at_.toNat ((d.fast at_.toNat).set byteAt.toNat ((d.fast at_.toNat)[byteAt.toNat]?.getD 0 ^^^ mask)) else d
/-- What a call leaves of a device. -/
def DevLeft (n₀ : Nat) (O : Foot) (w : World) (D : Nat) (d : Dev) (r : Value) (e : Ending) (w' : World) : Prop := e = .returned r ∧ ∃ O', DevAt n₀ O' w' D d ∧ Step O O' w w'

set_option maxHeartbeats 2000000 in
/-- Rot of a place that the device lacks. -/
theorem rot_out (n₀ : Nat) (O : Foot) (w : World) (D : Nat) (d : Dev) (h : DevAt n₀ O w D d) (at_ byteAt : Int) (mask : BitVec 8) (hout : ¬((0 ≤ at_ ∧ at_ < d.sectors) ∧ 0 ≤ byteAt ∧ byteAt < d.size)) :
    Calls Try.prog 19 #[.pointer (some ⟨D, 0, none⟩), .int .i64 at_, .int .i64 byteAt, .int .u8 (U mask)] w (DevLeft n₀ O w D (d.rot at_ byteAt mask) (.int .i64 (rotErr d at_ byteAt))) := by
  have h0 := h
  obtain ⟨F, P, L, lv, fm, pm, lm, h⟩ := h
  have hh := fhas_any h.blk at_
  have c1 : w.cell? ⟨D, 1, none⟩ = some (.int .i64 d.size) := blk_cell h.blk 1
  by_cases hin : 0 ≤ at_ ∧ at_ < d.sectors
  · have e : decide (0 ≤ at_ ∧ at_ < (d.sectors : Int)) = true := by simpa using hin
    rw [e] at hh
    by_cases hb0 : byteAt < 0
    · have hd : d.rot at_ byteAt mask = d := by unfold Dev.rot; rw [if_neg (by omega)]
      have he : rotErr d at_ byteAt = 2 := by unfold rotErr; rw [if_neg (by omega)]
      have HH := Lib.hid hh
      rw [hd, he]
      clear h hh hd he hin e hout
      go_enter Try.func19, Try.ntmps19
      go_wp2_with (go_at_call 42; (with_reducible refine HH.out.mono ?_); rintro e w' ⟨rfl, rfl⟩)
      go_ret
      exact ⟨rfl, O, h0, Step.refl _ _⟩
    · have hb1 : 0 ≤ byteAt := by omega
      by_cases hb2 : byteAt < d.size
      · exact absurd ⟨hin, hb1, hb2⟩ hout
      · have hd : d.rot at_ byteAt mask = d := by unfold Dev.rot; rw [if_neg (by omega)]
        have he : rotErr d at_ byteAt = 2 := by unfold rotErr; rw [if_neg (by omega)]
        have HH := Lib.hid hh
        have hb3 : (d.size : Int) ≤ byteAt := by omega
        rw [hd, he]
        clear h hh hd he hin e hout hb2 hb0
        go_enter Try.func19, Try.ntmps19
        go_wp2_with (go_at_call 42; (with_reducible refine HH.out.mono ?_); rintro e w' ⟨rfl, rfl⟩)
        go_ret
        exact ⟨rfl, O, h0, Step.refl _ _⟩
  · have e : decide (0 ≤ at_ ∧ at_ < (d.sectors : Int)) = false := by simpa using hin
    rw [e] at hh
    have hd : d.rot at_ byteAt mask = d := by unfold Dev.rot; rw [if_neg (fun hc => hin hc.1)]
    have he : rotErr d at_ byteAt = 2 := by unfold rotErr; rw [if_neg (fun hc => hin hc.1)]
    have HH := Lib.hid hh
    rw [hd, he]
    clear h hh hd he hin e hout
    go_enter Try.func19, Try.ntmps19
    go_wp2_with (go_at_call 42; (with_reducible refine HH.out.mono ?_); rintro e w' ⟨rfl, rfl⟩)
    go_ret
    exact ⟨rfl, O, h0, Step.refl _ _⟩

theorem rot_cell {w : World} {base g n cap i : Nat} {bs : List (BitVec 8)} (h : w.ownsRow base 5 1 (.slice (some ⟨g, 0, none⟩) n cap) n (cellsOf bs)) (hi : i < n) (hl : bs.length = n) : w.cell? ⟨g, i, none⟩ = some (.int .u8 (U (bs[i]?.getD 0))) := by
  have hc : (cellsOf bs)[i]? = some (.int .u8 (U (bs[i]?.getD 0))) := by
    have hi2 : i < bs.length := by omega
    simp [cellsOf, hi2]
  have q := h.cells rfl _ _ hc
  by_cases h0 : i = 0
  · subst h0; simpa [Addr.add] using q
  · simpa [Addr.add, h0] using q
theorem rot_free {w : World} {base g n cap size : Nat} {t : TypeId} {cs : List Value} (h : w.ownsRow base t size (.slice (some ⟨g, 0, none⟩) n cap) n cs) (i : Nat) : w.frozen? ⟨g, i, none⟩ = false := by
  rcases h.2 with ⟨h2, _⟩ | ⟨g', cap', cur, hv, _, hg, _⟩
  · cases h2
  · simp only [Value.slice.injEq, Option.some.injEq, Addr.mk.injEq] at hv
    obtain ⟨⟨rfl, _⟩, _⟩ := hv
    exact blk_frozen hg i
/-- The turned row given back to the device. -/
theorem rot_set {n₀ : Nat} {O : Foot} {w w1 : World} {D : Nat} {d : Dev} (h : DevAt n₀ O w D d) {k g cap i : Nat} {bs : List (BitVec 8)} (hrow : w1.ownsRow w.heap.size 5 1 (.slice (some ⟨g, 0, none⟩) d.size cap) d.size (cellsOf bs)) (hb : Below w.heap.size w w1) (hk : k < d.sectors) (hlen : bs.length = d.size) (hn : n₀ ≤ w.heap.size) (hin : Foot.In O w) (hlo : ∀ k, O k → n₀ ≤ k) {x : BitVec 8} {u : Int} (hu : u = U x) :
    Calls Try.prog 34 #[.pointer (some ⟨D, 0, none⟩), .int .i64 k, .slice (some ⟨g, 0, none⟩) d.size cap] (w1.setCell ⟨g, i, none⟩ (.int .u8 u)) fun e w' => e = .returned (.tuple #[]) ∧ ∃ O', DevAt n₀ O' w' D (d.put k (bs.set i x)) ∧ Step O O' w w' := by
  subst hu
  have hrow2 := own_set (i := i) hrow x
  have hg : w.heap.size ≤ g := by
    rcases hrow.2 with ⟨h2, _⟩ | ⟨g', cap', cur, hv, hb, _⟩
    · cases h2
    · simp only [Value.slice.injEq, Option.some.injEq, Addr.mk.injEq] at hv
      omega
  have hb2 : Below w.heap.size w (w1.setCell ⟨g, i, none⟩ (.int .u8 (U x))) := hb.setCell hg _
  have hd := h.keep (Same.of_below hb2 hin)
  generalize hw2 : w1.setCell ⟨g, i, none⟩ (.int .u8 (U x)) = w2 at *
  have hsz := hb2.size
  have hd2 := hd.widen (Q := fun j => O j ∨ (w.heap.size ≤ j ∧ j < w2.heap.size)) (fun _ h => .inl h) (fun j hj => hj.elim (fun h => by have := hin j h; omega) (fun h => h.2)) (fun j hj => hj.elim (hlo j) (fun h => by omega))
  have hl2 : (bs.set i x).length = d.size := by rw [List.length_set]; exact hlen
  have hbi : BytesIn (fun j => O j ∨ (w.heap.size ≤ j ∧ j < w2.heap.size)) w2 (.slice (some ⟨g, 0, none⟩) d.size cap) (bs.set i x) := by
    refine BytesIn.of_owns (base := w.heap.size) ?_ (fun j h1 h2 => .inr ⟨h1, h2⟩)
    rw [hl2]; exact hrow2
  refine (setFast_any n₀ _ w2 D d hd2 k hk _ _ hbi hl2).mono ?_
  rintro e w' ⟨he, h3, h4⟩
  refine ⟨he, _, h3, ⟨?_, ?_⟩⟩
  · exact (Moves.of_below (S := O) hb2).trans h4.moves (fun i hi h => h.elim id (fun h => by omega))
  · intro j hj
    exact hj.imp id (fun h => h.1)

set_option maxHeartbeats 2000000 in
/-- Rot of a place that the device has. -/
theorem rot_in (n₀ : Nat) (O : Foot) (w : World) (D : Nat) (d : Dev) (h : DevAt n₀ O w D d) (k i : Nat) (mask : BitVec 8) (hn : n₀ ≤ w.heap.size) (hk : k < d.sectors) (hi : i < d.size) :
    Calls Try.prog 19 #[.pointer (some ⟨D, 0, none⟩), .int .i64 k, .int .i64 i, .int .u8 (U mask)] w (DevLeft n₀ O w D (d.put k ((d.fast k).set i ((d.fast k)[i]?.getD 0 ^^^ mask))) (.int .i64 0)) := by
  have hfb := fastBytes_any n₀ O w D d h k hk
  obtain ⟨y, hy⟩ : ∃ y, (d.fast k)[i]?.getD 0 = y := ⟨_, rfl⟩
  rw [hy]
  have HY := Lib.hid hy
  clear hy
  have h0 := Lib.hid h
  obtain ⟨F, P, L, lv, fm, pm, lm, h⟩ := h
  have hh := fhas_any h.blk (k : Int)
  have e : decide (0 ≤ (k : Int) ∧ (k : Int) < (d.sectors : Int)) = true := by simpa using hk
  rw [e] at hh
  have c1 : w.cell? ⟨D, 1, none⟩ = some (.int .i64 d.size) := blk_cell h.blk 1
  have hlen := h.len k
  have hsz := h.right.2
  have HH := Lib.hid hh
  have HFB := Lib.hid hfb
  have HX := Lib.hid (xor_u8 y mask)
  have s4 : (d.size : Int) ≤ 512 := by omega
  have i0 : (0 : Int) ≤ i := by omega
  have i1 : (i : Int) < d.size := by omega
  have HIN := Lib.hid h.inn
  have HLO := Lib.hid h.lo
  have hl0 : 0 < d.size := by omega
  clear h hh e hfb
  go_enter Try.func19, Try.ntmps19
  go_wp2_with (first
    | (go_at_call 42; (with_reducible refine HH.out.mono ?_); rintro e w' ⟨rfl, rfl⟩)
    | (go_at_call 39; (with_reducible refine HFB.out.mono ?_); rintro e w1 ⟨v, rfl, hrow, hbel⟩; obtain ⟨g, cap, rfl, _⟩ := slice_cells hrow hl0; have q0 : w1.cell? ⟨g, i, none⟩ = some (.int .u8 (U y)) := (rot_cell hrow hi hlen).trans (by rw [HY.out]); have q1 : w1.frozen? ⟨g, i, none⟩ = false := rot_free hrow i; have HSET := Lib.hid (rot_set (i := i) h0.out hrow hbel hk hlen hn HIN.out HLO.out (x := y ^^^ mask) HX.out); clear hrow hbel)
    | (go_at_call 34; (with_reducible refine HSET.out.mono ?_); rintro e w2 ⟨rfl, O', hd2, hs2⟩))
  go_ret
  exact ⟨rfl, O', hd2, hs2⟩

theorem rot_any (n₀ : Nat) (O : Foot) (w : World) (D : Nat) (d : Dev) (h : DevAt n₀ O w D d) (at_ byteAt : Int) (mask : BitVec 8) (hn : n₀ ≤ w.heap.size) :
    Calls Try.prog 19 #[.pointer (some ⟨D, 0, none⟩), .int .i64 at_, .int .i64 byteAt, .int .u8 (U mask)] w (DevLeft n₀ O w D (d.rot at_ byteAt mask) (.int .i64 (rotErr d at_ byteAt))) := by
  by_cases hin : (0 ≤ at_ ∧ at_ < d.sectors) ∧ 0 ≤ byteAt ∧ byteAt < d.size
  · have hd : d.rot at_ byteAt mask = d.put at_.toNat ((d.fast at_.toNat).set byteAt.toNat ((d.fast at_.toNat)[byteAt.toNat]?.getD 0 ^^^ mask)) := by unfold Dev.rot; rw [if_pos hin]
    have he : rotErr d at_ byteAt = 0 := by unfold rotErr; rw [if_pos hin]
    rw [hd, he]
    obtain ⟨k, rfl⟩ := Int.eq_ofNat_of_zero_le hin.1.1
    obtain ⟨i, rfl⟩ := Int.eq_ofNat_of_zero_le hin.2.1
    exact rot_in n₀ O w D d h k i mask hn (by omega) (by omega)
  · exact rot_out n₀ O w D d h at_ byteAt mask hin

end Go.Proofs.Ytadglpnmhpmebaa

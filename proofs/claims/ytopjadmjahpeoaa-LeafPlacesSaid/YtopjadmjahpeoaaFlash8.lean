/-
  flash: Rot.
  Conditions: none.
-/
import Derived.Test.YtopjadmjahpeoaaFlash7
namespace Go.Proofs.Ytopjadmjahpeoaa
open Go.RowKit

theorem own_set {w : World} {base g i : Nat} {n cap : Nat} {bs : List (BitVec 8)} (h : w.ownsRow base 5 1 (.slice (some ⟨g, 0, none⟩) n cap) n (cellsOf bs)) (x : BitVec 8) : (w.setCell ⟨g, i, none⟩ (.int .u8 (U x))).ownsRow base 5 1 (.slice (some ⟨g, 0, none⟩) n cap) n (cellsOf (bs.set i x)) := by
  obtain ⟨h1, h2⟩ := h
  rcases h2 with ⟨h2, _⟩ | ⟨g', cap', cur, hv, hb, hg, hn, hc, hs, ht⟩
  · cases h2
  · simp only [Value.slice.injEq, Option.some.injEq, Addr.mk.injEq] at hv
    obtain ⟨⟨rfl, _⟩, _, rfl⟩ := hv
    refine ⟨by rw [cellsOf_len, List.length_set, ← cellsOf_len]; exact h1, .inr ⟨g, cap, _, rfl, hb, blk_set hg i _, hn, hc, by rw [Array.size_setIfInBounds]; exact hs, ?_⟩⟩
    rw [Array.toList_setIfInBounds, List.take_set, ht]
    simp [cellsOf, List.map_set]

def rotErr (d : Dev) (at_ byteAt : Int) : Int := if (0 ≤ at_ ∧ at_ < d.sectors) ∧ 0 ≤ byteAt ∧ byteAt < d.size then 0 else 2
def Dev.rot (d : Dev) (at_ byteAt : Int) (mask : BitVec 8) : Dev :=
  if (0 ≤ at_ ∧ at_ < d.sectors) ∧ 0 ≤ byteAt ∧ byteAt < d.size then d.put at_.toNat ((d.fast at_.toNat).set byteAt.toNat ((d.fast at_.toNat)[byteAt.toNat]?.getD 0 ^^^ mask)) else d
/-- What a call leaves of a device. -/
def DevLeft (n₀ : Nat) (O : Foot) (w : World) (D : Nat) (d : Dev) (r : Value) (e : Ending) (w' : World) : Prop := e = .returned r ∧ ∃ O', DevAt n₀ O' w' D d ∧ Step O O' w w'

theorem rot_cell {w : World} {base g n cap i : Nat} {bs : List (BitVec 8)} (h : w.ownsRow base 5 1 (.slice (some ⟨g, 0, none⟩) n cap) n (cellsOf bs)) (hi : i < n) (hl : bs.length = n) : w.cell? ⟨g, i, none⟩ = some (.int .u8 (U (bs[i]?.getD 0))) := by
  have hc : (cellsOf bs)[i]? = some (.int .u8 (U (bs[i]?.getD 0))) := by
    have hi2 : i < bs.length := by omega
    simp [cellsOf, hi2]
  have q := h.cells rfl _ _ hc
  by_cases h0 : i = 0
  · subst h0; simpa [Addr.add] using q
  · simpa [Addr.add, h0] using q
theorem rot_free {w : World} {base g n cap size : Nat} {t : TypeId} {cs : List Value} (h : w.ownsRow base t size (.slice (some ⟨g, 0, none⟩) n cap) n cs) (i : Nat) : w.frozen? ⟨g, i, none⟩ = false := by
  rcases h.2 with ⟨h2, _⟩ | ⟨g', cap', cur, hv, _, hg, _⟩
  · cases h2
  · simp only [Value.slice.injEq, Option.some.injEq, Addr.mk.injEq] at hv
    obtain ⟨⟨rfl, _⟩, _⟩ := hv
    exact blk_frozen hg i
/-- The turned row given back to the device. -/
theorem rot_set {n₀ : Nat} {O : Foot} {w w1 : World} {D : Nat} {d : Dev} (h : DevAt n₀ O w D d) {k g cap i : Nat} {bs : List (BitVec 8)} (hrow : w1.ownsRow w.heap.size 5 1 (.slice (some ⟨g, 0, none⟩) d.size cap) d.size (cellsOf bs)) (hb : Below w.heap.size w w1) (hk : k < d.sectors) (hlen : bs.length = d.size) (hn : n₀ ≤ w.heap.size) (hin : Foot.In O w) (hlo : ∀ k, O k → n₀ ≤ k) {x : BitVec 8} {u : Int} (hu : u = U x) :
    Calls Try.prog 42 #[.pointer (some ⟨D, 0, none⟩), .int .i64 k, .slice (some ⟨g, 0, none⟩) d.size cap] (w1.setCell ⟨g, i, none⟩ (.int .u8 u)) fun e w' => e = .returned (.tuple #[]) ∧ ∃ O', DevAt n₀ O' w' D (d.put k (bs.set i x)) ∧ Step O O' w w' := by
  subst hu
  have hrow2 := own_set (i := i) hrow x
  have hg : w.heap.size ≤ g := by
    rcases hrow.2 with ⟨h2, _⟩ | ⟨g', cap', cur, hv, hb, _⟩
    · cases h2
    · simp only [Value.slice.injEq, Option.some.injEq, Addr.mk.injEq] at hv
      omega
  have hb2 : Below w.heap.size w (w1.setCell ⟨g, i, none⟩ (.int .u8 (U x))) := hb.setCell hg _
  have hd := h.keep (Same.of_below hb2 hin)
  generalize hw2 : w1.setCell ⟨g, i, none⟩ (.int .u8 (U x)) = w2 at *
  have hsz := hb2.size
  have hd2 := hd.widen (Q := fun j => O j ∨ (w.heap.size ≤ j ∧ j < w2.heap.size)) (fun _ h => .inl h) (fun j hj => hj.elim (fun h => by have := hin j h; omega) (fun h => h.2)) (fun j hj => hj.elim (hlo j) (fun h => by omega))
  have hl2 : (bs.set i x).length = d.size := by rw [List.length_set]; exact hlen
  have hbi : BytesIn (fun j => O j ∨ (w.heap.size ≤ j ∧ j < w2.heap.size)) w2 (.slice (some ⟨g, 0, none⟩) d.size cap) (bs.set i x) := by
    refine BytesIn.of_owns (base := w.heap.size) ?_ (fun j h1 h2 => .inr ⟨h1, h2⟩)
    rw [hl2]; exact hrow2
  refine (setFast_any n₀ _ w2 D d hd2 k hk _ _ hbi hl2).mono ?_
  rintro e w' ⟨he, h3, h4⟩
  refine ⟨he, _, h3, ⟨?_, ?_⟩⟩
  · exact (Moves.of_below (S := O) hb2).trans h4.moves (fun i hi h => h.elim id (fun h => by omega))
  · intro j hj
    exact hj.imp id (fun h => h.1)

end Go.Proofs.Ytopjadmjahpeoaa

/-
  A writer's calls leave whatever is no row of bytes.
  Conditions: none.
-/
import Derived.Test.YtgaabclgoolalaaWr
namespace Go.Proofs.Ytgaabclgoolalaa
open Go.RowKit

/-- All but a writer, and rows of bytes, stays. -/
def WStay (R : Nat) (W W' : World) : Prop := W.heap.size ≤ W'.heap.size ∧ ∀ (k : Nat) (o : Obj), W.heap[k]? = some o → k ≠ R → (∀ cs sp, o ≠ .cells cs 5 sp) → W'.heap[k]? = some o
theorem WStay.refl (R : Nat) (W : World) : WStay R W W := ⟨Nat.le_refl _, fun _ _ h _ _ => h⟩
theorem WStay.trans {R : Nat} {A B C : World} (h : WStay R A B) (h' : WStay R B C) : WStay R A C := ⟨Nat.le_trans h.1 h'.1, fun k o ho hk hc => h'.2 k o (h.2 k o ho hk hc) hk hc⟩
theorem WStay.of_below {R : Nat} {A B : World} (h : Below A.heap.size A B) : WStay R A B := ⟨h.size, fun k _ ho _ _ => (h.block k (Array.getElem?_eq_some_iff.1 ho).1).trans ho⟩
theorem WStay.blk {R : Nat} {A B : World} (h : WStay R A B) {k : Nat} {cs : Array Value} {t : TypeId} {sp : Nat × Nat} (hk : A.heap[k]? = some (.cells cs t sp)) (hr : k ≠ R) (ht : t ≠ 5) : B.heap[k]? = some (.cells cs t sp) :=
  h.2 k _ hk hr (fun _ _ e => by cases e; exact ht rfl)
theorem own_cellsW {W : World} {b : Nat} {e : TypeId} {sz : Nat} {v : Value} {n : Nat} {xs : List Value} (h : W.ownsRow b e sz v n xs) {k : Nat} (hk : v.ownBlock = some k) : ∃ cs sp, W.heap[k]? = some (.cells cs e sp) := by
  rcases h.2 with ⟨rfl, _⟩ | ⟨g, cap, cur, rfl, _, hg, _⟩
  · simp [Value.ownBlock] at hk
  · obtain rfl : g = k := by simpa [Value.ownBlock] using hk
    exact ⟨_, _, hg⟩
/-- What a call of a writer with room leaves, and what stays. -/
def WrtS (w : World) (row : List (BitVec 8)) (limit : Int) (W : World) (e : Ending) (W' : World) : Prop := Wrt w row limit e W' ∧ WStay w.heap.size W W'
theorem WrAt.putS {w W W' : World} {v : Value} {row bs : List (BitVec 8)} {limit : Int} {e : Ending} (h : WriterAt w.heap.size W w.heap.size v row limit false) (hb : Below w.heap.size w W) (hl : (row ++ bs).length ≤ limit) (hw : Wrote w.heap.size w.heap.size v row limit false (some bs) W e W') : WrtS w (row ++ bs) limit W e W' := by
  refine ⟨WrAt.put h hb hl hw, ?_⟩
  obtain ⟨_, v', _, h2⟩ := hw
  have hm := h2.moves
  refine ⟨hm.size, fun k o ho hk hc => (hm.block k (Array.getElem?_eq_some_iff.1 ho).1 (fun hs => ?_)).trans ho⟩
  rcases hs with hs | hs
  · exact hk hs
  · obtain ⟨cs, sp, h3⟩ := own_cellsW h.own hs
    rw [ho] at h3
    cases h3
    exact hc _ _ rfl
theorem WrAt.numS {w W : World} {row : List (BitVec 8)} {limit : Int} (h : WrAt w row limit W) (x : BitVec 64) (k : Nat) (hk : mayB k = true) (hl : (row.length : Int) + k ≤ limit) (hL : limit ≤ 549755813888) :
    Calls Try.prog 26 #[.pointer (some ⟨w.heap.size, 0, none⟩), .int .u64 (U x), .int .i64 k] W (WrtS w (row ++ leB k x) limit W) := by
  obtain ⟨v, h1, h2, h3⟩ := h
  refine (number_any w.heap.size w.heap.size v row limit false x k W h1 (by omega) (by omega) (by omega) h2.size).mono ?_
  intro e w' hw
  have e1 : numB x k = some (leB k x) := by unfold numB; rw [if_pos hk]; rfl
  rw [e1] at hw
  exact WrAt.putS h1 h2 (by rw [List.length_append, leB_len]; omega) hw
theorem WrAt.numIS {w W : World} {row : List (BitVec 8)} {limit : Int} (h : WrAt w row limit W) (i k : Int) (h0 : 0 ≤ i) (h1 : i < 18446744073709551616) (hk : mayB k = true) (hl : (row.length : Int) + k ≤ limit) (hL : limit ≤ 549755813888) :
    Calls Try.prog 26 #[.pointer (some ⟨w.heap.size, 0, none⟩), .int .u64 i, .int .i64 k] W (WrtS w (row ++ leI k i) limit W) := by
  have hk0 : 0 ≤ k := by
    have : k = 1 ∨ k = 2 ∨ k = 4 ∨ k = 8 := by simpa [mayB] using hk
    omega
  obtain ⟨n, rfl⟩ := Int.eq_ofNat_of_zero_le hk0
  obtain ⟨x, rfl⟩ : ∃ x : BitVec 64, i = U x := U_mk h0 h1
  have := h.numS x n hk hl hL
  unfold leI
  rw [ofInt_U]
  exact this
theorem wrapU64 {i : Int} (h0 : 0 ≤ i) (h1 : i < 18446744073709551616) : IntKind.u64.wrap i = i := by
  simp [IntKind.wrap, IntKind.bits, IntKind.signed]; omega
end Go.Proofs.Ytgaabclgoolalaa

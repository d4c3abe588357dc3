/-
  A writer without a limit, in a block that is told.
  Conditions: none.
-/
import Derived.Test.YtgaabclgoolalaaWrS
namespace Go.Proofs.Ytgaabclgoolalaa
open Go.RowKit

/-- A writer without a limit stands in block B, with these bytes; what it owns lies from n₀ on. -/
def WM (n₀ B : Nat) (row : List (BitVec 8)) (W : World) : Prop := ∃ v, WriterAt n₀ W B v row 9223372036854775807 false ∧ n₀ ≤ W.heap.size ∧ n₀ ≤ B
theorem WM.on {n₀ B : Nat} {row : List (BitVec 8)} {W W' : World} (h : WM n₀ B row W) (hb : Below W.heap.size W W') : WM n₀ B row W' := by
  obtain ⟨v, h1, h2, h3⟩ := h
  exact ⟨v, h1.below hb, Nat.le_trans h2 hb.size, h3⟩
theorem WM.size {n₀ B : Nat} {row : List (BitVec 8)} {W : World} (h : WM n₀ B row W) : n₀ ≤ W.heap.size := by obtain ⟨_, _, h, _⟩ := h; exact h
theorem WM.new (n₀ : Nat) (w : World) (h : n₀ ≤ w.heap.size) : WM n₀ w.heap.size [] (w.alloc (.cells #[.slice none 0 0, .int .i64 9223372036854775807, .bool false] 81)) :=
  ⟨.slice none 0 0, ⟨heap_alloc_new _ _, World.ownsRow_nil _ _ _ _⟩, by simp; omega, h⟩
/-- What a call of it leaves. -/
def WmRet (n₀ B : Nat) (row : List (BitVec 8)) (W : World) (e : Ending) (W' : World) : Prop := e = .returned (.tuple #[]) ∧ WM n₀ B row W' ∧ WStay B W W' ∧ Below n₀ W W'
theorem WM.put {n₀ B : Nat} {W W' : World} {v : Value} {row bs : List (BitVec 8)} {e : Ending} (h : WriterAt n₀ W B v row 9223372036854775807 false) (hn : n₀ ≤ W.heap.size) (hB : n₀ ≤ B) (hl : row.length + bs.length ≤ 9000000000000) (hw : Wrote n₀ B v row 9223372036854775807 false (some bs) W e W') : WmRet n₀ B (row ++ bs) W e W' := by
  obtain ⟨he, v', h1, h2⟩ := hw
  have e2 : wRow row 9223372036854775807 false (some bs) = row ++ bs := by
    show (if false = true ∨ (9223372036854775807 : Int) < row.length + bs.length then row else row ++ bs) = _
    rw [if_neg (by simp; omega)]
  have e3 : wFull row 9223372036854775807 false (some bs) = false := by
    show (false || decide ((9223372036854775807 : Int) < row.length + bs.length)) = _
    rw [Bool.false_or, decide_eq_false_iff_not]; omega
  rw [e2, e3] at h1
  have hm := h2.moves
  have hb : Below n₀ W W' := hm.below (fun i hi => by
    rcases hi with rfl | hi
    · exact hB
    · exact (h.own.lt i hi).1) hn
  refine ⟨he, ⟨v', h1, Nat.le_trans hn hb.size, hB⟩, ⟨hm.size, fun k o ho hk hc => (hm.block k (Array.getElem?_eq_some_iff.1 ho).1 (fun hs => ?_)).trans ho⟩, hb⟩
  rcases hs with hs | hs
  · exact hk hs
  · obtain ⟨cs, sp, h3⟩ := own_cellsW h.own hs
    rw [ho] at h3
    cases h3
    exact hc _ _ rfl
theorem WM.num {n₀ B : Nat} {row : List (BitVec 8)} {W : World} (h : WM n₀ B row W) (x : BitVec 64) (k : Nat) (hk : mayB k = true) (hl : row.length ≤ 549755813888) :
    Calls Try.prog 26 #[.pointer (some ⟨B, 0, none⟩), .int .u64 (U x), .int .i64 k] W (WmRet n₀ B (row ++ leB k x) W) := by
  obtain ⟨v, h1, h2, h3⟩ := h
  refine (number_any n₀ B v row 9223372036854775807 false x k W h1 (by omega) (by omega) hl h2).mono ?_
  intro e w' hw
  have e1 : numB x k = some (leB k x) := by unfold numB; rw [if_pos hk]; rfl
  rw [e1] at hw
  have hk8 : (k : Int) = 1 ∨ (k : Int) = 2 ∨ (k : Int) = 4 ∨ (k : Int) = 8 := by simpa [mayB] using hk
  exact WM.put h1 h2 h3 (by rw [leB_len]; omega) hw
/-- A text's bytes. -/
def txt (bs : List (BitVec 8)) : List (BitVec 8) := leB 2 (BitVec.ofNat 64 bs.length) ++ bs
theorem txt_len (bs : List (BitVec 8)) : (txt bs).length = 2 + bs.length := by simp [txt, leB_len]
theorem WM.text {n₀ B : Nat} {row : List (BitVec 8)} {W : World} (h : WM n₀ B row W) (u : Value) (bs : List (BitVec 8)) (hu : BytesAt n₀ W u bs) (hs : bs.length ≤ 65535) (hl : row.length ≤ 549755813888) :
    Calls Try.prog 39 #[.pointer (some ⟨B, 0, none⟩), u] W (WmRet n₀ B (row ++ txt bs) W) := by
  obtain ⟨v, h1, h2, h3⟩ := h
  refine (text_any n₀ B v row 9223372036854775807 false u bs W h1 (hu.mono h2) (fun hne k hk hw => ?_) (by omega) (by omega) hl (by omega) h2).mono ?_
  · have := hu.lt hne hk
    rcases hw with rfl | hw
    · omega
    · have := (h1.own.lt k hw).1
      omega
  · intro e w' hw
    have e1 : textB bs = some (txt bs) := by unfold textB; rw [if_pos hs]; rfl
    rw [e1] at hw
    exact WM.put h1 h2 h3 (by rw [txt_len]; omega) hw
theorem WM.take {n₀ B : Nat} {row : List (BitVec 8)} {W : World} (h : WM n₀ B row W) (hl : row.length ≤ 1099511627776) :
    Calls Try.prog 29 #[.pointer (some ⟨B, 0, none⟩)] W fun e W' => ∃ u, e = .returned u ∧ W'.ownsRow W.heap.size 5 1 u row.length (cellsOf row) ∧ Below W.heap.size W W' := by
  obtain ⟨v, h1, h2, h3⟩ := h
  exact bytes_any _ _ _ _ _ _ _ h1 hl
theorem wrapU64_any (i : Int) : IntKind.u64.wrap i = U (BitVec.ofInt 64 i) := by
  unfold U
  rw [BitVec.toNat_ofInt]
  simp [IntKind.wrap, IntKind.bits, IntKind.signed]
  omega
end Go.Proofs.Ytgaabclgoolalaa

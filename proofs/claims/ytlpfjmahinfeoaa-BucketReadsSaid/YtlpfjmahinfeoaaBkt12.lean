/-
  bucket: a bucket's load: loc.Write, Pack.
  Conditions: none.
-/
import Derived.Test.YtlpfjmahinfeoaaBkt11
import Derived.Test.YtlpfjmahinfeoaaWrS
namespace Go.Proofs.Ytlpfjmahinfeoaa
open Go.RowKit Go.Shelf
attribute [local go_sem] Oper.semAt_some

/-- An entry's bytes. -/
def entB (x : Ent) : List (BitVec 8) := leB 8 x.hash ++ (leI 8 x.reg ++ leI 2 x.at_ ++ leI 2 x.size)
theorem entB_len (x : Ent) : (entB x).length = 20 := by
  unfold entB
  simp only [List.length_append, leI_len, leB_len]
  rfl
/-- A bucket's load. -/
def bktB (d p : Int) (es : List Ent) : List (BitVec 8) := leI 1 d ++ leI 1 es.length ++ leI 8 p ++ es.flatMap entB
theorem ents_bytes_len (es : List Ent) : (es.flatMap entB).length = 20 * es.length := by
  induction es with
  | nil => rfl
  | cons x es ih => rw [List.flatMap_cons, List.length_append, ih, entB_len, List.length_cons]; omega
theorem take_flat (es : List Ent) (k : Nat) (hk : k < es.length) : (es.take (k + 1)).flatMap entB = (es.take k).flatMap entB ++ entB (es[k]?.getD default) := by
  rw [List.take_add_one, List.flatMap_append, List.getElem?_eq_getElem hk]
  simp
set_option maxRecDepth 100000 in
set_option maxHeartbeats 2000000 in
theorem locWrite_any {w W : World} {row : List (BitVec 8)} {limit : Int} (h : WrAt w row limit W) (x : Ent) (hx : x.may = true) (hl : (row.length : Int) + 12 ≤ limit) (hL : limit ≤ 549755813888) :
    Calls Try.prog 32 #[.pointer (some ⟨w.heap.size, 0, none⟩), .agg #[.int .i64 x.reg, .int .i64 x.at_, .int .i64 x.size]] W (WrtS w (row ++ (leI 8 x.reg ++ leI 2 x.at_ ++ leI 2 x.size)) limit W) := by
  have hm : _ := of_decide_eq_true (show decide _ = true from hx)
  obtain ⟨⟨r0, r1⟩, ⟨a0, a1⟩, s0, s1⟩ := hm
  obtain ⟨W1, hW1⟩ : ∃ W1, W.alloc (.cells #[.int .i64 x.reg, .int .i64 x.at_, .int .i64 x.size] 48) = W1 := ⟨_, rfl⟩
  have hb1 : Below W.heap.size W W1 := by rw [← hW1]; exact (Below.refl _ _).alloc (Nat.le_refl _) _
  have hg1 : W1.heap[W.heap.size]? = some (.cells #[.int .i64 x.reg, .int .i64 x.at_, .int .i64 x.size] 48 (0, 0)) := by rw [← hW1]; exact heap_alloc_new _ _
  have h1 := h.behind hb1
  have HW1 := Lib.hid hW1
  have u0 : IntKind.u64.wrap x.reg = x.reg := wrapU64 r0 (by omega)
  have u1 : IntKind.u64.wrap x.at_ = x.at_ := wrapU64 a0 (by omega)
  have u2 : IntKind.u64.wrap x.size = x.size := wrapU64 s0 (by omega)
  have hne : W.heap.size ≠ w.heap.size := by
    obtain ⟨v, h2, _⟩ := h
    have := blk_lt h2.blk
    omega
  have c0 : W1.cell? ⟨W.heap.size, 0, none⟩ = some (.int .i64 x.reg) := blk_cell hg1 0
  have HS : Hid (∀ W', WStay w.heap.size W1 W' → W'.cell? ⟨W.heap.size, 1, none⟩ = some (.int .i64 x.at_) ∧ W'.cell? ⟨W.heap.size, 2, none⟩ = some (.int .i64 x.size)) := fun W' hs => by
    have := hs.blk hg1 hne (by decide)
    exact ⟨blk_cell this 1, blk_cell this 2⟩
  have HN1 := Lib.hid (h1.numIS x.reg 8 r0 (by omega) rfl (by omega) hL)
  have HN2 := Lib.hid (fun W' (hw : WrAt w (row ++ leI 8 x.reg) limit W') => hw.numIS x.at_ 2 a0 (by omega) rfl (by rw [List.length_append, leI_len]; simp; omega) hL)
  have HN3 := Lib.hid (fun W' (hw : WrAt w (row ++ leI 8 x.reg ++ leI 2 x.at_) limit W') => hw.numIS x.size 2 s0 (by omega) rfl (by rw [List.length_append, List.length_append, leI_len, leI_len]; simp; omega) hL)
  have HB1 := Lib.hid (WStay.of_below (R := w.heap.size) hb1)
  clear h h1 hb1 hg1 hW1 hne hx hl hL r0 r1 a0 a1 s0 s1
  go_enter Try.func32, Try.ntmps32
  go_upto_region 1 with (fail)
  rw [HW1.out]
  clear HW1
  go_wp2_with (first
    | (go_at_call 30; (with_reducible refine HN1.out.mono ?_); rintro e w2 ⟨⟨rfl, hw2⟩, hs2⟩; have HS2 := Lib.hid hs2; have HN4 := Lib.hid (HN2.out _ hw2); have c1 := (HS.out _ hs2).1; clear hw2 hs2 c0)
    | (go_at_call 30; (with_reducible refine HN4.out.mono ?_); rintro e w3 ⟨⟨rfl, hw3⟩, hs3⟩; have HS3 := Lib.hid (HS2.out.trans hs3); have HN5 := Lib.hid (HN3.out _ hw3); have c2 := (HS.out _ HS3.out).2; clear hw3 hs3 c1)
    | (go_at_call 30; (with_reducible refine HN5.out.mono ?_); rintro e w4 ⟨⟨rfl, hw4⟩, hs4⟩; have HW4 := Lib.hid hw4; have HS4 := Lib.hid (HS3.out.trans hs4); clear hw4 hs4 c2))
  go_end0
  exact ⟨⟨rfl, by have := HW4.out; rw [List.append_assoc, List.append_assoc] at this; rw [List.append_assoc (leI 8 x.reg)]; exact this⟩, HB1.out.trans HS4.out⟩
end Go.Proofs.Ytlpfjmahinfeoaa

/-
  Joined: Str, StrConv.
  Conditions: none.
-/
import Derived.Test.YtadglpnmhpmebaaMem
import Derived.Laws.StructEq
import Derived.Test.YtadglpnmhpmebaaLaw
import Derived.Lib.ConvBytes
import Derived.Laws.AppendOwn
import Derived.Deep.Fields
namespace Go.Proofs.Ytadglpnmhpmebaa
open Go.RowKit

theorem strB_beq (xs ys : List (BitVec 8)) : ((strB xs).toList == (strB ys).toList) = decide (xs = ys) := by
  rw [ByteArray.toList_eq, ByteArray.toList_eq, Bool.eq_iff_iff]
  simp only [beq_iff_eq, decide_eq_true_eq]
  exact ⟨fun h => strB_inj.1 (congrArg ByteArray.mk (Array.toList_inj.1 h)), fun h => by rw [h]⟩
end Go.Proofs.Ytadglpnmhpmebaa
namespace Go.Proofs.Ytadglpnmhpmebaa
open Go.ChangeShapes Go.WideShapes Go.ChangeAt Go.RowKit Go.Deep

theorem strB_surj (s : ByteArray) : ∃ bs, s = strB bs := by
  refine ⟨s.data.toList.map UInt8.toBitVec, ?_⟩
  obtain ⟨⟨l⟩⟩ := s
  unfold strB
  congr 2
  rw [List.map_map]
  exact (List.map_id'' (fun x => rfl) l).symm
theorem bw_below (w : World) (e : TypeId) (s : ByteArray) : Below w.heap.size w (Lib.bytesWorld w e s) :=
  ⟨rfl, rfl, rfl, by rw [Lib.bytesWorld_size]; omega, fun k hk => Lib.bytesWorld_at_old w e s k hk⟩
theorem bw_bytes (w : World) (bs : List (BitVec 8)) : BytesAt (Lib.bytesWorld w 5 (strB bs)).heap.size (Lib.bytesWorld w 5 (strB bs)) (.slice (some ⟨w.heap.size, 0, none⟩) (strB bs).size (grownCap w (strB bs).size 0 5)) bs := by
  refine ⟨_, _, by rw [strB_size], by have := grownCap_ge w (strB bs).size 0 5; rw [strB_size] at this; exact this, fun h => (by cases h), .inr ⟨w.heap.size, 0, rfl, by rw [Lib.bytesWorld_size]; omega, fun j hj => ?_⟩⟩
  rw [Nat.zero_add, Lib.bytesWorld_cell w _ _ j (by rw [strB_size]; exact hj)]
  congr 2
  unfold U
  rw [strB_list]
  simp [List.getD, hj]
/-- The conversion of a string to bytes. -/
theorem conv_bytes (w : World) (s : ByteArray) : (convert 9 42 (.string s)).run Try.prog w = .ok (.slice (some ⟨w.heap.size, 0, none⟩) s.size (grownCap w s.size 0 5)) (Lib.bytesWorld w 5 s) :=
  Lib.run_convert_string_bytes w _ _ _ s Try.underlying9 Try.underlying42 Try.underlying5

section
variable {H : Type} {enc : TypeId × Value → H} {P : Program} {w : World} {base : Nat} {spare : Nat → Bool} {held : Bool}
/-- A struct of one-cell fields, by value: its cells, and what each reads as. -/
theorem open_agg_one {r : Reach} {b0 : Nat} {t : TypeId} {fs : Array Field} {v : Value} {d : DataW H} {p : List MemPlace} (hs : P.underlying t = some (.struct fs)) (hone : oneCellFields P fs = true)
    (hv : Value.okWide P w r b0 t v) (h : DataW.Trod enc P w base spare held t v d p) :
    ∃ (cs : List Value) (n : Nat), v = .agg cs.toArray ∧ cs.length = P.cellsOf t ∧ ∀ (j : Nat) (f : Field) (u : Value), fs[j]? = some f → cs[j]? = some u → ∃ y, DataW.trod enc P w base spare held n f.type [u] = some y := by
  obtain ⟨cs, rfl, hsz⟩ := okWide_struct hs hv
  obtain ⟨l⟩ := cs
  obtain ⟨fuel, hf⟩ := h
  obtain ⟨xs, n, _, hx, _, hlen, hg⟩ := DataW.trod_struct hs hf
  refine ⟨l, n, rfl, hsz, fun j f u hj hu => ?_⟩
  obtain ⟨o, k⟩ := hone_of hone j f hj
  have hjl : j < xs.length := by rw [hlen]; exact (Array.getElem?_eq_some_iff.1 hj).1
  have h1 := hg j f hj
  have hul : j < l.length := (List.getElem?_eq_some_iff.1 hu).1
  have hue : l[j] = u := (List.getElem?_eq_some_iff.1 hu).2
  refine ⟨xs[j], ?_⟩
  rw [o, k] at h1
  have e : ((Value.agg ⟨l⟩).cells.toList.drop j).take 1 = [u] := by
    simp only [Value.cells]
    rw [List.drop_eq_getElem_cons hul, hue]
    rfl
  rw [e] at h1
  rw [h1, List.getElem?_eq_getElem hjl]
end
section
variable {H : Type} {enc : TypeId × Value → H}
def N64 (i : Int) : Prop := -9223372036854775808 ≤ i ∧ i ≤ 9223372036854775807
set_option maxRecDepth 100000 in
theorem int_cellv {W : World} {n : Nat} {u : Value} {y : DataW H × List MemPlace} (h : DataW.trod enc Try.prog W 0 (fun _ => true) true n 3 [u] = some y) : ∃ i, u = .int .i64 i ∧ N64 i := by
  obtain ⟨k, e1, _, hw⟩ := DataW.trod_int Try.underlying3 h
  refine ⟨k, by simpa using e1, ?_⟩
  have := hw
  simp [Lit.wf, IntKind.min, IntKind.max, IntKind.bits, IntKind.signed] at this
  exact ⟨by omega, by omega⟩
set_option maxRecDepth 100000 in
theorem str_cellv {W : World} {n : Nat} {u : Value} {y : DataW H × List MemPlace} (h : DataW.trod enc Try.prog W 0 (fun _ => true) true n 9 [u] = some y) : ∃ bs, u = .string (strB bs) ∧ bs.length ≤ maxLen := by
  obtain ⟨s, e1, _, hw⟩ := DataW.trod_string Try.underlying9 h
  obtain ⟨bs, rfl⟩ := strB_surj s
  exact ⟨bs, by simpa using e1, by rwa [strB_size] at hw⟩
end
end Go.Proofs.Ytadglpnmhpmebaa

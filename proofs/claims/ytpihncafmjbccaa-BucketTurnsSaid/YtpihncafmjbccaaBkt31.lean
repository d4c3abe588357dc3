/-
  What BucketTurns needs beside the contracts.
  Conditions: none.
-/
import Derived.Test.YtpihncafmjbccaaBkt28
import Derived.Test.YtpihncafmjbccaaBkt29
import Derived.Test.YtpihncafmjbccaaBkt30
import Derived.Test.YtpihncafmjbccaaOpenBkt
import Derived.Test.YtpihncafmjbccaaRightCall
namespace Go.Proofs.Ytpihncafmjbccaa
open Go.ChangeShapes Go.WideShapes Go.ChangeAt Go.RowKit Go.Deep

section
variable {H : Type} {enc : TypeId × Value → H}
set_option maxRecDepth 100000 in
theorem ents_nilS {W : World} {fuel : Nat} {v : Value} {y : DataW H × List MemPlace} (h : DataW.trod enc Try.prog W 0 (fun _ => true) true fuel 22 [v] = some y) : NilS v := by
  obtain ⟨a, len, cap, rfl, hl, hm, ha, hr⟩ := structs_cell Try.underlying22 Try.underlying27 (by kernel_rfl) (by kernel_rfl) (by decide) h
  intro m c e
  cases e
  have := ha rfl
  omega
set_option maxRecDepth 100000 in
theorem open_bkt2 {W : World} {base : Nat} {v : Value} {d : DataW H} {p : List MemPlace} (o : Value.okWide Try.prog W .any base 24 v) (h : DataW.Trod enc Try.prog W 0 (fun _ => true) true 24 v d p) : ∃ q : Int × Int × Value × List Ent, v = .agg #[.int .i64 q.1, .int .i64 q.2.1, q.2.2.1] ∧ BktArg W q ∧ NilS q.2.2.1 := by
  have hs := Try.underlying24
  obtain ⟨cs, rfl, hsz⟩ := okWide_struct hs o
  obtain ⟨l⟩ := cs
  obtain ⟨fuel, hf⟩ := h
  obtain ⟨xs, n, _, hx, _, hlen, hg⟩ := DataW.trod_struct hs hf
  have h8 : Try.prog.cellsOf 24 = 3 := by kernel_rfl
  rw [h8] at hsz
  match l, hsz with
  | [c0, c1, c2], _ =>
    have g0 := hg 0 _ rfl
    have g1 := hg 1 _ rfl
    have g2 := hg 2 _ rfl
    have hl3 : xs.length = 3 := hlen
    match xs, hl3 with
    | [x0, x1, x2], _ =>
      obtain ⟨d0, rfl, w0⟩ := int_cell (v := c0) (y := x0) g0
      obtain ⟨d1, rfl, w1⟩ := int_cell (v := c1) (y := x1) g1
      obtain ⟨es, he, hm, hw⟩ := ents_cell (v := c2) (y := x2) g2
      exact ⟨(d0, d1, c2, es), rfl, ⟨he, hm, hw, wf_i64 w0, wf_i64 w1⟩, ents_nilS (v := c2) (y := x2) g2⟩
set_option maxRecDepth 100000 in
theorem open_entD {W : World} {base : Nat} {v : Value} {d : DataW H} {p : List MemPlace} (o : Value.okWide Try.prog W .any base 27 v) (h : DataW.Trod enc Try.prog W 0 (fun _ => true) true 27 v d p) : ∃ q : Ent, v = .agg q.cells ∧ q.wf := by
  have hs := Try.underlying27
  obtain ⟨cs, rfl, hsz⟩ := okWide_struct hs o
  obtain ⟨l⟩ := cs
  obtain ⟨fuel, hf⟩ := h
  obtain ⟨xs, n, _, hx, _, hlen, hg⟩ := DataW.trod_struct hs hf
  have h8 : Try.prog.cellsOf 27 = 4 := by kernel_rfl
  rw [h8] at hsz
  match l, hsz with
  | [c0, c1, c2, c3], _ =>
    have g0 := hg 0 _ rfl
    have g1 := hg 1 _ rfl
    have g2 := hg 2 _ rfl
    have g3 := hg 3 _ rfl
    have hl3 : xs.length = 4 := hlen
    match xs, hl3 with
    | [x0, x1, x2, x3], _ =>
      obtain ⟨hash, rfl⟩ := u64_cell (v := c0) (y := x0) g0
      obtain ⟨d1, rfl, w1⟩ := int_cell (v := c1) (y := x1) g1
      obtain ⟨d2, rfl, w2⟩ := int_cell (v := c2) (y := x2) g2
      obtain ⟨d3, rfl, w3⟩ := int_cell (v := c3) (y := x3) g3
      exact ⟨⟨hash, d1, d2, d3⟩, rfl, wf_i64 w1, wf_i64 w2, wf_i64 w3⟩
end
theorem refSplit0 (d p : Nat) (hd : d ≤ 8) (hp : p < 1048576) (a : Option Addr) (m c : Nat) (es : List Ent) (w : World) (hE : EntsAt w.heap.size w (.slice a m c) es) (hlen : es.length ≤ 100000) :
    Calls Try.prog 18 #[.agg #[.int .i64 d, .int .i64 p, .slice a m c], .int .i64 0] w (BktLit (d + 1) (p * 2) (es.filter fun x => preI x.hash (d + 1) == (p : Int) * 2) w) := by
  have h := refSplit_any d p 0 hd hp (by omega) a m c es w hE hlen
  have e : 2 * (p : Int) + ((0 : Nat) : Int) = p * 2 := by omega
  rw [e] at h
  exact h
theorem refSplit1 (d p : Nat) (s : Int) (hd : d ≤ 8) (hp : p < 1048576) (a : Option Addr) (m c : Nat) (es : List Ent) (w : World) (hE : EntsAt w.heap.size w (.slice a m c) es) (hlen : es.length ≤ 100000) (hR : Right14 d p s es) :
    Calls Try.prog 18 #[.agg #[.int .i64 d, .int .i64 p, .slice a m c], .int .i64 1] w (BktLit (d + 1) (p * 2 + 1) (es.filter fun x => !(preI x.hash (d + 1) == (p : Int) * 2)) w) := by
  have h := refSplit_any d p 1 hd hp (by omega) a m c es w hE hlen
  have e : 2 * (p : Int) + ((1 : Nat) : Int) = p * 2 + 1 := by omega
  rw [e] at h
  have hf : (es.filter fun x => preI x.hash (d + 1) == (p : Int) * 2 + 1) = es.filter fun x => !(preI x.hash (d + 1) == (p : Int) * 2) := by
    refine List.filter_congr fun x hx => ?_
    have h1 := (mem_ok hR hx).2
    rw [preI_pre x.hash d (by omega)] at h1
    have e2 : preI x.hash ((d : Int) + 1) = pre x.hash (d + 1) := preI_pre x.hash (d + 1) (by omega)
    have h2 := pre_half x.hash d (by omega)
    rw [e2]
    rcases h2 with h2 | h2
    · rw [Bool.eq_iff_iff]; simp; omega
    · rw [Bool.eq_iff_iff]; simp; omega
  rw [hf] at h
  exact h
theorem elderIs_ex (es : List Ent) : ∃ v, ElderIs es v := by
  by_cases h : es = []
  · exact ⟨-1, .inl ⟨h, rfl⟩⟩
  · have hpos : 1 ≤ es.length := by
      cases es with
      | nil => exact absurd rfl h
      | cons => simp
    obtain ⟨n0, hn0, hm0⟩ := minUp_mem es es.length hpos (Nat.le_refl _)
    obtain ⟨n, hnn, hn, hno⟩ := exists_least (P := fun n => es[n]?.getD default = minE es) n0 hm0
    exact ⟨n, .inr ⟨n, by omega, hn, rfl, hno⟩⟩
theorem elder_is {es : List Ent} {v : Int} (hv : ElderIs es v) {w w' : World} {e : Ending} (h : ElderRet es w e w') : e = .returned (.int .i64 v) ∧ Below w.heap.size w w' := by
  obtain ⟨u, hu, he, hb⟩ := h
  rw [hu.one hv] at he
  exact ⟨he, hb⟩
theorem gone_yes {es : List Ent} {h : BitVec 64} {i : Nat} (hi : i < es.length) (he : (es[i]?.getD default).hash = h) : decide (0 < (es.filter fun x => decide (x.hash = h)).length) = true := by
  rw [getD_of hi] at he
  exact decide_eq_true (List.length_pos_of_mem (List.mem_filter.2 ⟨List.getElem_mem hi, by simpa using he⟩))
theorem gone_no {es : List Ent} {h : BitVec 64} (hn : NoHash h es es.length) : decide (0 < (es.filter fun x => decide (x.hash = h)).length) = false := by
  have : (es.filter fun x => decide (x.hash = h)) = [] := by
    rw [List.filter_eq_nil_iff]
    intro x hx
    obtain ⟨j, hj, rfl⟩ := List.mem_iff_getElem.1 hx
    have := hn j hj
    rw [getD_of hj] at this
    simpa using this
  rw [this]
  rfl
set_option maxRecDepth 100000 in
theorem locs_neq (r a s : Int) (V : World) : (binOp .neq 35 (.agg #[.int .i64 r, .int .i64 a, .int .i64 s]) (.agg #[.int .i64 r, .int .i64 a, .int .i64 s])).run Try.prog V = .ok (.bool false) V := by
  have h3 : ∀ (n : Nat) (a : Int) (W : World), (Op.equalIn (n + 1) 3 (.int .i64 a) (.int .i64 a)).run Try.prog W = .ok true W := fun n a W => by
    rw [run_equalIn_int W n 3 .i64 _ a a Try.underlying3, beq_self_eq_true]
  have h5 : (Op.equalIn 10000 35 (.agg #[.int .i64 r, .int .i64 a, .int .i64 s]) (.agg #[.int .i64 r, .int .i64 a, .int .i64 s])).run Try.prog V = .ok true V := by
    rw [show (10000 : Nat) = 9999 + 1 from rfl, run_equalIn_struct _ _ _ _ _ (by kernel_rfl) (by kernel_rfl)]
    have e2 := fun a W => h3 9998 a W
    simp [Program.fieldsOf, Try.underlying35, Op.eqFields, part, e2]
  simp only [binOp]
  simp [Op.equal, Op.maxDepth, h5]
set_option maxRecDepth 100000 in
theorem locs_guard (r a s : Int) (x y : Operand) (V : World) : (eqGuard .neq 35 x y (.agg #[.int .i64 r, .int .i64 a, .int .i64 s]) (.agg #[.int .i64 r, .int .i64 a, .int .i64 s])).run Try.prog V = .ok () V := run_eqGuard_agg _ _ _ _ _ _ _ (by kernel_rfl)
end Go.Proofs.Ytpihncafmjbccaa

/-
  record.All: the whole.
  Conditions: none.
-/
import Derived.Test.YtdpjhcdkiddplaaRecAll2
namespace Go.Proofs.Ytdpjhcdkiddplaa
open Go.RowKit Go.Shelf
attribute [local go_sem] Oper.semAt_some

/-- A list of records in memory. -/
def RecsAt (base : Nat) (W : World) (v : Value) (rs : List RecP) : Prop := ∃ xs : List RX, xs.map RX.r = rs ∧ W.ownsRow base 30 3 v xs.length (rows xs) ∧ ∀ x ∈ xs, x.Good W
theorem infoRec : (Try.prog.info? 30).map (fun i => (i.zero, i.size, i.bytes)) = some (some (.agg #[.slice none 0 0, .slice none 0 0, .int .i64 0]), 3, 56) := by kernel_rfl
theorem info_partsR {i : Option TypeInfo} {z : Value} {s b : Nat} (h : i.map (fun i => (i.zero, i.size, i.bytes)) = some (some z, s, b)) : ∃ i0, i = some i0 ∧ i0.zero = some z ∧ i0.size = s ∧ i0.bytes = b := by
  cases i with
  | none => cases h
  | some i0 => simp at h; exact ⟨i0, rfl, h.1, h.2.1, h.2.2⟩

set_option maxHeartbeats 400000 in
theorem recordsOf_in (a : Option Addr) (n c : Nat) (w : World) :
    CallsIn Fence.wide 2 Try.prog 21 #[.slice a n c] w fun e w' => e = .returned (.func (.func 28) #[] #[.pointer (some ⟨w.heap.size, 0, none⟩)]) ∧ w.alloc (.cells #[.slice a n c] 23) = w' := by
  refine callsIn_of_wp Try.func21 rfl trivial ?_ rfl
  simp only [Try.ntmps21, List.size_toArray, List.length_cons, List.length_nil, Nat.reduceAdd, Nat.reduceSub, Array.replicate_succ, Array.replicate_zero, List.push_toArray, List.append_toArray, List.nil_append, List.cons_append]
  gi_wp2
  go_ret
  exact ⟨rfl, rfl⟩

set_option maxRecDepth 100000 in
set_option maxHeartbeats 4000000 in
theorem all_in (v : Value) (bs : List (BitVec 8)) (w : World) (hv : BytesAt w.heap.size w v bs) (hl : bs.length ≤ 1073741824) :
    CallsIn Fence.wide 3 Try.prog 8 #[v] w fun e w' => ∃ u, e = .returned u ∧ RecsAt w.heap.size w' u (recs bs) ∧ Below w.heap.size w w' := by
  obtain ⟨i0, hi, hz0, hz1, hz2⟩ := info_partsR infoRec
  have HV := Lib.hid hv
  have HL := Lib.hid hl
  have t1 : Fence.wide.fn 21 := trivial
  obtain ⟨a, cap, rfl, hcap, _⟩ := id hv
  clear hv hl
  refine callsIn_of_wp_marks Try.func8 rfl trivial ?_ rfl
  simp only [Try.ntmps8, List.size_toArray, List.length_cons, List.length_nil, Nat.reduceAdd, Nat.reduceSub, Array.replicate_succ, Array.replicate_zero, List.push_toArray, List.append_toArray, List.nil_append, List.cons_append]
  gi_wp2_with (gi_at_call 21; (with_reducible refine (recordsOf_in _ _ _ _).mono ?_); rintro e w' ⟨rfl, rfl⟩)
  obtain ⟨w2, hw2⟩ : ∃ w2, (w.alloc (.cells #[.slice none 0 0] 35)).alloc (.cells #[.slice a bs.length cap] 23) = w2 := ⟨_, rfl⟩
  have z2 : w2.heap.size = w.heap.size + 2 := by rw [← hw2]; simp
  have b2 : Below w.heap.size w w2 := by rw [← hw2]; exact ((Below.refl _ w).alloc (Nat.le_refl _) _).alloc (by simp) _
  have hbx : Boxed w2 w.heap.size 35 (.slice none 0 0) := by rw [← hw2]; exact (Boxed.new w _ _).alloc _
  have hbp : w2.heap[w.heap.size + 1]? = some (.cells #[.slice a bs.length cap] 23 (0, 0)) := by
    rw [← hw2]
    have := Boxed.new (w.alloc (.cells #[.slice none 0 0] 35)) 23 (.slice a bs.length cap)
    rw [World.size_alloc] at this
    exact this
  rw [hw2]
  clear hw2
  have hn2 : w.heap.size ≤ w2.heap.size := by omega
  refine rangeFunc_seen (F := Fence.wide) (γ := List RX × Value) rfl (by decide) (gf := 28) (lb := #[.pointer (some ⟨w.heap.size + 1, 0, none⟩)]) rfl trivial (enters_of Try.func28 (by kernel_rfl) rfl)
    (encs := fun x : RX => #[.agg x.cells]) (fun _ => rfl) 30 RX.cells (fun x b => { tmps := #[.slice a bs.length cap, undef, .slice none 0 0, .pointer (some ⟨w.heap.size, 0, none⟩), .pointer (some ⟨b, 0, none⟩), .slice a bs.length cap, .func (.func 28) #[] #[.pointer (some ⟨w.heap.size + 1, 0, none⟩)], .agg #[.slice x.au x.nu x.cu, .slice x.av x.nv x.cv, .int .i64 x.r.fin], undef, undef, undef, undef, undef], defers := [] }) (AllPre w.heap.size w.heap.size) (AllBody w.heap.size w.heap.size) (AllS w.heap.size w.heap.size bs w)
    (fun s W l o o' v _ hl ho h => h.turn hl ho)
    (fun s x W W' l o o1 o2 o' hn hl ho hl' ho1 h => h.turn (Nat.le_trans hn2 hn) hl ho hl' ho1)
    (fun W l o o' hn hl ho h => h.turn (Nat.le_trans hn2 hn) hl ho) ?ass ?body ?call ?done
  case ass =>
    intro l x W K hK
    unfold RX.cells
    gi_wp2
    exact hK
  case body =>
    rintro l ⟨xs, lv⟩ x b W ⟨hv, hrow, hlen, hBx⟩ hle hbk
    have hv : Boxed W w.heap.size 35 lv := hv
    have hrow : W.ownsRow w.heap.size 30 3 lv xs.length (rows xs) := hrow
    have hlen : xs.length ≤ 1073741824 := hlen
    have d0 : W.cell? ⟨b, 0, none⟩ = some (.slice x.au x.nu x.cu) := blk_cell hbk 0
    have d1 : W.cell? ⟨b, 1, none⟩ = some (.slice x.av x.nv x.cv) := blk_cell hbk 1
    have d2 : W.cell? ⟨b, 2, none⟩ = some (.int .i64 x.r.fin) := blk_cell hbk 2
    have cB := hv.cell
    have hnew : ∀ (j : Nat) (u : Value), x.cells.toList[j]? = some u → (W.alloc (.cells #[.slice x.au x.nu x.cu, .slice x.av x.nv x.cv, .int .i64 x.r.fin] 30)).cell? ((⟨W.heap.size, 0, none⟩ : Addr).add j) = some u := by
      intro j u hj
      rw [add_plain, Nat.zero_add, blk_cell (heap_alloc_new _ _)]
      rw [Array.getElem?_toList] at hj
      exact hj
    have HROW := Lib.hid hrow
    have HBX := Lib.hid hv
    have HLE := Lib.hid (show w.heap.size ≤ W.heap.size from Nat.le_trans hn2 hle)
    have HLN := Lib.hid hlen
    have HNEW := Lib.hid hnew
    clear hv hrow hlen hBx hle hbk hnew hbx hbp b2 z2
    gi_wp2_with (gi_at_builtin; (refine wpListIn_append_own_at _ rfl _ _ 35 rfl w.heap.size 30 i0 _ 3 56 Try.underlying35 hi hz0 hz1 hz2 rfl (by decide) lv xs.length (rows xs) rfl (HROW.out.alloc _) ⟨W.heap.size, 0, none⟩ 1 1 x.cells.toList rfl rfl HNEW.out x.one (by have := HLN.out; unfold maxLen; omega) (by have := HLN.out; omega) (by have := HLE.out; simp; omega) ?_); intro v' w1 hown hgrow hnil hat; obtain ⟨g, cc, rfl⟩ := ownsRow_succ hown; obtain ⟨r1, r2, r3, r4, r5⟩ := Boxed.appended HBX.out (by decide) HROW.out HLE.out (Nat.le_refl _) hown hgrow; have cB1 := r1.cell; have fB1 := r1.frozen; have HR2 := Lib.hid r2; have HR3 := Lib.hid r3; have HR4 := Lib.hid r4; have HR5 := Lib.hid r5; have HGR := Lib.hid hgrow; have HAT := Lib.hid hat; clear hown hgrow hnil hat r1 r2 r3 r4 r5)
    refine ⟨HR4.out.from _, ⟨_, HR2.out, ?_, HR5.out, ((KeepsAt.alloc W _).trans (KeepsAt.grown HGR.out (fun k e h => h.2 e))).trans (KeepsAt.setCell _ _ _ (fun h => h.1 rfl)), ?_⟩⟩
    · rw [rows_snoc, List.length_append, List.length_singleton]
      exact HR3.out
    · rcases HAT.out with h | h
      · exact .inl h
      · exact .inr ⟨_, h, by simp⟩
  case call =>
    intro l Rdy W0 hB hR h0 hY
    have hlt : w.heap.size + 1 < w2.heap.size := by omega
    refine (recordsOf1_seen l (w.heap.size + 1) w.heap.size w.heap.size w.heap.size bs _ HL.out Rdy W0 (Nat.le_refl _) ((hB.block _ hlt).trans hbp) (by omega) (HV.out.below (b2.trans (hB.mono hn2))) (Nat.le_trans hn2 hB.size) hR h0 ((hB.block _ (by omega)).trans hbx) (Nat.le_refl _) (fun s x W hr hle hp => hY s x W hr (Nat.le_trans hB.size hle) hp)).mono ?_
    rintro e W' ⟨he, hr, xs, lv, h1, h2, h3, h4, h5⟩
    exact ⟨he, hr, xs, lv, h1, h2, h3, h4, (b2.trans (hB.mono hn2)).trans h5⟩
  case done =>
    rintro D W hD ⟨xs, lv, h1, h2, h3, h4, h5⟩ hK
    have hc := h2.cell
    have HH := Lib.hid h1
    clear h1 hbx hbp
    gi_wp2
    refine ⟨by simp, .inl ⟨_, _, rfl, run_takeDeferred hK, ?_⟩⟩
    have hk := KeepsAt.put (S := fun _ => True) W D _ (.deferred none) hK rfl
    refine ⟨_, results_tmp rfl _ _ _, _, rfl, ⟨xs, HH.out, ownsRow_putObj h3 _ hK rfl, fun x hx => ⟨(h4 x hx).1.keepsAt hk (fun _ _ _ => trivial) (by simp), (h4 x hx).2.keepsAt hk (fun _ _ _ => trivial) (by simp)⟩⟩, ?_⟩
    exact h5.trans ((Below.refl _ W).grown (grownBy_putObj' _ D _) (by have := (Array.getElem?_eq_some_iff.1 hK).1; omega) (fun k e => by cases e; omega))
theorem all_any (v : Value) (bs : List (BitVec 8)) (w : World) (hv : BytesAt w.heap.size w v bs) (hl : bs.length ≤ 1073741824) :
    Calls Try.prog 8 #[v] w fun e w' => ∃ u, e = .returned u ∧ RecsAt w.heap.size w' u (recs bs) ∧ Below w.heap.size w w' := callsIn_wide.1 (all_in v bs w hv hl)
end Go.Proofs.Ytdpjhcdkiddplaa

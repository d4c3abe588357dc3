/-
  LeafReads: which leaf any bytes are the sector of.
  Conditions: none.
-/
import Derived.Test.YtopjadmjahpeoaaRefRead
import Derived.Test.YtopjadmjahpeoaaOpenBn
namespace Go.Proofs.Ytopjadmjahpeoaa
open Go.ChangeShapes Go.WideShapes Go.ChangeAt Go.RowKit

theorem leafp_cells {w0 W : World} {X : Nat} {x : LeafP} {u : Value} {t : TypeId} (h : w0.heap[X]? = some (.cells (x.cells u) t (0, 0))) (hb : Below w0.heap.size w0 W) :
    W.cell? ⟨X, 0, none⟩ = some (.int .i64 x.kind) ∧ W.cell? ⟨X, 1, none⟩ = some (.int .i64 x.place) ∧ W.cell? ⟨X, 2, none⟩ = some (.int .i64 x.stamp) ∧ W.cell? ⟨X, 3, none⟩ = some u := leaf_cells h hb

set_option maxRecDepth 100000 in
set_option maxHeartbeats 4000000 in
theorem leafReads_walk (v : Value) (bs : List (BitVec 8)) (w : World) (hv : BytesAt w.heap.size w v bs) : Calls Try.prog 4 #[v] w (Good w) := by
  have HV := Lib.hid hv
  have HAW := Lib.hid (fun W => awake05 W)
  obtain ⟨i0, hi, hz0, hz1, hz2⟩ := info_parts Try.infoU8
  obtain ⟨a, cap, rfl, hcap, _⟩ := id hv
  clear hv
  have he0 := own_empty w w.heap.size (Nat.le_refl _)
  have hb0 : Below w.heap.size w (w.alloc (.cells #[] 5)) := (Below.refl _ _).alloc (Nat.le_refl _) _
  have HE0 := Lib.hid he0
  have HB0 := Lib.hid hb0
  clear he0 hb0
  by_cases hl : bs.length ≤ 600
  · have hl1 : (bs.length : Int) ≤ 600 := by omega
    have HRR := Lib.hid (fun W (hW : Below w.heap.size w W) => refRead_any w.heap.size _ bs W (HV.out.below hW) hW.size (by omega))
    have HRD := Lib.hid (fun u W (h : BytesAt W.heap.size W u bs) => read_any u bs W h (by omega))
    obtain ⟨er, her⟩ : ∃ er, readErr bs = er := ⟨_, rfl⟩
    obtain ⟨x, hx⟩ : ∃ x, readL bs = x := ⟨_, rfl⟩
    simp only [her, hx] at HRR HRD
    clear her hx
    have HTO := Lib.hid (fun (u : Value) n W (h : BytesAt n W u x.load) => (show Calls Try.prog 15 #[.agg #[.int .i64 x.kind, .int .i64 x.place, .int .i64 x.stamp, u], .agg #[.int .i64 x.kind, .int .i64 x.place, .int .i64 x.stamp, .string (strB x.load)]] W (fun e w' => e = .returned (.bool true) ∧ Below W.heap.size W w') from told05_yes x u n W h))
    have HLEN := Lib.hid hl
    go_enter Try.func4, Try.ntmps4
    go_upto_region 4 with (first
      | (at_builtin; (refine wpList_append_bytes rfl (.tmp 11) (.tmp 12) rfl rfl w.heap.size i0 hi hz0 hz1 hz2 _ rfl [] HE0.out _ rfl _ _ (HV.out.below HB0.out) (by have := HLEN.out; simp; omega) HB0.out.size ?_); intro v1 w1 n1 hn hown hg _; have HB1 := Lib.hid (HB0.out.grown hg HB0.out.size (fun k e => (HE0.out.lt k e).1)); have HRD1 := Lib.hid (HRD.out _ _ (BytesAt.of_owns (by rw [hn.out] at hown; simpa using hown))); clear hn hown hg)
      | (go_at_call 13; (with_reducible refine HRD1.out.mono ?_); rintro e w3 ⟨u, rfl, hv, hbel⟩; obtain ⟨av, cv, rfl, _⟩ := id hv; have HU := Lib.hid hv; have HB3 := Lib.hid hbel; clear hv hbel)
      | (refine wpList_store_row (o := ⟨none, _, _, _, _, _⟩) rfl 29 (.tmp 3) (.tmp 15) rfl w3.heap.size (x.cells (.slice av x.load.length cv)) rfl rfl 29 (LeafP.zero.cells (.slice none 0 0)) (heap_alloc_new _ _) (leaf_sz _ _) rfl ?_ ?_; exact leaf_one _))
    have hbw : Below w3.heap.size w3 ((w3.alloc (.cells (LeafP.zero.cells (.slice none 0 0)) 29)).setRow w3.heap.size (x.cells (.slice av x.load.length cv))) := below_setRow ((Below.refl _ _).alloc (Nat.le_refl _) _) (Nat.le_refl _) _
    have hP2 : ((w3.alloc (.cells (LeafP.zero.cells (.slice none 0 0)) 29)).setRow w3.heap.size (x.cells (.slice av x.load.length cv))).heap[w3.heap.size]? = some (.cells (x.cells (.slice av x.load.length cv)) 29 (0, 0)) := setRow_heap _ _ _ _ _ _ (heap_alloc_new _ _)
    change (Code.region _ _ _).wp _ _ _ ((w3.alloc (.cells (LeafP.zero.cells (.slice none 0 0)) 29)).setRow w3.heap.size (x.cells (.slice av x.load.length cv)))
    generalize (w3.alloc (.cells (LeafP.zero.cells (.slice none 0 0)) 29)).setRow w3.heap.size (x.cells (.slice av x.load.length cv)) = w4 at hbw hP2 ⊢
    have HB4 := Lib.hid (HB1.out.trans ((HB3.out.trans (hbw.mono HB3.out.size)).mono HB1.out.size))
    have HU4 := Lib.hid (HU.out.below hbw)
    have HP4 := Lib.hid hP2
    obtain ⟨P, hP⟩ : ∃ P, w3.heap.size = P := ⟨_, rfl⟩
    rw [hP] at HP4 HU4 ⊢
    have HRR4 := Lib.hid (HRR.out _ HB4.out)
    clear hbw hP2 hP HB0 HE0 HRD HRR HU HB3 HB1 HRD1
    go_upto_region 5 with (first
      | (go_at_call 14; (with_reducible refine HRR4.out.mono ?_); rintro e w5 ⟨rfl, hbel⟩; have HB5 := Lib.hid hbel; clear hbel)
      | (refine wpList_store_row (o := ⟨none, _, _, _, _, _⟩) rfl 23 (.tmp 5) (.tmp 20) rfl w5.heap.size x.doc rfl rfl 23 LeafP.zero.doc (heap_alloc_new _ _) (doc_sz _) rfl ?_ ?_; exact doc_one _))
    have hbw : Below w5.heap.size w5 ((w5.alloc (.cells LeafP.zero.doc 23)).setRow w5.heap.size x.doc) := below_setRow ((Below.refl _ _).alloc (Nat.le_refl _) _) (Nat.le_refl _) _
    have hP2 : ((w5.alloc (.cells LeafP.zero.doc 23)).setRow w5.heap.size x.doc).heap[w5.heap.size]? = some (.cells x.doc 23 (0, 0)) := setRow_heap _ _ _ _ _ _ (heap_alloc_new _ _)
    change (Code.region _ _ _).wp _ _ _ ((w5.alloc (.cells LeafP.zero.doc 23)).setRow w5.heap.size x.doc)
    generalize (w5.alloc (.cells LeafP.zero.doc 23)).setRow w5.heap.size x.doc = w6 at hbw hP2 ⊢
    have hb46 : Below w4.heap.size w4 w6 := HB5.out.trans (hbw.mono HB5.out.size)
    obtain ⟨p0, p1, p2, p3⟩ := leafp_cells HP4.out hb46
    obtain ⟨q0, q1, q2, q3⟩ := doc_cells hP2 (Below.refl w6.heap.size w6)
    have HT6 := Lib.hid (HTO.out _ _ w6 (HU4.out.below (hb46.mono (Nat.le_of_lt (blk_lt HP4.out)))))
    have HB6 := Lib.hid (HB4.out.trans (hb46.mono HB4.out.size))
    obtain ⟨Q, hQ⟩ : ∃ Q, w5.heap.size = Q := ⟨_, rfl⟩
    rw [hQ] at q0 q1 q2 q3 ⊢
    have hee : (er == er) = true := by simp
    clear hbw hP2 hQ hb46 HTO HB4 HP4 HU4 HB5
    go_wp2_with (first
      | (go_at_call 15; (with_reducible refine HT6.out.mono ?_); rintro e w7 ⟨rfl, hb⟩; have HB7 := Lib.hid hb; clear hb)
      | (go_at_call 12; (with_reducible refine (HAW.out _).mono ?_); rintro e w8 ⟨rfl, hb⟩; have HB8 := Lib.hid hb; clear hb))
    go_ret
    exact ⟨rfl, HB6.out.trans ((HB7.out.trans (HB8.out.mono HB7.out.size)).mono HB6.out.size)⟩
  · have hl1 : 600 < (bs.length : Int) := by omega
    go_enter Try.func4, Try.ntmps4
    go_wp2
    go_ret
    exact ⟨rfl, Below.refl _ _⟩
set_option maxRecDepth 100000 in
theorem leafReads_lifted (os : Os) (started : os.Started) (H : Type) (enc : TypeId × Value → H) :
    ReturnsInHanded {} Try.checked os 4 .any (Rows.leafReadsSpec.pre6 enc Try.prog Try.f4 Rows.leafReadsRow.domain false) (Rows.leafReadsSpec.post enc Try.prog Try.f4 false true false false) :=
  law_lifted 4 Try.f4 Rows.leafReadsSpec Try.func4 (by kernel_rfl) rfl rfl
    (fun ds h => by match ds, h with | [_], _ => rfl) (by kernel_rfl) os started
    (ChangeSpec.witness6 (enc := enc) (C := Try.checked) false ⟨#[], #[.slice none 0 0], []⟩ 8 (by kernel_rfl) (by kernel_rfl) (by kernel_rfl) (by kernel_rfl))
    fun W args ds ps hval hA => by
      rw [Try.params4] at hA hval
      obtain ⟨v0, vs0, d0, ds0, p0, q0, hargs, rfl, rfl, h0, r0⟩ := trodAll_cons hA
      obtain ⟨rfl, rfl, rfl⟩ := trodAll_nil r0
      obtain rfl : args = #[v0] := by cases args; simp_all
      obtain ⟨b0, o0⟩ := hval 0 _ v0 rfl rfl
      obtain ⟨bs0, hb0, hm0⟩ := open_bytes o0 h0
      exact leafReads_walk v0 bs0 W hb0

/-- The statement. -/
theorem leafReads_holds : Rows.LeafReadsSaid :=
  OpenClaim.holds_of_wide 4 Try.f4 rfl rfl rfl rfl rfl rfl rfl ⟨rfl, rfl, rfl, rfl, rfl⟩ rfl rfl rfl rfl rfl (by kernel_rfl) Try.func4 (by kernel_rfl)
    (of_decide_eq_true (by kernel_rfl)) (by unfold Func.isWrapper; first | (rw [if_pos (by decide +kernel)]; kernel_rfl) | (rw [if_neg (by decide +kernel)]; exact ⟨rfl, rfl⟩))
    (fun os started H enc _ => leafReads_lifted os started H enc)
#print axioms leafReads_holds
end Go.Proofs.Ytopjadmjahpeoaa

/-
  BucketReads: what any load is the bucket of.
  Conditions: none.
-/
import Derived.Test.YtlpfjmahinfeoaaBkt18
import Derived.Test.YtlpfjmahinfeoaaBkt7
import Derived.Test.YtlpfjmahinfeoaaOpenBkt
import Derived.BigQuiet
import Derived.Deep.RegionHeld3
namespace Go.Proofs.Ytlpfjmahinfeoaa
open Go.ChangeShapes Go.WideShapes Go.ChangeAt Go.RowKit

set_option maxRecDepth 100000 in
set_option maxHeartbeats 8000000 in
theorem bucketReads_walk (v : Value) (l : List (BitVec 8)) (s : Int) (w : World) (hv : BytesAt w.heap.size w v l) : Calls Try.prog 4 #[v, .int .i64 s] w (Good w) := by
  have HV := Lib.hid hv
  have HAW := Lib.hid (fun W => awake14 W)
  obtain ⟨i0, hi, hz0, hz1, hz2⟩ := info_parts Try.infoU8
  obtain ⟨a, cap, rfl, hcap, _⟩ := id hv
  clear hv
  have he0 := own_empty w w.heap.size (Nat.le_refl _)
  have hb0 : Below w.heap.size w (w.alloc (.cells #[] 5)) := (Below.refl _ _).alloc (Nat.le_refl _) _
  have HE0 := Lib.hid he0
  have HB0 := Lib.hid hb0
  clear he0 hb0
  by_cases hl : l.length ≤ 700
  · have hl1 : (l.length : Int) ≤ 700 := by omega
    have HLEN := Lib.hid hl
    obtain ⟨d, p, es, er, hes, HU, HR⟩ := both_any l s (by omega)
    have HES := Lib.hid hes
    have HUN := Lib.hid HU
    have HRN := Lib.hid HR
    clear HU HR hes hl
    go_enter Try.func4, Try.ntmps4
    go_upto_region 4 with (first
      | (at_builtin; (refine wpList_append_bytes rfl (.tmp 13) (.tmp 14) rfl rfl w.heap.size i0 hi hz0 hz1 hz2 _ rfl [] HE0.out _ rfl _ _ (HV.out.below HB0.out) (by have := HLEN.out; simp; omega) HB0.out.size ?_); intro v1 w1 n1 hn hown hg _; have HB1 := Lib.hid (HB0.out.grown hg HB0.out.size (fun k e => (HE0.out.lt k e).1)); have HU1 := Lib.hid (HUN.out _ w1 (BytesAt.of_owns (by rw [hn.out] at hown; simpa using hown))); clear hn hown hg)
      | (go_at_call 12; (with_reducible refine HU1.out.mono ?_); rintro e w3 ⟨av, nv, cv, rfl, hv, hbel⟩; obtain ⟨_, _, hnv, _⟩ := hv.slice; have HU := Lib.hid hv; have HB3 := Lib.hid hbel; clear hv hbel hnv)
      | (refine wpList_store_row (o := ⟨none, _, _, _, _, _⟩) rfl 31 (.tmp 5) (.tmp 18) rfl w3.heap.size (bktC d p (.slice av nv cv)) rfl rfl 31 (bktC 0 0 (.slice none 0 0)) (heap_alloc_new _ _) (bkt_sz _ _ _) rfl ?_ ?_; exact bkt_one _ _ _ _ _))
    have hbw : Below w3.heap.size w3 ((w3.alloc (.cells (bktC 0 0 (.slice none 0 0)) 31)).setRow w3.heap.size (bktC d p (.slice av nv cv))) := below_setRow ((Below.refl _ _).alloc (Nat.le_refl _) _) (Nat.le_refl _) _
    have hP2 : ((w3.alloc (.cells (bktC 0 0 (.slice none 0 0)) 31)).setRow w3.heap.size (bktC d p (.slice av nv cv))).heap[w3.heap.size]? = some (.cells (bktC d p (.slice av nv cv)) 31 (0, 0)) := setRow_heap _ _ _ _ _ _ (heap_alloc_new _ _)
    change (Code.region _ _ _).wp _ _ _ ((w3.alloc (.cells (bktC 0 0 (.slice none 0 0)) 31)).setRow w3.heap.size (bktC d p (.slice av nv cv)))
    generalize (w3.alloc (.cells (bktC 0 0 (.slice none 0 0)) 31)).setRow w3.heap.size (bktC d p (.slice av nv cv)) = w4 at hbw hP2 ⊢
    have HB4 := Lib.hid (HB1.out.trans ((HB3.out.trans (hbw.mono HB3.out.size)).mono HB1.out.size))
    have HU4 := Lib.hid (HU.out.next hbw)
    have HP4 := Lib.hid hP2
    obtain ⟨P, hP⟩ : ∃ P, w3.heap.size = P := ⟨_, rfl⟩
    rw [hP] at HP4 ⊢
    have HRR4 := Lib.hid (HRN.out _ w4 ((HV.out.below HB4.out).mono HB4.out.size))
    clear hbw hP2 hP HB0 HE0 HU HB3 HB1 HU1
    go_upto_region 5 with (first
      | (go_at_call 13; (with_reducible refine HRR4.out.mono ?_); rintro e w5 ⟨bv, mv, ev, rfl, hv, hbel⟩; have HV5 := Lib.hid hv; have HB5 := Lib.hid hbel; clear hv hbel)
      | (refine wpList_store_row (o := ⟨none, _, _, _, _, _⟩) rfl 24 (.tmp 7) (.tmp 24) rfl w5.heap.size (bktC d p (.slice bv mv ev)) rfl rfl 24 (bktC 0 0 (.slice none 0 0)) (heap_alloc_new _ _) (bktD_sz _ _ _) rfl ?_ ?_; exact bkt_one _ _ _ _ _))
    have hbw : Below w5.heap.size w5 ((w5.alloc (.cells (bktC 0 0 (.slice none 0 0)) 24)).setRow w5.heap.size (bktC d p (.slice bv mv ev))) := below_setRow ((Below.refl _ _).alloc (Nat.le_refl _) _) (Nat.le_refl _) _
    have hP2 : ((w5.alloc (.cells (bktC 0 0 (.slice none 0 0)) 24)).setRow w5.heap.size (bktC d p (.slice bv mv ev))).heap[w5.heap.size]? = some (.cells (bktC d p (.slice bv mv ev)) 24 (0, 0)) := setRow_heap _ _ _ _ _ _ (heap_alloc_new _ _)
    change (Code.region _ _ _).wp _ _ _ ((w5.alloc (.cells (bktC 0 0 (.slice none 0 0)) 24)).setRow w5.heap.size (bktC d p (.slice bv mv ev)))
    generalize (w5.alloc (.cells (bktC 0 0 (.slice none 0 0)) 24)).setRow w5.heap.size (bktC d p (.slice bv mv ev)) = w6 at hbw hP2 ⊢
    have hb46 : Below w4.heap.size w4 w6 := HB5.out.trans (hbw.mono HB5.out.size)
    have hP6 := (hb46.block _ (blk_lt HP4.out)).trans HP4.out
    have p0 : w6.cell? ⟨P, 0, none⟩ = some (.int .i64 d) := blk_cell hP6 0
    have p1 : w6.cell? ⟨P, 1, none⟩ = some (.int .i64 p) := blk_cell hP6 1
    have p2 : w6.cell? ⟨P, 2, none⟩ = some (.slice av nv cv) := blk_cell hP6 2
    obtain ⟨Q, hQ⟩ : ∃ Q, w5.heap.size = Q := ⟨_, rfl⟩
    have HE6 := Lib.hid (HV5.out.next hbw)
    rw [hQ] at hP2 ⊢
    have q0 : w6.cell? ⟨Q, 0, none⟩ = some (.int .i64 d) := blk_cell hP2 0
    have q1 : w6.cell? ⟨Q, 1, none⟩ = some (.int .i64 p) := blk_cell hP2 1
    have q2 : w6.cell? ⟨Q, 2, none⟩ = some (.slice bv mv ev) := blk_cell hP2 2
    have HT6 := Lib.hid (told_any d p av bv nv cv mv ev es w6 (HU4.out.next hb46) HE6.out (by have := HES.out; omega))
    have HB6 := Lib.hid (HB4.out.trans (hb46.mono HB4.out.size))
    have hee : (er == er) = true := by simp
    clear hbw hP2 hQ hb46 hP6 HB4 HP4 HU4 HB5 HRR4
    go_wp2_with (first
      | (go_at_call 14; (with_reducible refine HT6.out.mono ?_); rintro e w7 ⟨rfl, hb⟩; have HB7 := Lib.hid hb; clear hb)
      | (go_at_call 11; (with_reducible refine (HAW.out _).mono ?_); rintro e w8 ⟨rfl, hb⟩; have HB8 := Lib.hid hb; clear hb))
    go_ret
    exact ⟨rfl, HB6.out.trans ((HB7.out.trans (HB8.out.mono HB7.out.size)).mono HB6.out.size)⟩
  · have hl1 : 700 < (l.length : Int) := by omega
    go_enter Try.func4, Try.ntmps4
    go_wp2
    go_ret
    exact ⟨rfl, Below.refl _ _⟩
set_option maxRecDepth 100000 in
theorem bucketReads_lifted (os : Os) (started : os.Started) (H : Type) (enc : TypeId × Value → H) :
    ReturnsInHanded {} Try.checked os 4 .any (Rows.bucketReadsSpec.pre6 enc Try.prog Try.f4 Rows.bucketReadsRow.domain false) (Rows.bucketReadsSpec.post enc Try.prog Try.f4 false true false false) :=
  law_lifted 4 Try.f4 Rows.bucketReadsSpec Try.func4 (by kernel_rfl) rfl rfl
    (fun ds h => by match ds, h with | [_, _], _ => rfl) (by kernel_rfl) os started
    (ChangeSpec.witness6 (enc := enc) (C := Try.checked) false ⟨#[], #[.slice none 0 0, .int .i64 0], []⟩ 8 (by kernel_rfl) (by kernel_rfl) (by kernel_rfl) (by kernel_rfl))
    fun W args ds ps hval hA => by
      rw [Try.params4] at hA hval
      obtain ⟨v0, vs0, d0, ds0, p0, q0, hargs, rfl, rfl, h0, r0⟩ := trodAll_cons hA
      obtain ⟨v1, vs1, d1, ds1, p1, q1, rfl, rfl, rfl, h1, r1⟩ := trodAll_cons r0
      obtain ⟨rfl, rfl, rfl⟩ := trodAll_nil r1
      obtain rfl : args = #[v0, v1] := by cases args; simp_all
      obtain ⟨b0, o0⟩ := hval 0 _ v0 rfl rfl
      obtain ⟨b1, o1⟩ := hval 1 _ v1 rfl rfl
      obtain ⟨bs0, hb0, hm0⟩ := open_bytes o0 h0
      obtain ⟨a1, rfl, rfl, rfl, w1⟩ := open_int Try.underlying3 o1 h1
      exact bucketReads_walk v0 bs0 a1 W hb0

/-- The statement. -/
theorem bucketReads_holds : Rows.BucketReadsSaid :=
  OpenClaim.holds_of_wide 4 Try.f4 rfl rfl rfl rfl rfl rfl rfl ⟨rfl, rfl, rfl, rfl, rfl⟩ rfl rfl rfl rfl rfl (by kernel_rfl) Try.func4 (by kernel_rfl)
    (of_decide_eq_true (by kernel_rfl)) (by unfold Func.isWrapper; first | (rw [if_pos (by decide +kernel)]; kernel_rfl) | (rw [if_neg (by decide +kernel)]; exact ⟨rfl, rfl⟩))
    (fun os started H enc _ => bucketReads_lifted os started H enc)
#print axioms bucketReads_holds
end Go.Proofs.Ytlpfjmahinfeoaa

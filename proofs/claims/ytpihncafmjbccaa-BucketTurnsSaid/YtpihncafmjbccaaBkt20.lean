/-
  sgraffitoref14.Find.
  Conditions: none.
-/
import Derived.Test.YtpihncafmjbccaaBkt19
import Derived.Test.YtpihncafmjbccaaBkt8
namespace Go.Proofs.Ytpihncafmjbccaa
open Go.RowKit
attribute [local go_sem] Oper.semAt_some

/-- What the document's Find answers. -/
def RFindRet (h : BitVec 64) (es : List Ent) (w : World) (e : Ending) (w' : World) : Prop :=
  Below w.heap.size w w' ∧ ((∃ i : Nat, i < es.length ∧ (es[i]?.getD default).hash = h ∧ NoHash h es i ∧ e = .returned (.int .i64 i)) ∨ (NoHash h es es.length ∧ e = .returned (.int .i64 (-1))))
theorem NoHash.succ {h : BitVec 64} {es : List Ent} {k : Nat} (H : NoHash h es k) (hk : (es[k]?.getD default).hash ≠ h) : NoHash h es (k + 1) := fun i hi => by
  by_cases hik : i = k
  · subst hik; exact hk
  · exact H i (by omega)
set_option maxRecDepth 100000 in
set_option maxHeartbeats 4000000 in
theorem refFind_any (d p : Int) (h : BitVec 64) (a : Option Addr) (m c : Nat) (es : List Ent) (w : World) (hE : EntsAt w.heap.size w (.slice a m c) es) (hlen : es.length ≤ 100000) :
    Calls Try.prog 8 #[.agg #[.int .i64 d, .int .i64 p, .slice a m c], .int .u64 (U h)] w (RFindRet h es w) := by
  obtain ⟨_, _, e0, hc0⟩ := hE.slice
  cases e0
  have hb1 : Below w.heap.size w (w.alloc (.cells #[.int .i64 d, .int .i64 p, .slice a es.length c] 24)) := (Below.refl _ w).alloc (Nat.le_refl _) _
  have hg1 : (w.alloc (.cells #[.int .i64 d, .int .i64 p, .slice a es.length c] 24)).heap[w.heap.size]? = some (.cells #[.int .i64 d, .int .i64 p, .slice a es.length c] 24 (0, 0)) := heap_alloc_new _ _
  obtain ⟨w1, hw1⟩ : ∃ w1, w.alloc (.cells #[.int .i64 d, .int .i64 p, .slice a es.length c] 24) = w1 := ⟨_, rfl⟩
  rw [hw1] at hb1 hg1
  have HE := Lib.hid (hE.next hb1)
  have HB := Lib.hid hb1
  have HW1 := Lib.hid hw1
  have c2 : w1.cell? ⟨w.heap.size, 2, none⟩ = some (.slice a es.length c) := blk_cell hg1 2
  have hl1 : (es.length : Int) ≤ 100000 := by omega
  clear hE hb1 hg1 hw1 hlen
  go_enter Try.func8, Try.ntmps8
  go_upto_region 1 with (fail)
  rw [HW1.out]
  clear HW1
  go_wp2
  go_loop [5] (fun i => ∃ k : Nat, k ≤ es.length ∧ i = .int .i64 k ∧ NoHash h es k) (fun i => es.length - (intOf i).toNat)
  case atStart => exact ⟨0, Nat.zero_le _, rfl, fun i hi => absurd hi (by omega)⟩
  case round =>
    obtain ⟨k, hk, rfl, hN⟩ := hrel
    have HN := Lib.hid hN
    by_cases hlt : k < es.length
    · obtain ⟨g, off, rfl, hg, e4⟩ := HE.out.get hlt
      have q0 := e4.1
      have k1 : (k : Int) < es.length := by omega
      have HK := Lib.hid hlt
      obtain ⟨x, hx⟩ : ∃ x, (es[k]?.getD default) = x := ⟨_, rfl⟩
      rw [hx] at q0
      have HX := Lib.hid hx
      clear hx e4 hN hlt hg
      by_cases he : x.hash = h
      · have hq : (U x.hash == U h) = true := by rw [he]; exact beq_self_eq_true _
        have HH := Lib.hid he
        clear he
        go_wp2
        go_ret
        exact ⟨HB.out, .inl ⟨k, HK.out, by rw [HX.out]; exact HH.out, HN.out, rfl⟩⟩
      · have hq : (U x.hash == U h) = false := by simp [U_beq, he]
        have HH := Lib.hid he
        clear he
        go_wp2
        exact ⟨⟨k + 1, by omega, by go_num, HN.out.succ (by rw [HX.out]; exact HH.out)⟩, by simp [intOf]; omega⟩
    · obtain rfl : k = es.length := by omega
      clear hN
      go_wp2
      go_ret
      exact ⟨HB.out, .inr ⟨HN.out, rfl⟩⟩
end Go.Proofs.Ytpihncafmjbccaa

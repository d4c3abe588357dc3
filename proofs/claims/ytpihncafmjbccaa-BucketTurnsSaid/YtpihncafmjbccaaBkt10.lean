/-
  bucket: the range over all entries, told by how many were given; loc.May, isPrefix.
  Conditions: none.
-/
import Derived.Test.YtpihncafmjbccaaRight2
import Derived.Test.YtpihncafmjbccaaInvRange
import Derived.LoopIn
import Derived.LoopNIn
import Derived.TacticsInMore
namespace Go.Proofs.Ytpihncafmjbccaa
open Go.RowKit Go.Shelf
attribute [local go_sem] Oper.semAt_some

/-- What is given to a round: how many were given ahead of it. -/
def entEnc (es : List Ent) (s : Nat) : Array Value := #[.int .i64 s, .agg (es[s]?.getD default).cells]
set_option maxRecDepth 100000 in
set_option maxHeartbeats 2000000 in
theorem all1_inv (n : Nat) (hn : 1 ≤ n) (l B : Nat) (a : Option Addr) (c : Nat) (es : List Ent) (hlen : es.length ≤ 1099511627776) (J : Nat → World → Prop) (JS : World → Prop) (W0 : World)
    (hfacts : ∀ s W, J s W → W.cell? ⟨B, 2, none⟩ = some (.slice a es.length c) ∧ ∀ i, i < es.length → ∃ g off, a = some ⟨g, off, none⟩ ∧ EntAt W g (off + i * 4) (es[i]?.getD default))
    (hbel : ∀ s W W', J s W → Below W.heap.size W W' → J s W') (h0 : J 0 W0)
    (hY : ∀ s W, J s W → s < es.length → YieldAt Fence.wide (n - 1) Try.prog l (entEnc es s) W fun e W' => (e = .returned (.bool true) ∧ J (s + 1) W') ∨ (e = .returned (.bool false) ∧ JS W')) :
    CallsIn Fence.wide n Try.prog 34 #[.func (.yield l) #[] #[], .pointer (some ⟨B, 0, none⟩)] W0 fun e W' => (∃ v, e = .returned v) ∧ ((∃ s, ¬ s < es.length ∧ J s W') ∨ JS W') := by
  have HF := Lib.hid hfacts
  have HB := Lib.hid hbel
  have HY := Lib.hid hY
  have c0 := (hfacts _ _ h0).1
  have a1 : (es.length : Int) ≤ 1099511627776 := by omega
  clear hfacts hY hbel
  refine callsIn_of_wp Try.func34 rfl trivial ?_ rfl
  simp only [Try.ntmps34, List.size_toArray, List.length_cons, List.length_nil, Nat.reduceAdd, Nat.reduceSub, Array.replicate_succ, Array.replicate_zero, List.push_toArray, List.append_toArray, List.nil_append, List.cons_append]
  gi_wp2
  clear c0
  gi_loopw [8] (fun v wr => ∃ s : Nat, v = .int .i64 s ∧ s ≤ es.length ∧ J s wr) (fun v _ => es.length - (intOf v).toNat)
  case atStart => exact ⟨0, rfl, Nat.zero_le _, h0⟩
  case round =>
    obtain ⟨s, rfl, hs, hJ⟩ := hrel
    obtain ⟨cb, ce⟩ := HF.out _ _ hJ
    by_cases hlt : s < es.length
    · obtain ⟨g, off, rfl, d0, d1, d2, d3⟩ := ce s hlt
      have k1 : (s : Int) < es.length := by omega
      have HJR := Lib.hid (fun W1 (h1 : Below wr.heap.size wr W1) => HB.out _ _ _ hJ h1)
      have HYR := Lib.hid (fun W1 (h1 : J s W1) => HY.out s W1 h1 hlt)
      have HLT := Lib.hid hlt
      unfold entEnc at HYR
      clear hJ ce hs hlt
      obtain ⟨x, hx⟩ : ∃ x, (es[s]?.getD default) = x := ⟨_, rfl⟩
      rw [hx] at d0 d1 d2 d3 HYR
      clear hx
      unfold Ent.cells at HYR
      obtain ⟨fn, tmps, assign, body, hy, hR⟩ := HYR.out (wr.alloc (.cells #[.int .u64 (U x.hash), .int .i64 x.reg, .int .i64 x.at_, .int .i64 x.size] 40)) (HJR.out _ ((Below.refl _ wr).alloc (Nat.le_refl _) _))
      gi_wp2
      refine hR.mono ?_
      rintro e W3 (⟨rfl, hJ3⟩ | ⟨rfl, hJx3⟩)
      · have hJ4 := Lib.hid hJ3
        clear hJ3 hy hR
        gi_wp2
        go_roundw
        case rel => exact ⟨s + 1, by simp, by have := HLT.out; omega, hJ4.out⟩
        case measure => (simp [intOf]; try omega)
      · have hJ4 := Lib.hid hJx3
        clear hJx3 hy hR
        gi_wp2
        refine bodyPost_ret (results_none rfl _ _ _) rfl ?_
        exact ⟨⟨_, rfl⟩, .inr hJ4.out⟩
    · have hJ4 := Lib.hid hJ
      have HLT := Lib.hid hlt
      obtain rfl : s = es.length := by omega
      clear hJ cb ce hs hlt
      gi_wp2
      go_end0
      exact ⟨⟨_, rfl⟩, .inl ⟨_, HLT.out, hJ4.out⟩⟩
/-- May there be such a location? -/
def Ent.may (x : Ent) : Bool := decide ((0 ≤ x.reg ∧ x.reg ≤ 1099511627776) ∧ (0 ≤ x.at_ ∧ x.at_ ≤ 65535) ∧ (0 ≤ x.size ∧ x.size ≤ 65535))
end Go.Proofs.Ytpihncafmjbccaa

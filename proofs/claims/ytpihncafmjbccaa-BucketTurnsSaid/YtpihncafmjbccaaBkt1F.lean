/-
  bucket: the range over all entries, each place being one of the list's.
  Conditions: none.
-/
import Derived.Test.YtpihncafmjbccaaBkt1
namespace Go.Proofs.Ytpihncafmjbccaa
open Go.RowKit Go.Shelf
attribute [local go_sem] Oper.semAt_some

/-- A place of a list. -/
structure At (n : Nat) where
  v : Nat
  lt : v < n
theorem at_upto : ∀ (n k : Nat), k ≤ n → ∃ l : List (At n), l.map (fun x => x.v) = List.range k
  | n, 0, _ => ⟨[], rfl⟩
  | n, k + 1, h => by
    obtain ⟨l, hl⟩ := at_upto n k (by omega)
    exact ⟨l ++ [At.mk k (by omega)], by rw [List.map_append, hl, List.range_succ]; rfl⟩
set_option maxRecDepth 100000 in
set_option maxHeartbeats 1000000 in
theorem all1F_in (F : Fence) (n : Nat) (h6 : F.fn 34) (hro : F.round = none) (hn : 1 ≤ n) (l B : Nat) (S : Nat → Prop) (es : List Ent) (x1 x2 : Int) (a : Option Addr) (c : Nat) (hlen : es.length ≤ 70368744177664) (J Jx : List (At es.length) → World → Prop)
    (W : World) (hJ : AbidesFrom W.heap.size J)
    (hY : ∀ pre (x : At es.length) W, J pre W → pre.length < es.length → YieldAt F (n - 1) Try.prog l #[.int .i64 (x.v : Nat), .agg (es[x.v]?.getD default).cells] W fun e W' =>
      (e = .returned (.bool true) ∧ J (pre ++ [x]) W' ∧ KeepsAt S W W') ∨ (e = .returned (.bool false) ∧ Jx (pre ++ [x]) W'))
    (n₁ : Nat) (hSg : ∀ k, k < n₁ → S k)
    (hB : W.heap[B]? = some (.cells #[.int .i64 x1, .int .i64 x2, .slice a es.length c] 32 (0, 0)))
    (hE : EntsAt n₁ W (.slice a es.length c) es) (h0 : J [] W) :
    CallsIn F n Try.prog 34 #[.func (.yield l) #[] #[], .pointer (some ⟨B, 0, none⟩)] W fun e W' => (∃ v, e = .returned v) ∧
      ((∃ ys, ys.map (fun x => x.v) = List.range es.length ∧ J ys W') ∨ (∃ pre, (∃ k, k ≤ es.length ∧ pre.map (fun x => x.v) = List.range k) ∧ Jx pre W')) := by
  have hl : (es.length : Int) ≤ 70368744177664 := by omega
  have cB : W.cell? ⟨B, 2, none⟩ = some (.slice a es.length c) := blk_cell hB 2
  have HE := Lib.hid hE
  have HJ := Lib.hid hJ
  have HY := Lib.hid hY
  have HSG := Lib.hid hSg
  clear hB hE hJ hY hSg hlen
  refine callsIn_of_wp Try.func34 rfl h6 ?_ hro
  simp only [Try.ntmps34, List.size_toArray, List.length_cons, List.length_nil, Nat.reduceAdd, Nat.reduceSub, Array.replicate_succ, Array.replicate_zero, List.push_toArray, List.append_toArray, List.nil_append, List.cons_append]
  gi_wp2
  gi_loopw [8] (fun i wr => ∃ k : Nat, k ≤ es.length ∧ i = .int .i64 k ∧ (∃ ls : List (At es.length), ls.map (fun x => x.v) = List.range k ∧ J ls wr) ∧ KeepsAt S W wr)
    (fun i _ => es.length - (intOf i).toNat)
  case atStart => exact ⟨0, Nat.zero_le _, rfl, ⟨[], rfl, h0⟩, KeepsAt.refl _ _⟩
  case round =>
    obtain ⟨k, hk, rfl, ⟨ls, hls, hJs⟩, hnx⟩ := hrel
    by_cases hlt : k < es.length
    · obtain ⟨g, off, rfl, hg, h4⟩ := HE.out.get hlt
      have hs := HSG.out g hg
      obtain ⟨e0, e1, e2, e3⟩ := h4
      have d0 := hnx.cell (p := ⟨g, _, none⟩) hs e0
      have d1 := hnx.cell (p := ⟨g, _, none⟩) hs e1
      have d2 := hnx.cell (p := ⟨g, _, none⟩) hs e2
      have d3 := hnx.cell (p := ⟨g, _, none⟩) hs e3
      have k1 : (k : Int) < es.length := by omega
      have HNX := Lib.hid hnx
      have hlen2 : ls.length = k := by have := congrArg List.length hls; simpa using this
      have HLS : Hid ((ls ++ [At.mk k hlt]).map (fun x => x.v) = List.range (k + 1)) := by unfold Hid; rw [List.map_append, hls, List.range_succ]; rfl
      have HYR : Hid (∀ W1, J ls W1 → YieldAt F (n - 1) Try.prog l #[.int .i64 (k : Nat), .agg (es[k]?.getD default).cells] W1 fun e W' => (e = .returned (.bool true) ∧ J (ls ++ [At.mk k hlt]) W' ∧ KeepsAt S W1 W') ∨ (e = .returned (.bool false) ∧ Jx (ls ++ [At.mk k hlt]) W')) := fun W1 h1 => HY.out ls (At.mk k hlt) W1 h1 (by rw [hlen2]; exact hlt)
      have HJR : Hid (∀ W1, Below wr.heap.size wr W1 → J ls W1) := fun W1 h1 => HJ.out _ _ _ none hJs ⟨h1.os, h1.tape, h1.output, h1.size, fun k hk _ => h1.block k hk⟩ (fun r e => by cases e)
      clear hnx hJs e0 e1 e2 e3 hg
      unfold Ent.cells at HYR
      generalize (es[k]?.getD default) = x at d0 d1 d2 d3 HYR
      obtain ⟨fn, tmps, assign, body, hy, hR⟩ := HYR.out (wr.alloc (.cells #[.int .u64 (U x.hash), .int .i64 x.reg, .int .i64 x.at_, .int .i64 x.size] 40)) (HJR.out _ ((Below.refl _ wr).alloc (Nat.le_refl _) _))
      have HKA : Hid (KeepsAt S wr (wr.alloc (.cells #[.int .u64 (U x.hash), .int .i64 x.reg, .int .i64 x.at_, .int .i64 x.size] 40))) := KeepsAt.alloc _ _
      gi_wp2
      refine hR.mono ?_
      rintro e W3 (⟨rfl, hJ3, hk3⟩ | ⟨rfl, hJx3⟩)
      · gi_wp2
        go_roundw
        case rel => exact ⟨k + 1, by omega, by simp, ⟨_, HLS.out, hJ3⟩, (HNX.out.trans HKA.out).trans hk3⟩
        case measure => simp [intOf]; omega
      · gi_wp2
        refine bodyPost_ret (results_none rfl _ _ _) rfl ?_
        exact ⟨⟨_, rfl⟩, .inr ⟨_, ⟨k + 1, by omega, HLS.out⟩, hJx3⟩⟩
    · obtain rfl : k = es.length := by omega
      gi_wp2
      go_end0
      exact ⟨⟨_, rfl⟩, .inl ⟨_, hls, hJs⟩⟩

theorem all_stopsF (F : Fence) (n : Nat) (h6 : F.fn 34) (hro : F.round = none) (hn : 1 ≤ n) (B : Nat) (S : Nat → Prop) (es : List Ent) (x1 x2 : Int) (a : Option Addr) (c : Nat) (hlen : es.length ≤ 70368744177664) (w : World)
    (n₁ : Nat) (hSg : ∀ k, k < n₁ → S k)
    (hB : w.heap[B]? = some (.cells #[.int .i64 x1, .int .i64 x2, .slice a es.length c] 32 (0, 0)))
    (hE : EntsAt n₁ w (.slice a es.length c) es) (hn₁ : n₁ ≤ w.heap.size) :
    SeqStopsK F n Try.prog 34 #[.pointer (some ⟨B, 0, none⟩)] (fun x : At es.length => #[.int .i64 x.v, .agg (es[x.v]?.getD default).cells]) (KeepsAt S) (fun ys => ys.map (fun x => x.v) = List.range es.length) (fun pre => ∃ k, k ≤ es.length ∧ pre.map (fun x => x.v) = List.range k) es.length w :=
  fun l J Jx W hW hJ _ hY h0 =>
    all1F_in F n h6 hro hn l B S es x1 x2 a c hlen J Jx W hJ hY n₁ hSg ((hW.block B (blk_lt hB)).trans hB) (hE.below (hW.mono hn₁)) h0
end Go.Proofs.Ytpihncafmjbccaa

/-
  bucket: entries as lists; the range over all of them.
  Conditions: none.
-/
import Derived.Test.YtpihncafmjbccaaMem
import Derived.Test.YtpihncafmjbccaaRangeBox
namespace Go.Proofs.Ytpihncafmjbccaa
open Go.RowKit Go.Shelf
attribute [local go_sem] Oper.semAt_some

/-- An entry. -/
structure Ent where
  hash : BitVec 64
  reg : Int
  at_ : Int
  size : Int
instance : Inhabited Ent := ⟨⟨0#64, 0, 0, 0⟩⟩
def Ent.cells (x : Ent) : Array Value := #[.int .u64 (U x.hash), .int .i64 x.reg, .int .i64 x.at_, .int .i64 x.size]
def ents (l : List Ent) : List Value := l.flatMap fun x => x.cells.toList
theorem ents_nil : ents [] = [] := rfl
theorem ents_cons (x : Ent) (l : List Ent) : ents (x :: l) = x.cells.toList ++ ents l := rfl
theorem ents_append (l r : List Ent) : ents (l ++ r) = ents l ++ ents r := by simp [ents]
theorem ents_snoc (l : List Ent) (x : Ent) : ents (l ++ [x]) = ents l ++ x.cells.toList := by rw [ents_append]; simp [ents]
theorem ents_len (l : List Ent) : (ents l).length = 4 * l.length := by
  induction l with
  | nil => rfl
  | cons x l ih => rw [ents_cons, List.length_append, ih, List.length_cons]; show 4 + _ = _; omega
theorem Ent.one (x : Ent) : ∀ u ∈ x.cells.toList, u.oneCell' = true := by
  intro u hu
  have : u = .int .u64 (U x.hash) ∨ u = .int .i64 x.reg ∨ u = .int .i64 x.at_ ∨ u = .int .i64 x.size := by simpa [Ent.cells] using hu
  rcases this with rfl | rfl | rfl | rfl <;> rfl
theorem ents_get : ∀ (l : List Ent) (i : Nat), i < l.length →
    (ents l)[i * 4]? = some (.int .u64 (U (l[i]?.getD default).hash)) ∧ (ents l)[i * 4 + 1]? = some (.int .i64 (l[i]?.getD default).reg) ∧ (ents l)[i * 4 + 2]? = some (.int .i64 (l[i]?.getD default).at_) ∧ (ents l)[i * 4 + 3]? = some (.int .i64 (l[i]?.getD default).size)
  | [], _, h => absurd h (by simp)
  | x :: l, 0, _ => ⟨rfl, rfl, rfl, rfl⟩
  | x :: l, i + 1, h => by
    have hl : x.cells.toList.length = 4 := rfl
    have := ents_get l i (by simpa using h)
    rw [ents_cons]
    refine ⟨?_, ?_, ?_, ?_⟩
    · rw [List.getElem?_append_right (by omega), show (i + 1) * 4 - x.cells.toList.length = i * 4 by omega]; exact this.1
    · rw [List.getElem?_append_right (by omega), show (i + 1) * 4 + 1 - x.cells.toList.length = i * 4 + 1 by omega]; exact this.2.1
    · rw [List.getElem?_append_right (by omega), show (i + 1) * 4 + 2 - x.cells.toList.length = i * 4 + 2 by omega]; exact this.2.2.1
    · rw [List.getElem?_append_right (by omega), show (i + 1) * 4 + 3 - x.cells.toList.length = i * 4 + 3 by omega]; exact this.2.2.2

/-- The four cells of an entry. -/
def EntAt (w : World) (g o : Nat) (x : Ent) : Prop := w.cell? ⟨g, o, none⟩ = some (.int .u64 (U x.hash)) ∧ w.cell? ⟨g, o + 1, none⟩ = some (.int .i64 x.reg) ∧ w.cell? ⟨g, o + 2, none⟩ = some (.int .i64 x.at_) ∧ w.cell? ⟨g, o + 3, none⟩ = some (.int .i64 x.size)
/-- A slice of entries, in a block below n₀. -/
def EntsAt (n₀ : Nat) (w : World) (v : Value) (l : List Ent) : Prop :=
  ∃ a cap, v = .slice a l.length cap ∧ l.length ≤ cap ∧ (l = [] ∨ ∃ g off, a = some ⟨g, off, none⟩ ∧ g < n₀ ∧ ∀ i, i < l.length → EntAt w g (off + i * 4) (l[i]?.getD default))
theorem EntsAt.keep {S : Nat → Prop} {n m : Nat} {w w' : World} {v : Value} {l : List Ent} (h : EntsAt n w v l) (hk : KeepsAt S w w') (hS : ∀ k, v.ownBlock = some k → k < n → S k) (hm : n ≤ m) : EntsAt m w' v l := by
  obtain ⟨a, cap, rfl, hl, h⟩ := h
  refine ⟨a, cap, rfl, hl, ?_⟩
  rcases h with h | ⟨g, off, rfl, hg, hc⟩
  · exact .inl h
  · refine .inr ⟨g, off, rfl, Nat.lt_of_lt_of_le hg hm, fun i hi => ?_⟩
    obtain ⟨h0, h1, h2, h3⟩ := hc i hi
    have hs := hS g rfl hg
    exact ⟨hk.cell (p := ⟨g, _, none⟩) hs h0, hk.cell (p := ⟨g, _, none⟩) hs h1, hk.cell (p := ⟨g, _, none⟩) hs h2, hk.cell (p := ⟨g, _, none⟩) hs h3⟩
theorem EntsAt.below {n : Nat} {w w' : World} {v : Value} {l : List Ent} (h : EntsAt n w v l) (hb : Below n w w') : EntsAt n w' v l :=
  h.keep (KeepsAt.of_below (S := fun k => k < n) hb fun _ hk => hk) (fun _ _ hk => hk) (Nat.le_refl _)
theorem EntsAt.mono {n m : Nat} {w : World} {v : Value} {l : List Ent} (h : EntsAt n w v l) (hm : n ≤ m) : EntsAt m w v l := h.keep (KeepsAt.refl (fun _ => True) w) (fun _ _ _ => trivial) hm
theorem EntsAt.tight {n : Nat} {w : World} {v : Value} {l : List Ent} (h : EntsAt n w v l) : EntsAt w.heap.size w v l := by
  obtain ⟨a, cap, rfl, hl, h⟩ := h
  refine ⟨a, cap, rfl, hl, ?_⟩
  by_cases he : l = []
  · exact .inl he
  rcases h with h | ⟨g, off, rfl, hg, hc⟩
  · exact .inl h
  · refine .inr ⟨g, off, rfl, ?_, hc⟩
    have hpos : 0 < l.length := List.length_pos_iff.2 he
    exact World.block_lt_of_cell? _ _ (hc 0 hpos).1
theorem EntsAt.next {w w' : World} {v : Value} {l : List Ent} (h : EntsAt w.heap.size w v l) (hb : Below w.heap.size w w') : EntsAt w'.heap.size w' v l := (h.below hb).mono hb.size
theorem EntsAt.nil (n : Nat) (w : World) (a : Option Addr) (c : Nat) : EntsAt n w (.slice a 0 c) [] := ⟨a, c, rfl, Nat.zero_le _, .inl rfl⟩
theorem EntsAt.slice {n : Nat} {w : World} {v : Value} {l : List Ent} (h : EntsAt n w v l) : ∃ a c, v = .slice a l.length c ∧ l.length ≤ c := by
  obtain ⟨a, c, rfl, hl, _⟩ := h; exact ⟨a, c, rfl, hl⟩
theorem EntsAt.get {n : Nat} {w : World} {a : Option Addr} {k c : Nat} {l : List Ent} (h : EntsAt n w (.slice a k c) l) {i : Nat} (hi : i < l.length) : ∃ g off, a = some ⟨g, off, none⟩ ∧ g < n ∧ EntAt w g (off + i * 4) (l[i]?.getD default) := by
  obtain ⟨a', c', e, hl, h⟩ := h
  cases e
  rcases h with h | ⟨g, off, rfl, hg, hc⟩
  · subst h; simp at hi
  · exact ⟨g, off, rfl, hg, hc i hi⟩
theorem EntsAt.of_owns {w : World} {base : Nat} {e : TypeId} {v : Value} {n : Nat} {l : List Ent} (h : w.ownsRow base e 4 v n (ents l)) (hn : n = l.length) : EntsAt w.heap.size w v l := by
  subst hn
  have h0 := h
  rcases h.2 with ⟨rfl, h1⟩ | ⟨g, cap, cur, rfl, _, hg, hn, _⟩
  · have : l = [] := List.eq_nil_of_length_eq_zero h1
    subst this; exact EntsAt.nil _ _ _ _
  · refine ⟨_, cap, rfl, hn, .inr ⟨g, 0, rfl, (Array.getElem?_eq_some_iff.1 hg).1, fun i hi => ?_⟩⟩
    obtain ⟨q0, q1, q2, q3⟩ := ents_get l i hi
    have c0 := h0.cells (g := g) rfl _ _ q0
    have c1 := h0.cells (g := g) rfl _ _ q1
    have c2 := h0.cells (g := g) rfl _ _ q2
    have c3 := h0.cells (g := g) rfl _ _ q3
    rw [add_plain, Nat.zero_add] at c0 c1 c2 c3
    refine ⟨?_, ?_, ?_, ?_⟩ <;> rw [Nat.zero_add] <;> assumption

/-! The range over all -/
set_option maxRecDepth 100000 in
set_option maxHeartbeats 1000000 in
theorem all1_in (F : Fence) (n : Nat) (h6 : F.fn 34) (hro : F.round = none) (hn : 1 ≤ n) (l B : Nat) (S : Nat → Prop) (es : List Ent) (x1 x2 : Int) (a : Option Addr) (c : Nat) (hlen : es.length ≤ 70368744177664) (J Jx : List Nat → World → Prop)
    (W : World) (hJ : AbidesFrom W.heap.size J)
    (hY : ∀ pre x W, J pre W → pre.length < es.length → YieldAt F (n - 1) Try.prog l #[.int .i64 (x : Nat), .agg (es[x]?.getD default).cells] W fun e W' =>
      (e = .returned (.bool true) ∧ J (pre ++ [x]) W' ∧ KeepsAt S W W') ∨ (e = .returned (.bool false) ∧ Jx (pre ++ [x]) W'))
    (n₁ : Nat) (hSg : ∀ k, k < n₁ → S k)
    (hB : W.heap[B]? = some (.cells #[.int .i64 x1, .int .i64 x2, .slice a es.length c] 32 (0, 0)))
    (hE : EntsAt n₁ W (.slice a es.length c) es) (h0 : J [] W) :
    CallsIn F n Try.prog 34 #[.func (.yield l) #[] #[], .pointer (some ⟨B, 0, none⟩)] W fun e W' => (∃ v, e = .returned v) ∧
      ((∃ ys, ys = List.range es.length ∧ J ys W') ∨ (∃ pre, (∃ k, k ≤ es.length ∧ pre = List.range k) ∧ Jx pre W')) := by
  have hl : (es.length : Int) ≤ 70368744177664 := by omega
  have cB : W.cell? ⟨B, 2, none⟩ = some (.slice a es.length c) := blk_cell hB 2
  have HE := Lib.hid hE
  have HJ := Lib.hid hJ
  have HY := Lib.hid hY
  have HSG := Lib.hid hSg
  clear hB hE hJ hY hSg hlen
  refine callsIn_of_wp Try.func34 rfl h6 ?_ hro
  simp only [Try.ntmps34, List.size_toArray, List.length_cons, List.length_nil, Nat.reduceAdd, Nat.reduceSub, Array.replicate_succ, Array.replicate_zero, List.push_toArray, List.append_toArray, List.nil_append, List.cons_append]
  gi_wp2
  gi_loopw [8] (fun i wr => ∃ k : Nat, k ≤ es.length ∧ i = .int .i64 k ∧ J (List.range k) wr ∧ KeepsAt S W wr)
    (fun i _ => es.length - (intOf i).toNat)
  case atStart => exact ⟨0, Nat.zero_le _, rfl, h0, KeepsAt.refl _ _⟩
  case round =>
    obtain ⟨k, hk, rfl, hJs, hnx⟩ := hrel
    by_cases hlt : k < es.length
    · obtain ⟨g, off, rfl, hg, h4⟩ := HE.out.get hlt
      have hs := HSG.out g hg
      obtain ⟨e0, e1, e2, e3⟩ := h4
      have d0 := hnx.cell (p := ⟨g, _, none⟩) hs e0
      have d1 := hnx.cell (p := ⟨g, _, none⟩) hs e1
      have d2 := hnx.cell (p := ⟨g, _, none⟩) hs e2
      have d3 := hnx.cell (p := ⟨g, _, none⟩) hs e3
      have k1 : (k : Int) < es.length := by omega
      have HNX := Lib.hid hnx
      have HYR : Hid (∀ W1, J (List.range k) W1 → YieldAt F (n - 1) Try.prog l #[.int .i64 (k : Nat), .agg (es[k]?.getD default).cells] W1 fun e W' => (e = .returned (.bool true) ∧ J (List.range (k + 1)) W' ∧ KeepsAt S W1 W') ∨ (e = .returned (.bool false) ∧ Jx (List.range (k + 1)) W')) := fun W1 h1 => by
        have := HY.out (List.range k) k W1 h1 (by simpa using hlt)
        rw [← List.range_succ] at this
        exact this
      have HJR : Hid (∀ W1, Below wr.heap.size wr W1 → J (List.range k) W1) := fun W1 h1 => HJ.out _ _ _ none hJs ⟨h1.os, h1.tape, h1.output, h1.size, fun k hk _ => h1.block k hk⟩ (fun r e => by cases e)
      clear hnx hJs e0 e1 e2 e3 hg
      unfold Ent.cells at HYR
      generalize (es[k]?.getD default) = x at d0 d1 d2 d3 HYR
      obtain ⟨fn, tmps, assign, body, hy, hR⟩ := HYR.out (wr.alloc (.cells #[.int .u64 (U x.hash), .int .i64 x.reg, .int .i64 x.at_, .int .i64 x.size] 40)) (HJR.out _ ((Below.refl _ wr).alloc (Nat.le_refl _) _))
      have HKA : Hid (KeepsAt S wr (wr.alloc (.cells #[.int .u64 (U x.hash), .int .i64 x.reg, .int .i64 x.at_, .int .i64 x.size] 40))) := KeepsAt.alloc _ _
      gi_wp2
      refine hR.mono ?_
      rintro e W3 (⟨rfl, hJ3, hk3⟩ | ⟨rfl, hJx3⟩)
      · gi_wp2
        go_roundw
        case rel => exact ⟨k + 1, by omega, by simp, hJ3, (HNX.out.trans HKA.out).trans hk3⟩
        case measure => simp [intOf]; omega
      · gi_wp2
        refine bodyPost_ret (results_none rfl _ _ _) rfl ?_
        exact ⟨⟨_, rfl⟩, .inr ⟨_, ⟨k + 1, by omega, rfl⟩, hJx3⟩⟩
    · obtain rfl : k = es.length := by omega
      gi_wp2
      go_end0
      exact ⟨⟨_, rfl⟩, .inl ⟨_, rfl, hJs⟩⟩

set_option maxHeartbeats 400000 in
theorem all_in (F : Fence) (n : Nat) (h4 : F.fn 22) (hro : F.round = none) (x1 x2 : Int) (a : Option Addr) (m c : Nat) (w : World) :
    CallsIn F n Try.prog 22 #[.agg #[.int .i64 x1, .int .i64 x2, .slice a m c]] w fun e w' => e = .returned (.func (.func 34) #[] #[.pointer (some ⟨w.heap.size, 0, none⟩)]) ∧ w.alloc (.cells #[.int .i64 x1, .int .i64 x2, .slice a m c] 32) = w' := by
  refine callsIn_of_wp Try.func22 rfl h4 ?_ hro
  simp only [Try.ntmps22, List.size_toArray, List.length_cons, List.length_nil, Nat.reduceAdd, Nat.reduceSub, Array.replicate_succ, Array.replicate_zero, List.push_toArray, List.append_toArray, List.nil_append, List.cons_append]
  gi_wp2
  go_ret
  exact ⟨rfl, rfl⟩
theorem all_stops (F : Fence) (n : Nat) (h6 : F.fn 34) (hro : F.round = none) (hn : 1 ≤ n) (B : Nat) (S : Nat → Prop) (es : List Ent) (x1 x2 : Int) (a : Option Addr) (c : Nat) (hlen : es.length ≤ 70368744177664) (w : World)
    (n₁ : Nat) (hSg : ∀ k, k < n₁ → S k)
    (hB : w.heap[B]? = some (.cells #[.int .i64 x1, .int .i64 x2, .slice a es.length c] 32 (0, 0)))
    (hE : EntsAt n₁ w (.slice a es.length c) es) (hn₁ : n₁ ≤ w.heap.size) :
    SeqStopsK F n Try.prog 34 #[.pointer (some ⟨B, 0, none⟩)] (fun x : Nat => #[.int .i64 x, .agg (es[x]?.getD default).cells]) (KeepsAt S) (fun ys => ys = List.range es.length) (fun pre => ∃ k, k ≤ es.length ∧ pre = List.range k) es.length w :=
  fun l J Jx W hW hJ _ hY h0 =>
    all1_in F n h6 hro hn l B S es x1 x2 a c hlen J Jx W hJ hY n₁ hSg ((hW.block B (blk_lt hB)).trans hB) (hE.below (hW.mono hn₁)) h0
end Go.Proofs.Ytpihncafmjbccaa

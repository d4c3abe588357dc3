/-
  Reader.Numbers: the function that is ranged over.
  Conditions: none.
-/
import Derived.Test.YtocjdhkjlnkgaaaNums1
import Derived.Test.YtocjdhkjlnkgaaaSeenB
import Derived.Maps.OwnIn
import Derived.BigRegionIn
namespace Go.Proofs.Ytocjdhkjlnkgaaa
open Go.RowKit Go.Shelf
attribute [local go_sem] Oper.semAt_some

/-- The numbers that are read one by one. -/
def nums (m : Nat) (bs : List (BitVec 8)) (k : Nat) : List (BitVec 64) := (List.range k).map fun i => leOf ((bs.drop (i * m)).take m)
theorem nums_succ (m : Nat) (bs : List (BitVec 8)) (k : Nat) : nums m bs (k + 1) = nums m bs k ++ [leOf ((bs.drop (k * m)).take m)] := by simp [nums, List.range_succ]
theorem nums_len (m : Nat) (bs : List (BitVec 8)) (k : Nat) : (nums m bs k).length = k := by simp [nums]
/-- The cells of numbers. -/
def cells64 (xs : List (BitVec 64)) : List Value := xs.map fun x => .int .u64 (U x)
theorem cells64_snoc (xs : List (BitVec 64)) (x : BitVec 64) : cells64 (xs ++ [x]) = cells64 xs ++ [.int .u64 (U x)] := by simp [cells64]

/-- What a round finds: the list in its box, not full. -/
def NPre (n₀ Bx most : Nat) (s : List (BitVec 64) × Value) (W : World) : Prop := Boxed W Bx 25 s.2 ∧ W.ownsRow n₀ 27 1 s.2 s.1.length (cells64 s.1) ∧ s.1.length < most ∧ n₀ < Bx ∧ Boxed W n₀ 3 (.int .i64 most)
/-- What a round leaves: the list with one more. -/
def NMid (n₀ Bx : Nat) (s : List (BitVec 64) × Value) (x : BitVec 64) (W W' : World) : Prop := ∃ v', Boxed W' Bx 25 v' ∧ W'.ownsRow n₀ 27 1 v' (s.1 ++ [x]).length (cells64 (s.1 ++ [x])) ∧ Below n₀ W W' ∧
  KeepsAt (fun i => i ≠ Bx ∧ s.2.ownBlock ≠ some i) W W'
def NBody (n₀ Bx most : Nat) (s : List (BitVec 64) × Value) (x : BitVec 64) (W W' : World) : Prop := NMid n₀ Bx s x W W' ∧ s.1.length + 1 ≠ most
def NStop (n₀ Bx most : Nat) (s : List (BitVec 64) × Value) (x : BitVec 64) (W W' : World) : Prop := NMid n₀ Bx s x W W' ∧ s.1.length + 1 = most
/-- What may turn. -/
def nS (n₀ R : Nat) : Nat → Prop := fun i => i = R ∨ n₀ ≤ i
/-- What is there at the end. -/
def NEnd (n₀ Bx R m most : Nat) (bs : List (BitVec 8)) (w W : World) : Prop := ∃ (k : Nat) (v : Value), k = min (bs.length / m) most ∧ Boxed W Bx 25 v ∧ W.ownsRow n₀ 27 1 v k (cells64 (nums m bs k)) ∧ Rd n₀ W R (bs.drop (k * m)) ∧ Moves (nS n₀ R) w W

theorem boxed_put {W : World} {B l : Nat} {t : TypeId} {v : Value} {o : Obj} (h : Boxed W B t v) (o' : Obj) (hl : W.heap[l]? = some o) (ho : o.isCells = false) : Boxed (W.putObj l o') B t v := KeepsAt.put (S := fun _ => True) W l o o' hl ho B trivial _ _ _ h
theorem bytes_keepsAt {S : Nat → Prop} {n : Nat} {W W' : World} {u : Value} {bs : List (BitVec 8)} (h : BytesAt n W u bs) (hk : KeepsAt S W W') (hs : ∀ k, k < n → S k) : BytesAt n W' u bs := by
  obtain ⟨a, cap, rfl, hl, h0, h⟩ := h
  refine ⟨a, cap, rfl, hl, h0, ?_⟩
  rcases h with h | ⟨g, off, rfl, hg, hc⟩
  · exact .inl h
  · exact .inr ⟨g, off, rfl, hg, fun j hj => hk.cell (p := ⟨g, off + j, none⟩) (hs g hg) (hc j hj)⟩
theorem moves_put {S : Nat → Prop} {w W : World} {l : Nat} (h : Moves S w W) (hS : S l) (o' : Obj) : Moves S w (W.putObj l o') :=
  ⟨h.os, h.tape, h.output, by rw [World.putObj_size]; exact h.size, fun k hk hs => (World.putObj_heap_other (fun e : k = l => hs (by rw [e]; exact hS))).trans (h.block k hk hs)⟩
theorem Rd.put {n₀ R l : Nat} {W : World} {left : List (BitVec 8)} {o : Obj} (h : Rd n₀ W R left) (o' : Obj) (hl : W.heap[l]? = some o) (ho : o.isCells = false) : Rd n₀ (W.putObj l o') R left := by
  obtain ⟨v, h1, h2⟩ := h
  have hk := KeepsAt.put (S := fun _ => True) W l o o' hl ho
  exact ⟨v, hk R trivial _ _ _ h1, bytes_keepsAt h2 hk (fun _ _ => trivial)⟩
theorem NPre.turn {n₀ Bx most : Nat} {s : List (BitVec 64) × Value} {W : World} {l : Nat} {o o' : Obj} (hl : W.heap[l]? = some o) (ho : o.isCells = false) (h : NPre n₀ Bx most s W) : NPre n₀ Bx most s (W.putObj l o') := by
  obtain ⟨h1, h2, h3, h4, h5⟩ := h
  exact ⟨boxed_put h1 o' hl ho, ownsRow_putObj h2 o' hl ho, h3, h4, boxed_put h5 o' hl ho⟩
theorem NMid.turn {n₀ Bx : Nat} {s : List (BitVec 64) × Value} {x : BitVec 64} {W W' : World} {l : Nat} {o o1 o2 o' : Obj} (hn : n₀ ≤ l) (hl : W.heap[l]? = some o) (ho : o.isCells = false) (hl' : W'.heap[l]? = some o1) (ho1 : o1.isCells = false)
    (h : NMid n₀ Bx s x (W.putObj l o2) W') : NMid n₀ Bx s x W (W'.putObj l o') := by
  obtain ⟨v', h1, h2, h3, h4⟩ := h
  have hlt := (Array.getElem?_eq_some_iff.1 hl).1
  have b1 : Below n₀ W (W.putObj l o2) := (Below.refl n₀ W).grown (grownBy_putObj' _ l o2) (by omega) (fun k e => by cases e; exact hn)
  have b2 : Below n₀ W' (W'.putObj l o') := (Below.refl n₀ W').grown (grownBy_putObj' _ l o') (by have := (Array.getElem?_eq_some_iff.1 hl').1; omega) (fun k e => by cases e; exact hn)
  exact ⟨v', boxed_put h1 o' hl' ho1, ownsRow_putObj h2 o' hl' ho1, (b1.trans h3).trans b2, (KeepsAt.put _ l o o2 hl ho).trans (h4.trans (KeepsAt.put _ l o1 o' hl' ho1))⟩
theorem NEnd.turn {n₀ Bx R m most : Nat} {bs : List (BitVec 8)} {w W : World} {l : Nat} {o o' : Obj} (hn : n₀ ≤ l) (hl : W.heap[l]? = some o) (ho : o.isCells = false) (h : NEnd n₀ Bx R m most bs w W) : NEnd n₀ Bx R m most bs w (W.putObj l o') := by
  obtain ⟨k, v, h1, h2, h3, h4, h5⟩ := h
  exact ⟨k, v, h1, boxed_put h2 o' hl ho, ownsRow_putObj h3 o' hl ho, h4.put o' hl ho, moves_put h5 (.inr hn) o'⟩

theorem NPre.below {n₀ Bx most : Nat} {s : List (BitVec 64) × Value} {W W' : World} (h : NPre n₀ Bx most s W) (hb : Below W.heap.size W W') : NPre n₀ Bx most s W' := by
  obtain ⟨h1, h2, h3, h4, h5⟩ := h
  exact ⟨(hb.block _ h1.lt).trans h1, ownsRow_below h2 hb, h3, h4, (hb.block _ h5.lt).trans h5⟩
theorem NEnd.before {n₀ Bx R m most : Nat} {bs : List (BitVec 8)} {w W0 W : World} (h : NEnd n₀ Bx R m most bs W0 W) (hb : Below n₀ w W0) : NEnd n₀ Bx R m most bs w W := by
  obtain ⟨k, v, h1, h2, h3, h4, h5⟩ := h
  have h6 : Moves (nS n₀ R) w W0 := ⟨hb.os, hb.tape, hb.output, hb.size, fun i _ hs => hb.block i (by have : ¬ n₀ ≤ i := fun e => hs (.inr e); omega)⟩
  exact ⟨k, v, h1, h2, h3, h4, h6.trans h5 (fun _ _ e => e)⟩

/-- What the loop keeps. -/
def NAt (n₀ Bx Br Bb R m most : Nat) (bs : List (BitVec 8)) (w : World) (k : Nat) (v : Value) (W : World) : Prop :=
  NPre n₀ Bx most (nums m bs k, v) W ∧ Rd n₀ W R (bs.drop (k * m)) ∧ Moves (nS n₀ R) w W ∧ k * m ≤ bs.length ∧
  W.heap[Br]? = some (.cells #[.pointer (some ⟨R, 0, none⟩)] 23 (0, 0)) ∧ W.heap[Bb]? = some (.cells #[.int .i64 m] 3 (0, 0))
theorem NAt.fin {n₀ Bx Br Bb R m most : Nat} {bs : List (BitVec 8)} {w : World} {k : Nat} {v : Value} {W : World} (h : NAt n₀ Bx Br Bb R m most bs w k v W) (hm : 1 ≤ m) (hr : (bs.drop (k * m)).length < m) : NEnd n₀ Bx R m most bs w W := by
  obtain ⟨⟨p1, p2, p3, p4, _⟩, h2, h3, h4, _, _⟩ := h
  have p3' : (nums m bs k).length < most := p3
  have p2' : W.ownsRow n₀ 27 1 v (nums m bs k).length (cells64 (nums m bs k)) := p2
  rw [nums_len] at p2' p3'
  rw [List.length_drop] at hr
  have e : bs.length / m = k := by
    rw [Nat.div_eq_iff (by omega)]
    constructor <;> omega
  exact ⟨k, v, by rw [e]; omega, p1, p2', h2, h3⟩
/-- A number was read. -/
theorem NAt.read {n₀ Bx Br Bb R m most : Nat} {bs : List (BitVec 8)} {w : World} {k : Nat} {v : Value} {W W1 : World} (h : NAt n₀ Bx Br Bb R m most bs w k v W) (hm : Moves (rS R) W W1) (hR : R < n₀) (hBr : n₀ ≤ Br) (hBb : n₀ ≤ Bb) :
    NPre n₀ Bx most (nums m bs k, v) W1 ∧ Moves (nS n₀ R) w W1 ∧ W1.heap[Br]? = some (.cells #[.pointer (some ⟨R, 0, none⟩)] 23 (0, 0)) ∧ W1.heap[Bb]? = some (.cells #[.int .i64 m] 3 (0, 0)) := by
  obtain ⟨⟨p1, p2, p3, p4, p5⟩, h2, h3, h4, h5, h6⟩ := h
  have hk : ∀ g o, n₀ ≤ g → W.heap[g]? = some o → W1.heap[g]? = some o := fun g o hg ho => (hm.block g (blk_lt ho) (fun e => by have e' : g = R := e; omega)).trans ho
  refine ⟨⟨hk _ _ (Nat.le_of_lt p4) p1, hm.row p2 (fun j e1 e2 => ?_), p3, p4, hk _ _ (Nat.le_refl _) p5⟩, h3.trans hm (fun i _ e => .inl e), hk _ _ hBr h5, hk _ _ hBb h6⟩
  have := (p2.lt j e1).1
  have e' : j = R := e2
  omega
/-- The number has come into the list. -/
theorem NAt.next {n₀ Bx Br Bb R m most : Nat} {bs : List (BitVec 8)} {w : World} {k : Nat} {v : Value} {W1 W' : World} (hp : NPre n₀ Bx most (nums m bs k, v) W1) (hd : Rd n₀ W1 R ((bs.drop (k * m)).drop m)) (hmv : Moves (nS n₀ R) w W1)
    (c5 : W1.heap[Br]? = some (.cells #[.pointer (some ⟨R, 0, none⟩)] 23 (0, 0))) (c6 : W1.heap[Bb]? = some (.cells #[.int .i64 m] 3 (0, 0))) (hR : R < n₀) (hBx : Br ≠ Bx ∧ Bb ≠ Bx) (hlen : m ≤ (bs.drop (k * m)).length) (hkm : k * m ≤ bs.length)
    (hb : NMid n₀ Bx (nums m bs k, v) (leOf ((bs.drop (k * m)).take m)) W1 W') : ∃ v', Boxed W' Bx 25 v' ∧ W'.ownsRow n₀ 27 1 v' (k + 1) (cells64 (nums m bs (k + 1))) ∧ Rd n₀ W' R (bs.drop ((k + 1) * m)) ∧ Moves (nS n₀ R) w W' ∧ (k + 1) * m ≤ bs.length ∧
      W'.heap[Br]? = some (.cells #[.pointer (some ⟨R, 0, none⟩)] 23 (0, 0)) ∧ W'.heap[Bb]? = some (.cells #[.int .i64 m] 3 (0, 0)) ∧ Boxed W' n₀ 3 (.int .i64 most) := by
  obtain ⟨v', h1, h2, h3, h4⟩ := hb
  obtain ⟨p1, p2, p3, p4, p5⟩ := hp
  have e : (k + 1) * m = k * m + m := by rw [Nat.add_mul, Nat.one_mul]
  rw [List.length_drop] at hlen
  have h2' : W'.ownsRow n₀ 27 1 v' (nums m bs k ++ [leOf ((bs.drop (k * m)).take m)]).length (cells64 (nums m bs k ++ [leOf ((bs.drop (k * m)).take m)])) := h2
  rw [← nums_succ, nums_len] at h2'
  obtain ⟨u, r1, r2⟩ := hd
  rw [List.drop_drop, ← e] at r2
  refine ⟨v', h1, h2', ⟨u, (h3.block R hR).trans r1, r2.below h3⟩, ?_, by rw [e]; omega, h4 Br ⟨hBx.1, own_ne p2 c5 (by decide)⟩ _ _ _ c5, h4 Bb ⟨hBx.2, own_ne p2 c6 (by decide)⟩ _ _ _ c6, h4 n₀ ⟨Nat.ne_of_lt p4, own_ne p2 p5 (by decide)⟩ _ _ _ p5⟩
  exact hmv.trans (T := fun i => n₀ ≤ i) ⟨h3.os, h3.tape, h3.output, h3.size, fun i hi hn => h3.block i (by have hn' : ¬ n₀ ≤ i := hn; omega)⟩ (fun i _ hi => .inr hi)

/-- How much is left of a reader's bytes. -/
def leftLen (R : Nat) (w : World) : Nat := match w.cell? ⟨R, 0, none⟩ with | some (.slice _ n _) => n | _ => 0
theorem Rd.len {n₀ R : Nat} {w : World} {left : List (BitVec 8)} (h : Rd n₀ w R left) : leftLen R w = left.length := by
  obtain ⟨v, h, a, c, rfl, _⟩ := h
  unfold leftLen
  rw [blk_cell h]
  rfl

set_option maxRecDepth 100000 in
set_option maxHeartbeats 4000000 in
theorem left1_seen (l Br Bb Bx n₀ R m most B : Nat) (bs : List (BitVec 8)) (v0 : Value) (hlen : bs.length ≤ 1073741824) (Rdy Over : World → Prop) (W0 : World) (hm : mayB m = true) (hm1 : 1 ≤ m) (hm8 : m ≤ 8)
    (hA0 : NAt n₀ Bx Br Bb R m most bs W0 0 v0 W0) (hR : R < n₀) (hBr : n₀ ≤ Br) (hBb : n₀ ≤ Bb) (hBrx : Br ≠ Bx) (hBbx : Bb ≠ Bx) (hn0 : n₀ ≤ W0.heap.size) (hBn : n₀ ≤ B)
    (hRdy : ∀ W W', Rdy W → KeepsFrom B W W' → Rdy W') (h0 : Rdy W0)
    (hY : ∀ s x W, Rdy W → W0.heap.size ≤ W.heap.size → NPre n₀ Bx most s W → YieldAt Fence.wide 1 Try.prog l #[.int .u64 (U x)] W fun e W' => (e = .returned (.bool true) ∧ Rdy W' ∧ NBody n₀ Bx most s x W W') ∨ (e = .returned (.bool false) ∧ Over W' ∧ NStop n₀ Bx most s x W W')) :
    CallsIn Fence.wide 2 Try.prog 20 #[.func (.yield l) #[] #[], .pointer (some ⟨Br, 0, none⟩), .pointer (some ⟨Bb, 0, none⟩)] W0 fun e W' => (∃ v, e = .returned v) ∧ ((Rdy W' ∧ NEnd n₀ Bx R m most bs W0 W') ∨ (Over W' ∧ NEnd n₀ Bx R m most bs W0 W')) := by
  have HN := Lib.hid (fun left W (h : Rd n₀ W R left) (hs : n₀ ≤ W.heap.size) (hn : m ≤ left.length) (hl : left.length ≤ 1099511627776) => callsIn_wide (n := 1).2 (numberR_any n₀ R m left W h hs hm hm1 hm8 hn hl))
  have t1 : Fence.wide.fn 6 := trivial
  have HK := Lib.hid (show R < n₀ ∧ n₀ ≤ Br ∧ n₀ ≤ Bb ∧ Br ≠ Bx ∧ Bb ≠ Bx ∧ n₀ ≤ W0.heap.size ∧ n₀ ≤ B ∧ bs.length ≤ 1073741824 ∧ 1 ≤ m from ⟨hR, hBr, hBb, hBrx, hBbx, hn0, hBn, hlen, hm1⟩)
  have HR := Lib.hid hRdy
  have HY := Lib.hid hY
  have HA0 := Lib.hid hA0
  have m8 : (m : Int) ≤ 8 := by omega
  have m1 : (1 : Int) ≤ m := by omega
  clear hlen hm hm1 hm8 hA0 hR hBr hBb hBrx hBbx hn0 hBn hRdy hY
  refine callsIn_of_wp Try.func20 rfl trivial ?_ rfl
  simp only [Try.ntmps20, List.size_toArray, List.length_cons, List.length_nil, Nat.reduceAdd, Nat.reduceSub, Array.replicate_succ, Array.replicate_zero, List.push_toArray, List.append_toArray, List.nil_append, List.cons_append]
  gi_wp2
  gi_loopw [4] (fun _ wr => ∃ (k : Nat) (v : Value), NAt n₀ Bx Br Bb R m most bs W0 k v wr ∧ Rdy wr ∧ W0.heap.size ≤ wr.heap.size) (fun _ wr => leftLen R wr)
  case atStart => exact ⟨0, v0, HA0.out, h0, Nat.le_refl _⟩
  case round =>
    obtain ⟨k, v, hA, hRw, hsz⟩ := hrel
    have HA := Lib.hid hA
    have HRW := Lib.hid hRw
    have HSZ := Lib.hid hsz
    obtain ⟨_, ⟨vr, hblk, hbv⟩, _, _, c5, c6⟩ := hA
    have cr : wr.cell? ⟨Br, 0, none⟩ = some (.pointer (some ⟨R, 0, none⟩)) := blk_cell c5 0
    have cb : wr.cell? ⟨Bb, 0, none⟩ = some (.int .i64 m) := blk_cell c6 0
    have cv : wr.cell? ⟨R, 0, none⟩ = some vr := blk_cell hblk 0
    obtain ⟨ar, cc, rfl, _⟩ := id hbv
    have HLV := Lib.hid (Rd.len HA.out.2.1)
    obtain ⟨L, hL⟩ : ∃ L, (bs.drop (k * m)).length = L := ⟨_, rfl⟩
    rw [hL] at cv HLV
    have HL := Lib.hid hL
    have hL2 : L ≤ 1073741824 := by
      rw [List.length_drop] at hL
      have := HK.out.2.2.2.2.2.2.2.1
      omega
    have l1 : (L : Int) ≤ 1073741824 := by omega
    clear hRw hsz hblk hbv c5 c6 h0 HA0 hL
    by_cases hlt : m ≤ L
    · have l2 : (m : Int) ≤ L := by omega
      have HRD := Lib.hid (HR.out wr wr.drew HRW.out ⟨Nat.le_refl _, fun _ _ _ h _ => h⟩)
      have HAD : Hid (NAt n₀ Bx Br Bb R m most bs W0 k v wr.drew) := ⟨HA.out.1, HA.out.2.1, HA.out.2.2.1.drew, HA.out.2.2.2⟩
      have HSD : Hid (W0.heap.size ≤ wr.drew.heap.size) := HSZ.out
      have HND := Lib.hid (HN.out _ wr.drew HAD.out.2.1 (Nat.le_trans HK.out.2.2.2.2.2.1 HSD.out) (by rw [HL.out]; exact hlt) (by rw [HL.out]; omega))
      generalize hx : leOf ((bs.drop (k * m)).take m) = x at HND
      gi_wp2
      gi_region
      gi_wp2_with (gi_at_call 6; (with_reducible refine HND.out.mono ?_); rintro e w1 ⟨rfl, hrd1, hmv1⟩; have HRD1 := Lib.hid hrd1; have HMV1 := Lib.hid hmv1; obtain ⟨p1, p2, p3, p4⟩ := HAD.out.read hmv1 HK.out.1 HK.out.2.1 HK.out.2.2.1; have HP1 := Lib.hid p1; have HP2 := Lib.hid p2; have HP3 := Lib.hid p3; have HP4 := Lib.hid p4; have HRY1 := Lib.hid (HR.out _ _ HRD.out ⟨hmv1.size, fun i o hi ho _ => (hmv1.block i (blk_lt ho) (fun e' => by have e2 : i = R := e'; have := HK.out.1; have := HK.out.2.2.2.2.2.2.1; omega)).trans ho⟩); obtain ⟨fn, tmps, assign, body, hy, hRR⟩ := HY.out (nums m bs k, v) x w1 HRY1.out (Nat.le_trans HSD.out hmv1.size) p1; have HRR := Lib.hid hRR; clear hrd1 hmv1 p1 p2 p3 p4 hRR)
      refine HRR.out.mono ?_
      rintro e W3 (⟨rfl, hr3, hb3⟩ | ⟨rfl, ho3, hb3⟩)
      · obtain ⟨v', q1, q2, q3, q4, q5, q6, q7, q8⟩ := NAt.next HP1.out HRD1.out HP2.out HP3.out HP4.out HK.out.1 ⟨HK.out.2.2.2.1, HK.out.2.2.2.2.1⟩ (by rw [HL.out]; exact hlt) HA.out.2.2.2.1 (by rw [hx]; exact hb3.1)
        have hlen3 : (nums m bs (k + 1)).length < most := by
          have h1 : (nums m bs k).length < most := HP1.out.2.2.1
          have h2 : (nums m bs k).length + 1 ≠ most := hb3.2
          rw [nums_len] at h1 h2 ⊢
          omega
        have HA3 : Hid (NAt n₀ Bx Br Bb R m most bs W0 (k + 1) v' W3) := ⟨⟨q1, by show W3.ownsRow n₀ 27 1 v' (nums m bs (k + 1)).length _; rw [nums_len]; exact q2, hlen3, HP1.out.2.2.2.1, q8⟩, q3, q4, q5, q6, q7⟩
        have HR3 := Lib.hid hr3
        have HS3 : Hid (W0.heap.size ≤ W3.heap.size) := q4.size
        have HM3 : Hid (leftLen R W3 < leftLen R wr) := by
          show _ < _
          rw [Rd.len q3, HLV.out, ← HL.out, List.length_drop, List.length_drop]
          have e : (k + 1) * m = k * m + m := by rw [Nat.add_mul, Nat.one_mul]
          have h1 := HK.out.2.2.2.2.2.2.2.2
          have h2 := HL.out
          rw [List.length_drop] at h2
          omega
        clear hr3 hb3 q1 q2 q3 q4 q5 q6 q7 q8 hlen3
        gi_wp2
        go_roundw
        case rel => exact ⟨k + 1, v', HA3.out, HR3.out, HS3.out⟩
        case measure => exact HM3.out
      · obtain ⟨v', q1, q2, q3, q4, q5, q6, q7, q8⟩ := NAt.next HP1.out HRD1.out HP2.out HP3.out HP4.out HK.out.1 ⟨HK.out.2.2.2.1, HK.out.2.2.2.2.1⟩ (by rw [HL.out]; exact hlt) HA.out.2.2.2.1 (by rw [hx]; exact hb3.1)
        have h2 : (nums m bs k).length + 1 = most := hb3.2
        rw [nums_len] at h2
        have h3 : k + 1 ≤ bs.length / m := (Nat.le_div_iff_mul_le HK.out.2.2.2.2.2.2.2.2).2 q5
        have HE : Hid (NEnd n₀ Bx R m most bs W0 W3) := ⟨k + 1, v', by omega, q1, q2, q3, q4⟩
        have HO := Lib.hid ho3
        clear hb3 ho3 q1 q2 q3 q4 q5 q6 q7 q8 h2 h3
        gi_wp2
        refine bodyPost_ret (results_none rfl _ _ _) rfl ?_
        exact ⟨⟨_, rfl⟩, .inr ⟨HO.out, HE.out⟩⟩
    · have l2 : (L : Int) < m := by omega
      have HAD : Hid (NAt n₀ Bx Br Bb R m most bs W0 k v wr.drew) := ⟨HA.out.1, HA.out.2.1, HA.out.2.2.1.drew, HA.out.2.2.2⟩
      have HE := Lib.hid (HAD.out.fin HK.out.2.2.2.2.2.2.2.2 (by rw [HL.out]; omega))
      have HRD := Lib.hid (HR.out wr wr.drew HRW.out ⟨Nat.le_refl _, fun _ _ _ h _ => h⟩)
      gi_wp2
      gi_region
      gi_wp2
      go_end0
      exact ⟨⟨_, rfl⟩, .inl ⟨HRD.out, HE.out⟩⟩
end Go.Proofs.Ytocjdhkjlnkgaaa

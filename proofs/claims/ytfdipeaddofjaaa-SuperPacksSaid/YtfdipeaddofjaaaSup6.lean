/-
  super.Heads: the sectors gone through, ahead of the sorting.
  Conditions: none.
-/
import Derived.Test.YtfdipeaddofjaaaSup5
import Derived.Test.YtfdipeaddofjaaaJQ
import Derived.Maps.OwnIn
namespace Go.Proofs.Ytfdipeaddofjaaa
open Go.RowKit Go.Shelf
attribute [local go_sem] Oper.semAt_some

def rowsH (hs : List HeadP) : List Value := hs.flatMap fun x => x.cells.toList
theorem rowsH_len (hs : List HeadP) : (rowsH hs).length = 15 * hs.length := by
  induction hs with
  | nil => rfl
  | cons x hs ih => rw [rowsH, List.flatMap_cons, List.length_append]; rw [rowsH] at ih; rw [ih, List.length_cons]; show 15 + _ = _; omega
theorem rowsH_snoc (hs : List HeadP) (x : HeadP) : rowsH (hs ++ [x]) = rowsH hs ++ x.cells.toList := by
  rw [rowsH, List.flatMap_append, List.flatMap_cons, List.flatMap_nil, List.append_nil]; rfl
theorem HeadP.one (x : HeadP) : ∀ u ∈ x.cells.toList, u.oneCell' = true := by
  intro u hu
  have := kh_one x
  rw [Array.all_eq_true'] at this
  exact this u (Array.mem_toList_iff.1 hu)
/-- What is told of the first m sectors. -/
def headsTo (d : Dev) : Nat → List HeadP
  | 0 => []
  | m + 1 => if inErr d m = 0 then headsTo d m ++ [inHead d m] else headsTo d m
theorem headsTo_len (d : Dev) (m : Nat) : (headsTo d m).length ≤ m := by
  induction m with
  | zero => exact Nat.le_refl _
  | succ m ih =>
    unfold headsTo
    split
    · rw [List.length_append, List.length_singleton]; omega
    · omega
/-- What a round finds: the list in its box. -/
def HPre (n₀ Bx : Nat) (s : List HeadP × Value) (W : World) : Prop := Boxed W Bx 52 s.2 ∧ W.ownsRow n₀ 35 15 s.2 s.1.length (rowsH s.1) ∧ s.1.length ≤ 2 ∧ n₀ ≤ Bx
def hNext (hs : List HeadP) (x : HeadP × Int) : List HeadP := if x.2 = 0 then hs ++ [x.1] else hs
/-- What a round leaves. -/
def HBody (n₀ Bx : Nat) (s : List HeadP × Value) (x : HeadP × Int) (W W' : World) : Prop := ∃ v', Boxed W' Bx 52 v' ∧ W'.ownsRow n₀ 35 15 v' (hNext s.1 x).length (rowsH (hNext s.1 x)) ∧ Below n₀ W W' ∧ KeepsAt (fun i => i ≠ Bx ∧ s.2.ownBlock ≠ some i) W W'
/-- What is there at the end. -/
def HS (n₀ Bx : Nat) (hs : List HeadP) (w W : World) : Prop := ∃ v : Value, Boxed W Bx 52 v ∧ W.ownsRow n₀ 35 15 v hs.length (rowsH hs) ∧ Below n₀ w W
theorem boxed_putH {W : World} {B l : Nat} {t : TypeId} {v : Value} {o : Obj} (h : Boxed W B t v) (o' : Obj) (hl : W.heap[l]? = some o) (ho : o.isCells = false) : Boxed (W.putObj l o') B t v := KeepsAt.put (S := fun _ => True) W l o o' hl ho B trivial _ _ _ h
theorem HPre.turn {n₀ Bx : Nat} {s : List HeadP × Value} {W : World} {l : Nat} {o o' v : Obj} (hl : W.heap[l]? = some o) (ho : o.isCells = false) (h : HPre n₀ Bx s W) : HPre n₀ Bx s ((W.alloc v).putObj l o') := by
  obtain ⟨h1, h2, h3, h4⟩ := h
  have hl2 : (W.alloc v).heap[l]? = some o := (Below.heap_alloc W _ _ (Array.getElem?_eq_some_iff.1 hl).1).trans hl
  exact ⟨boxed_putH (h1.alloc v) o' hl2 ho, ownsRow_putObj (h2.alloc v) o' hl2 ho, h3, h4⟩
theorem HBody.turn {n₀ Bx : Nat} {s : List HeadP × Value} {x : HeadP × Int} {W W' : World} {l : Nat} {o o1 o2 o' c : Obj} (hn : n₀ ≤ l) (hl : W.heap[l]? = some o) (ho : o.isCells = false) (hl' : W'.heap[l]? = some o1) (ho1 : o1.isCells = false)
    (h : HBody n₀ Bx s x ((W.alloc c).putObj l o2) W') : HBody n₀ Bx s x W (W'.putObj l o') := by
  obtain ⟨v', h1, h2, h3, h4⟩ := h
  have hlt := (Array.getElem?_eq_some_iff.1 hl).1
  have hl2 : (W.alloc c).heap[l]? = some o := (Below.heap_alloc W _ _ hlt).trans hl
  have b1 : Below n₀ W ((W.alloc c).putObj l o2) := ((Below.refl n₀ W).alloc (by omega) c).grown (grownBy_putObj' _ l o2) (by simp; omega) (fun k e => by cases e; exact hn)
  have b2 : Below n₀ W' (W'.putObj l o') := (Below.refl n₀ W').grown (grownBy_putObj' _ l o') (by have := (Array.getElem?_eq_some_iff.1 hl').1; omega) (fun k e => by cases e; exact hn)
  exact ⟨v', boxed_putH h1 o' hl' ho1, ownsRow_putObj h2 o' hl' ho1, (b1.trans h3).trans b2, ((KeepsAt.alloc W c).trans (KeepsAt.put _ l o o2 hl2 ho)).trans (h4.trans (KeepsAt.put _ l o1 o' hl' ho1))⟩
theorem HS.turn {n₀ Bx : Nat} {hs : List HeadP} {w W : World} {l : Nat} {o o' : Obj} (hn : n₀ ≤ l) (hl : W.heap[l]? = some o) (ho : o.isCells = false) (h : HS n₀ Bx hs w W) : HS n₀ Bx hs w (W.putObj l o') := by
  obtain ⟨v, h1, h2, h3⟩ := h
  have b2 : Below n₀ W (W.putObj l o') := (Below.refl n₀ W).grown (grownBy_putObj' _ l o') (by have := (Array.getElem?_eq_some_iff.1 hl).1; omega) (fun k e => by cases e; exact hn)
  exact ⟨v, boxed_putH h1 o' hl ho, ownsRow_putObj h2 o' hl ho, h3.trans b2⟩

set_option maxRecDepth 100000 in
set_option maxHeartbeats 4000000 in
/-- The iterator. -/
theorem headsOf1_seen (l Bp Bx n₀ D : Nat) (d : Dev) (w0 W0 : World) (Rdy : World → Prop)
    (hBp : W0.heap[Bp]? = some (.cells #[.pointer (some ⟨D, 0, none⟩)] 46 (0, 0))) (hBpx : Bp ≠ Bx) (hn0 : n₀ ≤ W0.heap.size)
    (hdev : ∀ W, Below n₀ W0 W → DevHere w0 D d W)
    (hRdy : ∀ W W', Rdy W → Below W.heap.size W W' → Rdy W') (h0 : Rdy W0) (hB0 : Boxed W0 Bx 52 (.slice none 0 0)) (hBx : n₀ ≤ Bx)
    (hY : ∀ s x W, Rdy W → W0.heap.size ≤ W.heap.size → HPre n₀ Bx s W → YieldAt Fence.wide 1 Try.prog l #[.agg (x : HeadP × Int).1.cells, .int .i64 x.2] W fun e W' => e = .returned (.bool true) ∧ Rdy W' ∧ HBody n₀ Bx s x W W') :
    CallsIn Fence.wide 2 Try.prog 66 #[.func (.yield l) #[] #[], .pointer (some ⟨Bp, 0, none⟩)] W0 fun e W' => (∃ v, e = .returned v) ∧ Rdy W' ∧ HS n₀ Bx (headsTo d 2) W0 W' := by
  have HIN := Lib.hid (fun i W (hb : Below n₀ W0 W) => callsIn_wide (n := 1).2 (headIn_here (hdev W hb) i))
  have t1 : Fence.wide.fn 67 := trivial
  have HN := Lib.hid (show n₀ ≤ W0.heap.size ∧ n₀ ≤ Bx ∧ Bp ≠ Bx from ⟨hn0, hBx, hBpx⟩)
  have HR := Lib.hid hRdy
  have HY := Lib.hid hY
  have HBP := Lib.hid hBp
  have HP0 : Hid (HPre n₀ Bx ([], .slice none 0 0) W0) := ⟨hB0, World.ownsRow_nil _ _ _ _, by simp, hBx⟩
  clear hn0 hBx hBpx hRdy hY hBp hB0 hdev
  refine callsIn_of_wp Try.func66 rfl trivial ?_ rfl
  simp only [Try.ntmps66, List.size_toArray, List.length_cons, List.length_nil, Nat.reduceAdd, Nat.reduceSub, Array.replicate_succ, Array.replicate_zero, List.push_toArray, List.append_toArray, List.nil_append, List.cons_append]
  gi_wp2
  gi_loopw [4] (fun av wr => ∃ (m : Nat) (v : Value), av = .int .i64 m ∧ m ≤ 2 ∧ HPre n₀ Bx (headsTo d m, v) wr ∧ Below n₀ W0 wr ∧ Rdy wr ∧ wr.heap[Bp]? = some (.cells #[.pointer (some ⟨D, 0, none⟩)] 46 (0, 0)) ∧ W0.heap.size ≤ wr.heap.size) (fun av _ => 2 - (intOf av).toNat)
  case atStart => exact ⟨0, _, rfl, by decide, HP0.out, Below.refl _ _, h0, HBP.out, Nat.le_refl _⟩
  case round =>
    obtain ⟨m, v, rfl, hm, hP, hb, hR, hbp, hsz⟩ := hrel
    have cBp : wr.cell? ⟨Bp, 0, none⟩ = some (.pointer (some ⟨D, 0, none⟩)) := blk_cell hbp 0
    have HP := Lib.hid hP
    have HB := Lib.hid hb
    have HRW := Lib.hid hR
    have HBW := Lib.hid hbp
    have HSZ := Lib.hid hsz
    by_cases hlt : m < 2
    · have m1 : (m : Int) < 2 := by omega
      have HI := Lib.hid (HIN.out m wr hb)
      have HM := Lib.hid hlt
      obtain ⟨x, hx⟩ : ∃ x, inHead d m = x := ⟨_, rfl⟩
      obtain ⟨er, her⟩ : ∃ er, inErr d m = er := ⟨_, rfl⟩
      have HNX : Hid (headsTo d (m + 1) = hNext (headsTo d m) (x, er)) := by unfold Hid hNext; rw [← hx, ← her]; rfl
      have HI : Hid (CallsIn Fence.wide 1 Try.prog 67 #[.pointer (some ⟨D, 0, none⟩), .int .i64 m] wr fun e W' => e = .returned (.tuple #[.agg x.cells, .int .i64 er]) ∧ Below wr.heap.size wr W') := by
        have := HI.out
        unfold HeadIn at this
        rw [hx, her] at this
        exact this.mono fun e W' ⟨h1, _, h3⟩ => ⟨h1, h3⟩
      clear hP hb hR hbp hsz h0 HP0 hx her hlt
      gi_wp2_with (gi_at_call 67; (with_reducible refine HI.out.mono ?_); rintro e w1 ⟨rfl, hb1⟩; have HB1 := Lib.hid hb1; obtain ⟨fn, tmps, assign, body, hy, hRR⟩ := HY.out (headsTo d m, v) (x, er) w1 (HR.out _ _ HRW.out hb1) (Nat.le_trans HSZ.out hb1.size) ⟨(hb1.block _ (HP.out.1.lt)).trans HP.out.1, ownsRow_below HP.out.2.1 hb1, HP.out.2.2.1, HP.out.2.2.2⟩; have HRR := Lib.hid hRR; clear hb1 hRR)
      refine HRR.out.mono ?_
      rintro e W3 ⟨rfl, hr3, v', q1, q2, q3, q4⟩
      have hpre1 : Below n₀ wr w1 := HB1.out.mono (Nat.le_trans HN.out.1 HSZ.out)
      have HB3 := Lib.hid ((HB.out.trans hpre1).trans q3)
      have hbp1 := (HB1.out.block _ (blk_lt HBW.out)).trans HBW.out
      have HBP3 := Lib.hid (q4 Bp ⟨HN.out.2.2, own_ne (ownsRow_below HP.out.2.1 HB1.out) hbp1 (by decide)⟩ _ _ _ hbp1)
      have HS3 := Lib.hid (Nat.le_trans HSZ.out (Nat.le_trans HB1.out.size q3.size))
      have HR3 := Lib.hid hr3
      have HP3 : Hid (HPre n₀ Bx (headsTo d (m + 1), v') W3) := by
        refine ⟨q1, ?_, ?_, HN.out.2.1⟩
        · rw [HNX.out]; exact q2
        · have := headsTo_len d (m + 1); have := HM.out; show (headsTo d (m + 1)).length ≤ 2; omega
      clear hr3 q1 q2 q3 q4 hpre1 hbp1
      gi_wp2
      go_roundw
      case rel => exact ⟨m + 1, v', by go_num, by have := HM.out; omega, HP3.out, HB3.out, HR3.out, HBP3.out, HS3.out⟩
      case measure => have := HM.out; simp [intOf]; omega
    · obtain rfl : m = 2 := by omega
      have HF : Hid (HS n₀ Bx (headsTo d 2) W0 wr) := ⟨v, hP.1, hP.2.1, hb⟩
      clear hP hb hbp hsz
      gi_wp2
      go_end0
      exact ⟨⟨_, rfl⟩, HRW.out, HF.out⟩
end Go.Proofs.Ytfdipeaddofjaaa

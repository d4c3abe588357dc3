/-
  Rows of acts that are made: what stands in them stays.
  Conditions: none.
-/
import Derived.Test.YtgaabclgoolalaaScr7
import Derived.Test.YtgaabclgoolalaaStrConv
import Derived.Deep.AppendLies
import Derived.Deep.RegionHeldLaw
namespace Go.Proofs.Ytgaabclgoolalaa
open Go.RowKit

/-- The block of a slice is one of such a type. -/
def TypeAt (W : World) (v : Value) (t : TypeId) : Prop := ∀ g, v.ownBlock = some g → ∃ cs sp, W.heap[g]? = some (.cells cs t sp)
theorem TypeAt.on {W W' : World} {v : Value} {t : TypeId} (h : TypeAt W v t) (hb : Below W.heap.size W W') : TypeAt W' v t := fun g hg => by
  obtain ⟨cs, sp, h1⟩ := h g hg
  exact ⟨cs, sp, (hb.block _ (blk_lt h1)).trans h1⟩
theorem TypeAt.apart {W : World} {v : Value} {t : TypeId} (h : TypeAt W v t) {base : Nat} {e : TypeId} {size n : Nat} {row : Value} {xs : List Value} (ho : W.ownsRow base e size row n xs) (hne : e ≠ t) : ∀ g, v.ownBlock = some g → row.ownBlock ≠ some g := fun g hg hr => by
  obtain ⟨cs, sp, h1⟩ := h g hg
  obtain ⟨cs', sp', h2⟩ := own_cellsW ho hr
  rw [h1] at h2
  cases h2
  exact hne rfl
theorem TypeAt.grown {W W' : World} {v : Value} {t : TypeId} (h : TypeAt W v t) {base : Nat} {e : TypeId} {size n : Nat} {row : Value} {xs : List Value} (ho : W.ownsRow base e size row n xs) (hne : e ≠ t) (hg : W.grownBy W' row.ownBlock) : TypeAt W' v t := fun g hv => by
  obtain ⟨cs, sp, h1⟩ := h g hv
  exact ⟨cs, sp, (hg.block g (blk_lt h1) (fun e => h.apart ho hne g hv e.symm)).trans h1⟩
theorem TypeAt.none {W : World} {n c : Nat} {t : TypeId} : TypeAt W (.slice none n c) t := fun g h => by cases h
theorem own_type {W : World} {base : Nat} {e : TypeId} {size n : Nat} {row : Value} {xs : List Value} (ho : W.ownsRow base e size row n xs) : TypeAt W row e := fun _ hg => own_cellsW ho hg
/-- Bytes, in a block of bytes. -/
def BytesT (W : World) (v : Value) (bs : List (BitVec 8)) : Prop := BytesAt W.heap.size W v bs ∧ TypeAt W v 5
theorem BytesT.on {W W' : World} {v : Value} {bs : List (BitVec 8)} (h : BytesT W v bs) (hb : Below W.heap.size W W') : BytesT W' v bs := ⟨(h.1.below hb).mono hb.size, h.2.on hb⟩
theorem BytesT.grown {W W' : World} {v : Value} {bs : List (BitVec 8)} (h : BytesT W v bs) {base : Nat} {e : TypeId} {size n : Nat} {row : Value} {xs : List Value} (ho : W.ownsRow base e size row n xs) (hne : e ≠ 5) (hg : W.grownBy W' row.ownBlock) : BytesT W' v bs :=
  ⟨((Moves.of_grown (S := fun k => row.ownBlock = some k) hg (fun _ e => e)).bytes h.1 (Nat.le_refl _) (fun _ k hk hs => h.2.apart ho hne k hk hs)).mono hg.size, h.2.grown ho hne hg⟩
/-- Numbers, in a block of numbers. -/
def IntsT (W : World) (v : Value) (l : List Int) : Prop := IntsAt W.heap.size W v l ∧ TypeAt W v 3
theorem IntsT.on {W W' : World} {v : Value} {l : List Int} (h : IntsT W v l) (hb : Below W.heap.size W W') : IntsT W' v l := ⟨h.1.next hb, h.2.on hb⟩
theorem IntsT.grown {W W' : World} {v : Value} {l : List Int} (h : IntsT W v l) {base : Nat} {e : TypeId} {size n : Nat} {row : Value} {xs : List Value} (ho : W.ownsRow base e size row n xs) (hne : e ≠ 3) (hg : W.grownBy W' row.ownBlock) : IntsT W' v l :=
  ⟨h.1.keep hg.size (fun p hp hl => World.cell?_of_block (w := W) (hg.block p.block hl (fun e => h.2.apart ho hne p.block hp e.symm))), h.2.grown ho hne hg⟩
theorem bel_bw {n : Nat} {w W : World} {e : TypeId} {s : ByteArray} (h : Below n w W) (hn : n ≤ W.heap.size) : Below n w (Lib.bytesWorld W e s) := h.trans ((bw_below W e s).mono hn)
theorem bt_new (W : World) (bs : List (BitVec 8)) : BytesT (Lib.bytesWorld W 5 (strB bs)) (.slice (some ⟨W.heap.size, 0, none⟩) bs.length (grownCap W bs.length 0 5)) bs := by
  have h := bw_bytes W bs
  rw [strB_size] at h
  refine ⟨h, fun g hg => ?_⟩
  have : W.heap.size = g := by simpa [Value.ownBlock] using hg
  subst this
  exact ⟨_, _, Lib.bytesWorld_at_new W _ _⟩
theorem bt_bw {X : World} {v : Value} {bs : List (BitVec 8)} {e : TypeId} {s : ByteArray} (h : BytesT X v bs) : BytesT (Lib.bytesWorld X e s) v bs := h.on (bw_below X e s)
theorem bt_al {X : World} {v : Value} {bs : List (BitVec 8)} {o : Obj} (h : BytesT X v bs) : BytesT (X.alloc o) v bs := h.on ((Below.refl _ X).alloc (Nat.le_refl _) o)
theorem bt_dr {X : World} {v : Value} {bs : List (BitVec 8)} (h : BytesT X v bs) : BytesT X.drew v bs := h
theorem it_bw {X : World} {v : Value} {l : List Int} {e : TypeId} {s : ByteArray} (h : IntsT X v l) : IntsT (Lib.bytesWorld X e s) v l := h.on (bw_below X e s)
theorem it_al {X : World} {v : Value} {l : List Int} {o : Obj} (h : IntsT X v l) : IntsT (X.alloc o) v l := h.on ((Below.refl _ X).alloc (Nat.le_refl _) o)
theorem it_dr {X : World} {v : Value} {l : List Int} (h : IntsT X v l) : IntsT X.drew v l := h
/-- A new row of numbers, empty yet. -/
def Own0 (b : Nat) (W : World) (v : Value) : Prop := W.ownsRow b 3 1 v ([] : List Int).length (ints [])
theorem own_new {b : Nat} {W : World} (hb : b ≤ W.heap.size) : Own0 b (W.alloc (.cells #[] 3)) (.slice (some ⟨W.heap.size, 0, none⟩) 0 0) := ownInts_empty W b hb
theorem own_bw {b : Nat} {X : World} {v : Value} {e : TypeId} {s : ByteArray} (h : Own0 b X v) : Own0 b (Lib.bytesWorld X e s) v := (Moves.of_below (S := fun _ => False) (bw_below X e s)).row h (fun _ _ f => f)
theorem own_al {b : Nat} {X : World} {v : Value} {o : Obj} (h : Own0 b X v) : Own0 b (X.alloc o) v := World.ownsRow.alloc h o
theorem own_dr {b : Nat} {X : World} {v : Value} (h : Own0 b X v) : Own0 b X.drew v := h
/-- The i-th act of a row's cells. -/
def ElAt (W : World) (cs : List Value) (i : Nat) (x : SAct) : Prop := ∃ a1 c1 a2 c2 a3 c3, (cs[i * 5]? = some (.int .i64 x.kind) ∧ cs[i * 5 + 1]? = some (.slice a1 x.key.length c1) ∧ cs[i * 5 + 2]? = some (.slice a2 x.val.length c2) ∧ cs[i * 5 + 3]? = some (.int .i64 x.num) ∧ cs[i * 5 + 4]? = some (.slice a3 x.nums.length c3)) ∧
  BytesT W (.slice a1 x.key.length c1) x.key ∧ BytesT W (.slice a2 x.val.length c2) x.val ∧ IntsT W (.slice a3 x.nums.length c3) x.nums
/-- A row of acts that is owned, with all that its acts have. -/
def OfAt (n₀ : Nat) (W : World) (v : Value) (l : List SAct) : Prop := ∃ cs, W.ownsRow n₀ 49 5 v l.length cs ∧ ∀ i, i < l.length → ElAt W cs i (l[i]?.getD default)
theorem OfAt.on {n₀ : Nat} {W W' : World} {v : Value} {l : List SAct} (h : OfAt n₀ W v l) (hb : Below W.heap.size W W') : OfAt n₀ W' v l := by
  obtain ⟨cs, ho, he⟩ := h
  refine ⟨cs, (Moves.of_below (S := fun _ => False) hb).row ho (fun _ _ f => f), fun i hi => ?_⟩
  obtain ⟨a1, c1, a2, c2, a3, c3, h0, k1, k2, k3⟩ := he i hi
  exact ⟨a1, c1, a2, c2, a3, c3, h0, k1.on hb, k2.on hb, k3.on hb⟩
theorem of_bw {n₀ : Nat} {X : World} {v : Value} {l : List SAct} {e : TypeId} {s : ByteArray} (h : OfAt n₀ X v l) : OfAt n₀ (Lib.bytesWorld X e s) v l := h.on (bw_below X e s)
theorem of_al {n₀ : Nat} {X : World} {v : Value} {l : List SAct} {o : Obj} (h : OfAt n₀ X v l) : OfAt n₀ (X.alloc o) v l := h.on ((Below.refl _ X).alloc (Nat.le_refl _) o)
theorem of_dr {n₀ : Nat} {X : World} {v : Value} {l : List SAct} (h : OfAt n₀ X v l) : OfAt n₀ X.drew v l := h
theorem OfAt.nil (n₀ : Nat) (W : World) : OfAt n₀ W (.slice none 0 0) [] := ⟨[], World.ownsRow_nil _ _ _ _, fun i hi => absurd hi (by simp)⟩
theorem OfAt.slice {n₀ : Nat} {W : World} {v : Value} {l : List SAct} (h : OfAt n₀ W v l) : ∃ a c, v = .slice a l.length c := by
  obtain ⟨cs, ho, _⟩ := h
  exact owns_slice ho
theorem OfAt.acts {n₀ : Nat} {W : World} {v : Value} {l : List SAct} (h : OfAt n₀ W v l) : ActsAt W.heap.size W v l := by
  obtain ⟨cs, ho, he⟩ := h
  rcases ho.2 with ⟨rfl, h0⟩ | ⟨g, cap, cur, rfl, _, hg, hc, _, hcs, htk⟩
  · have : l = [] := List.eq_nil_of_length_eq_zero h0
    subst this
    exact ActsAt.nil _ _ _ _
  · refine ⟨_, cap, rfl, hc, .inr ⟨g, 0, rfl, blk_lt hg, fun i hi => ?_⟩⟩
    obtain ⟨a1, c1, a2, c2, a3, c3, ⟨h0, h1, h2, h3, h4⟩, k1, k2, k3⟩ := he i hi
    have rd : ∀ j u, cs[j]? = some u → W.cell? ⟨g, j, none⟩ = some u := fun j u hu => by
      rw [blk_cell hg, ← hu, ← htk, List.getElem?_take]
      have hj : j < cs.length := (List.getElem?_eq_some_iff.1 hu).1
      rw [ho.1] at hj
      rw [if_pos hj]
      simp
    rw [Nat.zero_add]
    exact ⟨a1, c1, a2, c2, a3, c3, ⟨rd _ _ h0, rd _ _ h1, rd _ _ h2, rd _ _ h3, rd _ _ h4⟩, k1.1, k2.1, k3.1⟩
theorem OfAt.app {n₀ g cap : Nat} {W W' : World} {v : Value} {l : List SAct} {cs : List Value} {x : SAct} {a1 a2 a3 : Option Addr} {c1 c2 c3 : Nat} (ho : W.ownsRow n₀ 49 5 v l.length cs) (he : ∀ i, i < l.length → ElAt W cs i (l[i]?.getD default))
    (h1 : BytesT W (.slice a1 x.key.length c1) x.key) (h2 : BytesT W (.slice a2 x.val.length c2) x.val) (h3 : IntsT W (.slice a3 x.nums.length c3) x.nums) (hg : W.grownBy W' v.ownBlock)
    (ho' : W'.ownsRow n₀ 49 5 (.slice (some ⟨g, 0, none⟩) (l.length + 1) cap) (l.length + 1) (cs ++ [.int .i64 x.kind, .slice a1 x.key.length c1, .slice a2 x.val.length c2, .int .i64 x.num, .slice a3 x.nums.length c3])) : OfAt n₀ W' (.slice (some ⟨g, 0, none⟩) (l.length + 1) cap) (l ++ [x]) := by
  have hlen := ho.1
  refine ⟨_, by rw [List.length_append, List.length_singleton]; exact ho', fun i hi => ?_⟩
  rw [List.length_append, List.length_singleton] at hi
  have hn1 : 49 ≠ 5 := by decide
  have hn2 : 49 ≠ 3 := by decide
  by_cases hil : i < l.length
  · obtain ⟨b1, d1, b2, d2, b3, d3, ⟨q0, q1, q2, q3, q4⟩, k1, k2, k3⟩ := he i hil
    rw [List.getElem?_append_left hil]
    refine ⟨b1, d1, b2, d2, b3, d3, ⟨?_, ?_, ?_, ?_, ?_⟩, k1.grown ho hn1 hg, k2.grown ho hn1 hg, k3.grown ho hn2 hg⟩
    · rw [List.getElem?_append_left (by omega)]; exact q0
    · rw [List.getElem?_append_left (by omega)]; exact q1
    · rw [List.getElem?_append_left (by omega)]; exact q2
    · rw [List.getElem?_append_left (by omega)]; exact q3
    · rw [List.getElem?_append_left (by omega)]; exact q4
  · obtain rfl : i = l.length := by omega
    rw [List.getElem?_append_right (Nat.le_refl _), Nat.sub_self]
    refine ⟨a1, c1, a2, c2, a3, c3, ⟨?_, ?_, ?_, ?_, ?_⟩, h1.grown ho hn1 hg, h2.grown ho hn1 hg, h3.grown ho hn2 hg⟩
    · rw [List.getElem?_append_right (by omega), show l.length * 5 - cs.length = 0 by omega]; rfl
    · rw [List.getElem?_append_right (by omega), show l.length * 5 + 1 - cs.length = 1 by omega]; rfl
    · rw [List.getElem?_append_right (by omega), show l.length * 5 + 2 - cs.length = 2 by omega]; rfl
    · rw [List.getElem?_append_right (by omega), show l.length * 5 + 3 - cs.length = 3 by omega]; rfl
    · rw [List.getElem?_append_right (by omega), show l.length * 5 + 4 - cs.length = 4 by omega]; rfl
theorem infoAct : (Try.prog.info? 49).map (fun i => (i.zero, i.size, i.bytes)) = some (some (.agg #[.int .i64 0, .slice none 0 0, .slice none 0 0, .int .i64 0, .slice none 0 0]), 5, 88) := by kernel_rfl
theorem info_partsA {i : Option TypeInfo} {z : Value} {s b : Nat} (h : i.map (fun i => (i.zero, i.size, i.bytes)) = some (some z, s, b)) : ∃ i0, i = some i0 ∧ i0.zero = some z ∧ i0.size = s ∧ i0.bytes = b := by
  cases i with
  | none => cases h
  | some i => simp at h; exact ⟨i, rfl, h.1, h.2.1, h.2.2⟩
/-- An append of numbers to a new row, in a region that draws its order. -/
theorem step_append_ints0 {w w5 : World} {ops : Array Oper} {o : Oper} {a : Act} {K : Act → World → Prop} {Q : Exit → Act → World → Prop} {E : Prop} (hgd : o.guard = none) (s x : Operand) (hty : o.type = 47)
    (ho : o.op = .call { callee := .builtin .append, args := #[s, x], argTypes := #[47, 47] })
    (v u : Value) (hs : a.eval s = v) (hown : Own0 w5.heap.size w v) (hx : a.eval x = u) (l : List Int) (hu : IntsAt w5.heap.size w5 u l) (hlen : l.length ≤ 1000000) (hb : Below w5.heap.size w5 w)
    (h : ∀ a' c' w', IntsT w' (.slice a' l.length c') l → (∀ v bs, BytesT w v bs → BytesT w' v bs) → Below w5.heap.size w5 w' → K (a.put o.dst (.slice a' l.length c')) w') :
    if Region.wanted o (yielded ops a.tmps) = true then Oper.wp Try.prog o a w K Q else E := by
  obtain ⟨i0, hi, hz0, hz1, hz2⟩ := info_partsI infoInt
  have hw : Region.wanted o (yielded ops a.tmps) = true := by simp [Region.wanted, hgd]
  rw [if_pos hw]
  have hown : w.ownsRow w5.heap.size 3 1 v ([] : List Int).length (ints []) := hown
  obtain ⟨v', w', hr, h2, h3, h4⟩ := run_append_ints (w := w) w5.heap.size i0 hi hz0 hz1 hz2 v [] hown u w5.heap.size l (hu.below hb) (by simp; omega) hb.size
  rw [List.nil_append] at h2
  obtain ⟨a', c', rfl⟩ := owns_slice h2
  unfold Oper.wp
  simp [execOp, ho, resolve, invoke, builtin, hs, hx, hty, hr, Result.andThen]
  exact h _ _ _ ⟨IntsAt.of_owns h2 rfl, own_type h2⟩ (fun v bs hv => hv.grown hown (by decide) h3) (hb.grown h3 hb.size (fun k e => (hown.lt k e).1))
/-- An append of an act that has just been made, in a region that draws its order. -/
theorem step_append_act {w w5 X : World} {n₀ : Nat} {ops : Array Oper} {o : Oper} {a : Act} {K : Act → World → Prop} {Q : Exit → Act → World → Prop} {E : Prop} (hgd : o.guard = none) (s y : Operand)
    (ho : o.op = .call { callee := .builtin .append, args := #[s, y], argTypes := #[23, 23] })
    (v : Value) (hs : a.eval s = v) (l : List SAct) (x : SAct) (a1 a2 a3 : Option Addr) (c1 c2 c3 : Nat) (hX : w = X.alloc (.cells #[.int .i64 x.kind, .slice a1 x.key.length c1, .slice a2 x.val.length c2, .int .i64 x.num, .slice a3 x.nums.length c3] 49))
    (hy : a.eval y = .slice (some ⟨X.heap.size, 0, none⟩) 1 1) (hO : OfAt n₀ w5 v l) (hb : Below w5.heap.size w5 X) (hn : n₀ ≤ w5.heap.size) (hlen : l.length ≤ 1000000)
    (h1 : BytesT X (.slice a1 x.key.length c1) x.key) (h2 : BytesT X (.slice a2 x.val.length c2) x.val) (h3 : IntsT X (.slice a3 x.nums.length c3) x.nums)
    (h : ∀ g cap w', OfAt n₀ w' (.slice (some ⟨g, 0, none⟩) (l.length + 1) cap) (l ++ [x]) → Below n₀ w5 w' → K (a.put o.dst (.slice (some ⟨g, 0, none⟩) (l.length + 1) cap)) w') :
    if Region.wanted o (yielded ops a.tmps) = true then Oper.wp Try.prog o a w K Q else E := by
  obtain ⟨i0, hi, hz0, hz1, hz2⟩ := info_partsA infoAct
  have hk := heap_alloc_new X (.cells #[.int .i64 x.kind, .slice a1 x.key.length c1, .slice a2 x.val.length c2, .int .i64 x.num, .slice a3 x.nums.length c3] 49)
  have hbw := hb.alloc hb.size (.cells #[.int .i64 x.kind, .slice a1 x.key.length c1, .slice a2 x.val.length c2, .int .i64 x.num, .slice a3 x.nums.length c3] 49)
  have h1 := bt_al (o := .cells #[.int .i64 x.kind, .slice a1 x.key.length c1, .slice a2 x.val.length c2, .int .i64 x.num, .slice a3 x.nums.length c3] 49) h1
  have h2 := bt_al (o := .cells #[.int .i64 x.kind, .slice a1 x.key.length c1, .slice a2 x.val.length c2, .int .i64 x.num, .slice a3 x.nums.length c3] 49) h2
  have h3 := it_al (o := .cells #[.int .i64 x.kind, .slice a1 x.key.length c1, .slice a2 x.val.length c2, .int .i64 x.num, .slice a3 x.nums.length c3] 49) h3
  rw [← hX] at hk hbw h1 h2 h3
  obtain ⟨cs, hown, hel⟩ := hO.on hbw
  refine step_append_lies _ hgd s y _ ho n₀ 49 i0 _ 5 88 Try.underlying23 hi hz0 hz1 hz2 rfl (by decide) v l.length cs hs hown ⟨X.heap.size, 0, none⟩ 1 1 [.int .i64 x.kind, .slice a1 x.key.length c1, .slice a2 x.val.length c2, .int .i64 x.num, .slice a3 x.nums.length c3] hy rfl (fun j u hu => ?_) (by simp [Value.oneCell']) (by decide) (by unfold maxLen; omega) (by omega) (Nat.le_trans hn hbw.size) _ rfl ?_
  · have := (blk_cell hk j).trans (show _ = some u by simpa using hu)
    rw [Addr.add_mid, Nat.zero_add]
    exact this
  · intro g cap w' ho' hg _ _
    exact h g cap w' (OfAt.app hown hel h1 h2 h3 hg ho') ((hbw.mono hn).grown hg (Nat.le_trans hn hbw.size) (fun k e => (hown.lt k e).1))
end Go.Proofs.Ytgaabclgoolalaa

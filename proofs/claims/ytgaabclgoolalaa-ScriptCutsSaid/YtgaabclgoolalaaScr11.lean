/-
  sgraffitolaw20's of.
  Conditions: none.
-/
import Derived.Test.YtgaabclgoolalaaScr10
import Derived.Test.YtgaabclgoolalaaOrd
namespace Go.Proofs.Ytgaabclgoolalaa
open Go.RowKit
attribute [local go_sem] Oper.semAt_some

/-- What each operation yields, as long as it is wanted. -/
def OfR (n₀ : Nat) (w5 : World) (X j : Nat) (lv : Value) (a3 : Option Addr) (c3 : Nat) (x : SAct) (l : List SAct) (i : Nat) (v : Value) (W : World) : Prop :=
  match i with
  | 0 => v = lv ∧ Below w5.heap.size w5 W
  | 1 => v = .pointer (some ⟨X, 0, none⟩)
  | 2 => v = .int .i64 x.kind
  | 3 => v = .pointer (some ⟨X, 1, none⟩)
  | 4 => v = .string (strB x.key)
  | 5 => ∃ a c, v = .slice a x.key.length c ∧ BytesT W (.slice a x.key.length c) x.key
  | 6 => v = .pointer (some ⟨X, 2, none⟩)
  | 7 => v = .string (strB x.val)
  | 8 => ∃ a c, v = .slice a x.val.length c ∧ BytesT W (.slice a x.val.length c) x.val
  | 9 => v = .pointer (some ⟨X, 3, none⟩)
  | 10 => v = .int .i64 x.num
  | 11 => Own0 w5.heap.size W v
  | 12 => v = .pointer (some ⟨X, 4, none⟩)
  | 13 => v = .slice a3 x.nums.length c3
  | 14 => ∃ a c, v = .slice a x.nums.length c ∧ IntsT W (.slice a x.nums.length c) x.nums
  | 15 => ∃ a1 c1 a2 c2 a4 c4, v = .agg #[.int .i64 x.kind, .slice a1 x.key.length c1, .slice a2 x.val.length c2, .int .i64 x.num, .slice a4 x.nums.length c4] ∧ BytesT W (.slice a1 x.key.length c1) x.key ∧ BytesT W (.slice a2 x.val.length c2) x.val ∧ IntsT W (.slice a4 x.nums.length c4) x.nums
  | 16 => ∃ g a1 c1 a2 c2 a4 c4, v = .slice (some ⟨g, 0, none⟩) 1 1 ∧ W.heap[g]? = some (.cells #[.int .i64 x.kind, .slice a1 x.key.length c1, .slice a2 x.val.length c2, .int .i64 x.num, .slice a4 x.nums.length c4] 49 (0, 0)) ∧ w5.heap.size ≤ g ∧ BytesT W (.slice a1 x.key.length c1) x.key ∧ BytesT W (.slice a2 x.val.length c2) x.val ∧ IntsT W (.slice a4 x.nums.length c4) x.nums
  | 17 | 18 => ∃ g c, v = .slice (some ⟨g, 0, none⟩) (j + 1) c ∧ OfAt n₀ W (.slice (some ⟨g, 0, none⟩) (j + 1) c) (l ++ [x])
  | _ => True
/-- Which operation it is wanted by last. -/
def ofD (i : Nat) : Nat := match i with | 0 => 17 | 5 => 15 | 8 => 15 | 11 => 14 | 14 => 15 | 15 => 16 | 16 => 17 | 17 => 18 | i => i
def OfB (n₀ : Nat) (w w5 : World) (X : Nat) (x : SAct) (a3 : Option Addr) (c3 : Nat) (listed : Array Bool) (W : World) : Prop := Below n₀ w W ∧ W.heap[X]? = some (.cells #[.int .i64 x.kind, .string (strB x.key), .string (strB x.val), .int .i64 x.num, .slice a3 x.nums.length c3] 54 (0, 0)) ∧ (listed.getD 17 false = false → Below w5.heap.size w5 W)
def OfRelX (n₀ X : Nat) (w5 : World) (j : Nat) (W W' : World) : Prop := if j = 17 then Below n₀ W W' ∧ W'.heap[X]? = W.heap[X]? else if j = 14 then Below w5.heap.size W W' ∧ (∀ v bs, BytesT W v bs → BytesT W' v bs) else Below W.heap.size W W'
theorem ofRel_else {n₀ X : Nat} {w5 W W' : World} {j : Nat} (h1 : j ≠ 17) (h2 : j ≠ 14) (h : Below W.heap.size W W') : OfRelX n₀ X w5 j W W' := by
  unfold OfRelX
  rw [if_neg h1, if_neg h2]
  exact h
/-- An append of numbers to a new row. -/
theorem wp_append_ints0 {w w5 : World} {o : Oper} {a : Act} {K : Act → World → Prop} {Q : Exit → Act → World → Prop} (s x : Operand) (hty : o.type = 47)
    (ho : o.op = .call { callee := .builtin .append, args := #[s, x], argTypes := #[47, 47] })
    (v u : Value) (hs : a.eval s = v) (hown : Own0 w5.heap.size w v) (hx : a.eval x = u) (l : List Int) (hu : IntsAt w5.heap.size w5 u l) (hlen : l.length ≤ 1000000) (hb : Below w5.heap.size w5 w)
    (h : ∀ a' c' w', IntsT w' (.slice a' l.length c') l → (∀ v bs, BytesT w v bs → BytesT w' v bs) → Below w5.heap.size w5 w' → Below w5.heap.size w w' → K (a.put o.dst (.slice a' l.length c')) w') : Oper.wp Try.prog o a w K Q := by
  obtain ⟨i0, hi, hz0, hz1, hz2⟩ := info_partsI infoInt
  have hown : w.ownsRow w5.heap.size 3 1 v ([] : List Int).length (ints []) := hown
  obtain ⟨v', w', hr, h2, h3, h4⟩ := run_append_ints (w := w) w5.heap.size i0 hi hz0 hz1 hz2 v [] hown u w5.heap.size l (hu.below hb) (by simp; omega) hb.size
  rw [List.nil_append] at h2
  obtain ⟨a', c', rfl⟩ := owns_slice h2
  have hgr : Below w5.heap.size w w' := (Below.refl _ w).grown h3 hb.size (fun k e => (hown.lt k e).1)
  unfold Oper.wp
  simp [execOp, ho, resolve, invoke, builtin, hs, hx, hty, hr, Result.andThen]
  exact h _ _ _ ⟨IntsAt.of_owns h2 rfl, own_type h2⟩ (fun v bs hv => hv.grown hown (by decide) h3) (hb.trans hgr) hgr
/-- An append of an act that stands in a row of its own. -/
theorem wp_append_act {w : World} {n₀ g0 : Nat} {o : Oper} {a : Act} {K : Act → World → Prop} {Q : Exit → Act → World → Prop} (hgd : o.guard = none) (s y : Operand)
    (ho : o.op = .call { callee := .builtin .append, args := #[s, y], argTypes := #[23, 23] })
    (v : Value) (hs : a.eval s = v) (l : List SAct) (x : SAct) (a1 a2 a4 : Option Addr) (c1 c2 c4 : Nat) (hk : w.heap[g0]? = some (.cells #[.int .i64 x.kind, .slice a1 x.key.length c1, .slice a2 x.val.length c2, .int .i64 x.num, .slice a4 x.nums.length c4] 49 (0, 0)))
    (hy : a.eval y = .slice (some ⟨g0, 0, none⟩) 1 1) (hO : OfAt n₀ w v l) (hn : n₀ ≤ w.heap.size) (hlen : l.length ≤ 1000000)
    (h1 : BytesT w (.slice a1 x.key.length c1) x.key) (h2 : BytesT w (.slice a2 x.val.length c2) x.val) (h3 : IntsT w (.slice a4 x.nums.length c4) x.nums)
    (h : ∀ g cap w', OfAt n₀ w' (.slice (some ⟨g, 0, none⟩) (l.length + 1) cap) (l ++ [x]) → w.grownBy w' v.ownBlock → Below n₀ w w' → K (a.put o.dst (.slice (some ⟨g, 0, none⟩) (l.length + 1) cap)) w') : Oper.wp Try.prog o a w K Q := by
  obtain ⟨i0, hi, hz0, hz1, hz2⟩ := info_partsA infoAct
  obtain ⟨cs, hown, hel⟩ := hO
  have hw : Region.wanted o (yielded #[] a.tmps) = true := by simp [Region.wanted, hgd]
  have := step_append_lies (P := Try.prog) (ops := #[]) (K := K) (Q := Q) (E := True) w hgd s y _ ho n₀ 49 i0 _ 5 88 Try.underlying23 hi hz0 hz1 hz2 rfl (by decide) v l.length cs hs hown ⟨g0, 0, none⟩ 1 1 [.int .i64 x.kind, .slice a1 x.key.length c1, .slice a2 x.val.length c2, .int .i64 x.num, .slice a4 x.nums.length c4] hy rfl (fun j u hu => by
    have := (blk_cell hk j).trans (show _ = some u by simpa using hu)
    rw [Addr.add_mid, Nat.zero_add]
    exact this) (by simp [Value.oneCell']) (by decide) (by unfold maxLen; omega) (by omega) hn _ rfl (fun g cap w' ho' hg _ _ => h g cap w' (OfAt.app hown hel h1 h2 h3 hg ho') hg ((Below.refl n₀ w).grown hg hn (fun k e => (hown.lt k e).1)))
  rw [if_pos hw] at this
  exact this
theorem OfAt.type {n₀ : Nat} {W : World} {v : Value} {l : List SAct} (h : OfAt n₀ W v l) : TypeAt W v 49 := by
  obtain ⟨cs, ho, _⟩ := h
  exact own_type ho
/-- What of answers. -/
def OfRet (l : List SAct) (w : World) (e : Ending) (w' : World) : Prop := ∃ a c, e = .returned (.slice a l.length c) ∧ ActsAt w'.heap.size w' (.slice a l.length c) l ∧ Below w.heap.size w w'
set_option maxRecDepth 100000 in
set_option maxHeartbeats 16000000 in
theorem of_any (v : Value) (l : List SAct) (w : World) (hE : DocsAt w.heap.size w v l) (hm : l.length ≤ 1000000) (hn : ∀ i, i < l.length → (l[i]?.getD default).nums.length ≤ 1000000) : Calls Try.prog 12 #[v] w (OfRet l w) := by
  obtain ⟨a, c, rfl, hc⟩ := hE.slice
  have h1 : (l.length : Int) ≤ 1000000 := by omega
  have HE := Lib.hid hE
  have HM := Lib.hid hm
  have HN := Lib.hid hn
  have HO0 := Lib.hid (OfAt.nil w.heap.size w)
  clear hE hm hn
  go_enter Try.func12, Try.ntmps12
  go_wp2
  go_loopw [3, 4] (fun ov i wr => ∃ j : Nat, j ≤ l.length ∧ i = .int .i64 j ∧ OfAt w.heap.size wr ov (l.take j) ∧ Below w.heap.size w wr) (fun _ i _ => l.length - (intOf i).toNat)
  case atStart => exact ⟨0, Nat.zero_le _, rfl, HO0.out, Below.refl _ _⟩
  case round =>
    obtain ⟨j, hj, rfl, hO, hB⟩ := hrel
    by_cases hlt : j < l.length
    · obtain ⟨g, off, rfl, hg, he⟩ := (HE.out.below hB).get hlt
      have j1 : (j : Int) < l.length := by omega
      have HLT := Lib.hid hlt
      have HNX := Lib.hid (HN.out j hlt)
      have HTK : Hid (l.take (j + 1) = l.take j ++ [l[j]?.getD default]) := by
        unfold Hid
        rw [List.take_add_one, List.getElem?_eq_getElem hlt]
        rfl
      obtain ⟨x, hx⟩ : ∃ x, (l[j]?.getD default) = x := ⟨_, rfl⟩
      rw [hx] at he HNX HTK
      obtain ⟨a3, c3, ⟨e0, e1, e2, e3, e4⟩, k3⟩ := he
      have hn5 : (wr.alloc (.cells #[.int .i64 x.kind, .string (strB x.key), .string (strB x.val), .int .i64 x.num, .slice a3 x.nums.length c3] 54)).heap[wr.heap.size]? = some (.cells #[.int .i64 x.kind, .string (strB x.key), .string (strB x.val), .int .i64 x.num, .slice a3 x.nums.length c3] 54 (0, 0)) := heap_alloc_new _ _
      have hb5 := hB.alloc hB.size (.cells #[.int .i64 x.kind, .string (strB x.key), .string (strB x.val), .int .i64 x.num, .slice a3 x.nums.length c3] 54)
      have hO5 := of_al (o := .cells #[.int .i64 x.kind, .string (strB x.key), .string (strB x.val), .int .i64 x.num, .slice a3 x.nums.length c3] 54) hO
      have hbr := (Below.refl wr.heap.size wr).alloc (Nat.le_refl _) (.cells #[.int .i64 x.kind, .string (strB x.key), .string (strB x.val), .int .i64 x.num, .slice a3 x.nums.length c3] 54)
      obtain ⟨w5, hw5⟩ : ∃ w5, wr.alloc (.cells #[.int .i64 x.kind, .string (strB x.key), .string (strB x.val), .int .i64 x.num, .slice a3 x.nums.length c3] 54) = w5 := ⟨_, rfl⟩
      rw [hw5] at hn5 hb5 hO5 hbr
      have HW5 := Lib.hid hw5
      have HB5 := Lib.hid hb5
      have HO5 := Lib.hid hO5
      have HU := Lib.hid ((k3.mono hB.size).next hbr)
      have HBX := Lib.hid hn5
      have HXL : Hid (wr.heap.size < w5.heap.size) := blk_lt hn5
      have HN5 : Hid (w.heap.size ≤ w5.heap.size) := hb5.size
      have HS : Hid (∀ W, Below w5.heap.size w5 W → W.cell? ⟨wr.heap.size, 0, none⟩ = some (.int .i64 x.kind) ∧ W.cell? ⟨wr.heap.size, 1, none⟩ = some (.string (strB x.key)) ∧ W.cell? ⟨wr.heap.size, 2, none⟩ = some (.string (strB x.val)) ∧ W.cell? ⟨wr.heap.size, 3, none⟩ = some (.int .i64 x.num) ∧ W.cell? ⟨wr.heap.size, 4, none⟩ = some (.slice a3 x.nums.length c3)) := fun W h => by
        have h0 := (h.block _ (blk_lt hn5)).trans hn5
        exact ⟨blk_cell h0 0, blk_cell h0 1, blk_cell h0 2, blk_cell h0 3, blk_cell h0 4⟩
      have HTL : Hid ((l.take j).length ≤ 1000000) := by unfold Hid; rw [List.length_take]; have := HM.out; omega
      have htl : (l.take j).length = j := by rw [List.length_take]; omega
      have HTL2 := Lib.hid htl
      obtain ⟨ao, co, rfl⟩ := hO5.slice
      have hcv : ∀ (W : World) (bs : List (BitVec 8)), (convert 9 22 (.string (strB bs))).run Try.prog W = .ok (.slice (some ⟨W.heap.size, 0, none⟩) bs.length (grownCap W bs.length 0 5)) (Lib.bytesWorld W 5 (strB bs)) := fun W bs => by
        have := conv_bytes W (strB bs)
        rwa [strB_size] at this
      clear hx hlt hg k3 hn5 hb5 hO5 hbr hw5 hO hB hj htl
      go_upto_region 6 with (fail)
      rw [HW5.out]
      clear HW5 e0 e1 e2 e3 e4
      refine wp_region_any (by kernel_rfl) ?_
      change wpAny _ _ _ _ _ _ _ w5.drew
      refine wpAny_ord2 35 ofD (OfR w.heap.size w5 wr.heap.size j (.slice ao (l.take j).length co) a3 c3 x (l.take j)) (OfB w.heap.size w w5 wr.heap.size x a3 c3) (OfRelX w.heap.size wr.heap.size w5) (by kernel_rfl) rfl ?_ ?_ ?_ ?_ ?_
      · exact ⟨HB5.out.drew, HBX.out, fun _ => (Below.refl _ _).drew⟩
      · intro i j' v W W' hij hD ha1 ha2 hr hrel
        have hi : i < 19 ∨ 19 ≤ i := by omega
        rcases hi with hi | hi
        · have h9 : i = 0 ∨ i = 1 ∨ i = 2 ∨ i = 3 ∨ i = 4 ∨ i = 5 ∨ i = 6 ∨ i = 7 ∨ i = 8 ∨ i = 9 ∨ i = 10 ∨ i = 11 ∨ i = 12 ∨ i = 13 ∨ i = 14 ∨ i = 15 ∨ i = 16 ∨ i = 17 ∨ i = 18 := by omega
          have rel : ∀ (q : j' ≠ 17) (q2 : j' ≠ 14), Below W.heap.size W W' := fun q q2 => by
            unfold OfRelX at hrel
            rwa [if_neg q, if_neg q2] at hrel
          rcases h9 with rfl | rfl | rfl | rfl | rfl | rfl | rfl | rfl | rfl | rfl | rfl | rfl | rfl | rfl | rfl | rfl | rfl | rfl | rfl
          · obtain ⟨h1, h2⟩ := hr
            refine ⟨h1, ?_⟩
            have q17 : j' ≠ 17 := fun e => hD (by subst e; rfl)
            by_cases q14 : j' = 14
            · subst q14
              unfold OfRelX at hrel
              rw [if_neg (by decide), if_pos rfl] at hrel
              exact h2.trans hrel.1
            · exact h2.trans ((rel q17 q14).mono h2.size)
          · exact hr
          · exact hr
          · exact hr
          · exact hr
          · obtain ⟨b, c', h1, h2⟩ := hr
            have q17 : j' ≠ 17 := (fun e => by subst e; rcases ha2 with h | h; exact Bool.noConfusion (h.symm.trans (show anc _ _ _ _ = true by kernel_rfl)); exact absurd h (by decide))
            by_cases q14 : j' = 14
            · subst q14
              unfold OfRelX at hrel
              rw [if_neg (by decide), if_pos rfl] at hrel
              exact ⟨b, c', h1, hrel.2 _ _ h2⟩
            · exact ⟨b, c', h1, h2.on (rel q17 q14)⟩
          · exact hr
          · exact hr
          · obtain ⟨b, c', h1, h2⟩ := hr
            have q17 : j' ≠ 17 := (fun e => by subst e; rcases ha2 with h | h; exact Bool.noConfusion (h.symm.trans (show anc _ _ _ _ = true by kernel_rfl)); exact absurd h (by decide))
            by_cases q14 : j' = 14
            · subst q14
              unfold OfRelX at hrel
              rw [if_neg (by decide), if_pos rfl] at hrel
              exact ⟨b, c', h1, hrel.2 _ _ h2⟩
            · exact ⟨b, c', h1, h2.on (rel q17 q14)⟩
          · exact hr
          · exact hr
          · have q17 : j' ≠ 17 := (fun e => by subst e; rcases ha2 with h | h; exact Bool.noConfusion (h.symm.trans (show anc _ _ _ _ = true by kernel_rfl)); exact absurd h (by decide))
            have q14 : j' ≠ 14 := fun e => hD (by subst e; rfl)
            exact (Moves.of_below (S := fun _ => False) (rel q17 q14)).row hr (fun _ _ f => f)
          · exact hr
          · exact hr
          · obtain ⟨b, c', h1, h2⟩ := hr
            have q17 : j' ≠ 17 := (fun e => by subst e; rcases ha2 with h | h; exact Bool.noConfusion (h.symm.trans (show anc _ _ _ _ = true by kernel_rfl)); exact absurd h (by decide))
            exact ⟨b, c', h1, h2.on (rel q17 (fun e => hij e.symm))⟩
          · obtain ⟨b1, d1, b2, d2, b4, d4, h1, k1, k2, k3⟩ := hr
            have q17 : j' ≠ 17 := (fun e => by subst e; rcases ha2 with h | h; exact Bool.noConfusion (h.symm.trans (show anc _ _ _ _ = true by kernel_rfl)); exact absurd h (by decide))
            have q14 : j' ≠ 14 := (fun e => by subst e; exact Bool.noConfusion (ha1.symm.trans (show anc _ _ _ _ = true by kernel_rfl)))
            exact ⟨b1, d1, b2, d2, b4, d4, h1, k1.on (rel q17 q14), k2.on (rel q17 q14), k3.on (rel q17 q14)⟩
          · obtain ⟨g0, b1, d1, b2, d2, b4, d4, h1, h2, h3, k1, k2, k3⟩ := hr
            have q17 : j' ≠ 17 := fun e => hD (by subst e; rfl)
            have q14 : j' ≠ 14 := (fun e => by subst e; exact Bool.noConfusion (ha1.symm.trans (show anc _ _ _ _ = true by kernel_rfl)))
            have hb := rel q17 q14
            exact ⟨g0, b1, d1, b2, d2, b4, d4, h1, (hb.block _ (blk_lt h2)).trans h2, h3, k1.on hb, k2.on hb, k3.on hb⟩
          · obtain ⟨g0, d0, h1, h2⟩ := hr
            have q14 : j' ≠ 14 := (fun e => by subst e; exact Bool.noConfusion (ha1.symm.trans (show anc _ _ _ _ = true by kernel_rfl)))
            exact ⟨g0, d0, h1, h2.on (rel (fun e => hij e.symm) q14)⟩
          · obtain ⟨g0, d0, h1, h2⟩ := hr
            have q14 : j' ≠ 14 := (fun e => by subst e; exact Bool.noConfusion (ha1.symm.trans (show anc _ _ _ _ = true by kernel_rfl)))
            have q17 : j' ≠ 17 := (fun e => by subst e; exact Bool.noConfusion (ha1.symm.trans (show anc _ _ _ _ = true by kernel_rfl)))
            exact ⟨g0, d0, h1, h2.on (rel q17 q14)⟩
        · match i, hi with
          | i + 19, _ => trivial
      · intro j' listed W W' hnl hb hrel
        obtain ⟨h1, h2, h3⟩ := hb
        unfold OfRelX at hrel
        have hX := HXL.out
        have hN := HN5.out
        by_cases q17 : j' = 17
        · subst q17
          rw [if_pos rfl] at hrel
          exact ⟨h1.trans hrel.1, hrel.2.trans h2, fun e => by rw [getD_set (not_size hnl), if_pos rfl] at e; cases e⟩
        · rw [if_neg q17] at hrel
          have hx : (listed.setIfInBounds j' true).getD 17 false = false → listed.getD 17 false = false := fun e => by
            rw [getD_set (not_size hnl), if_neg q17] at e
            exact e
          by_cases q14 : j' = 14
          · rw [if_pos q14] at hrel
            exact ⟨h1.trans (hrel.1.mono hN), (hrel.1.block _ hX).trans h2, fun e => (h3 (hx e)).trans hrel.1⟩
          · rw [if_neg q14] at hrel
            exact ⟨h1.trans (hrel.mono h1.size), (hrel.block _ (blk_lt h2)).trans h2, fun e => (h3 (hx e)).trans (hrel.mono (h3 (hx e)).size)⟩
      · intro i o ho listed a W h hnl hdeps
        have hi : i < 19 := by have := (Array.getElem?_eq_some_iff.1 ho).1; simpa using this
        have e5 : a.tmps.getD 5 undef = .pointer (some ⟨wr.heap.size, 0, none⟩) := h.free 5 (by kernel_rfl)
        have hbox := h.base.2.1
        have h9 : i = 0 ∨ i = 1 ∨ i = 2 ∨ i = 3 ∨ i = 4 ∨ i = 5 ∨ i = 6 ∨ i = 7 ∨ i = 8 ∨ i = 9 ∨ i = 10 ∨ i = 11 ∨ i = 12 ∨ i = 13 ∨ i = 14 ∨ i = 15 ∨ i = 16 ∨ i = 17 ∨ i = 18 := by omega
        rcases h9 with rfl | rfl | rfl | rfl | rfl | rfl | rfl | rfl | rfl | rfl | rfl | rfl | rfl | rfl | rfl | rfl | rfl | rfl | rfl
        · cases ho
          have e3 : a.tmps.getD 3 undef = .slice ao (l.take j).length co := h.still 3 18 (by kernel_rfl) (h.yet hnl 18 (by kernel_rfl))
          have hb5 := h.base.2.2 (h.yet hnl 17 (by kernel_rfl))
          generalize (l.take j).length = m at e3 ⊢
          go_simp
          exact ⟨_, rfl, ⟨rfl, hb5⟩, ofRel_else (by decide) (by decide) (Below.refl _ _)⟩
        · cases ho
          go_simp
          exact ⟨_, rfl, rfl, ofRel_else (by decide) (by decide) (Below.refl _ _)⟩
        · cases ho
          have e1 : a.tmps.getD 17 undef = .pointer (some ⟨wr.heap.size, 0, none⟩) := h.got 1 _ 17 rfl (hdeps ⟨1, .data⟩ (by simp) rfl) (.inr rfl) rfl
          have c0 : W.cell? ⟨wr.heap.size, 0, none⟩ = some (.int .i64 x.kind) := blk_cell hbox 0
          go_simp
          exact ⟨_, rfl, rfl, ofRel_else (by decide) (by decide) (Below.refl _ _)⟩
        · cases ho
          go_simp
          exact ⟨_, rfl, rfl, ofRel_else (by decide) (by decide) (Below.refl _ _)⟩
        · cases ho
          have e1 : a.tmps.getD 19 undef = .pointer (some ⟨wr.heap.size, 1, none⟩) := h.got 3 _ 19 rfl (hdeps ⟨3, .data⟩ (by simp) rfl) (.inr rfl) rfl
          have c0 : W.cell? ⟨wr.heap.size, 1, none⟩ = some (.string (strB x.key)) := blk_cell hbox 1
          go_simp
          exact ⟨_, rfl, rfl, ofRel_else (by decide) (by decide) (Below.refl _ _)⟩
        · cases ho
          have e1 : a.tmps.getD 20 undef = .string (strB x.key) := h.got 4 _ 20 rfl (hdeps ⟨4, .data⟩ (by simp) rfl) (.inr rfl) rfl
          go_simp
          exact ⟨_, rfl, ⟨_, _, rfl, bt_new W x.key⟩, ofRel_else (by decide) (by decide) (bw_below W _ _)⟩
        · cases ho
          go_simp
          exact ⟨_, rfl, rfl, ofRel_else (by decide) (by decide) (Below.refl _ _)⟩
        · cases ho
          have e1 : a.tmps.getD 22 undef = .pointer (some ⟨wr.heap.size, 2, none⟩) := h.got 6 _ 22 rfl (hdeps ⟨6, .data⟩ (by simp) rfl) (.inr rfl) rfl
          have c0 : W.cell? ⟨wr.heap.size, 2, none⟩ = some (.string (strB x.val)) := blk_cell hbox 2
          go_simp
          exact ⟨_, rfl, rfl, ofRel_else (by decide) (by decide) (Below.refl _ _)⟩
        · cases ho
          have e1 : a.tmps.getD 23 undef = .string (strB x.val) := h.got 7 _ 23 rfl (hdeps ⟨7, .data⟩ (by simp) rfl) (.inr rfl) rfl
          go_simp
          exact ⟨_, rfl, ⟨_, _, rfl, bt_new W x.val⟩, ofRel_else (by decide) (by decide) (bw_below W _ _)⟩
        · cases ho
          go_simp
          exact ⟨_, rfl, rfl, ofRel_else (by decide) (by decide) (Below.refl _ _)⟩
        · cases ho
          have e1 : a.tmps.getD 25 undef = .pointer (some ⟨wr.heap.size, 3, none⟩) := h.got 9 _ 25 rfl (hdeps ⟨9, .data⟩ (by simp) rfl) (.inr rfl) rfl
          have c0 : W.cell? ⟨wr.heap.size, 3, none⟩ = some (.int .i64 x.num) := blk_cell hbox 3
          go_simp
          exact ⟨_, rfl, rfl, ofRel_else (by decide) (by decide) (Below.refl _ _)⟩
        · cases ho
          have hb5 := h.base.2.2 (h.yet hnl 17 (by kernel_rfl))
          go_simp
          exact ⟨_, rfl, own_new hb5.size, ofRel_else (by decide) (by decide) ((Below.refl _ _).alloc (Nat.le_refl _) _)⟩
        · cases ho
          go_simp
          exact ⟨_, rfl, rfl, ofRel_else (by decide) (by decide) (Below.refl _ _)⟩
        · cases ho
          have e1 : a.tmps.getD 28 undef = .pointer (some ⟨wr.heap.size, 4, none⟩) := h.got 12 _ 28 rfl (hdeps ⟨12, .data⟩ (by simp) rfl) (.inr rfl) rfl
          have c0 : W.cell? ⟨wr.heap.size, 4, none⟩ = some (.slice a3 x.nums.length c3) := blk_cell hbox 4
          go_simp
          exact ⟨_, rfl, rfl, ofRel_else (by decide) (by decide) (Below.refl _ _)⟩
        · cases ho
          have r11 : Own0 w5.heap.size W (a.tmps.getD 27 undef) := h.got 11 _ 27 rfl (hdeps ⟨11, .data⟩ (by simp) rfl) (.inl (show _ = false from notl hnl)) rfl
          have e29 : a.tmps.getD 29 undef = .slice a3 x.nums.length c3 := h.got 13 _ 29 rfl (hdeps ⟨13, .data⟩ (by simp) rfl) (.inr rfl) rfl
          have hb5 := h.base.2.2 (h.yet hnl 17 (by kernel_rfl))
          exact wp_append_ints0 (w := W) (w5 := w5) (.tmp 27) (.tmp 29) rfl rfl _ _ rfl r11 e29 x.nums HU.out HNX.out hb5 (fun a' c' w' hi' ht' hb' hg' => ⟨_, rfl, ⟨_, _, rfl, hi'⟩, by unfold OfRelX; rw [if_neg (by decide), if_pos rfl]; exact ⟨hg', ht'⟩⟩)
        · cases ho
          have e18 : a.tmps.getD 18 undef = .int .i64 x.kind := h.got 2 _ 18 rfl (hdeps ⟨2, .data⟩ (by simp) rfl) (.inr rfl) rfl
          obtain ⟨b1, d1, e21, k1⟩ := h.got 5 _ 21 rfl (hdeps ⟨5, .data⟩ (by simp) rfl) (.inl (show _ = false from notl hnl)) rfl
          obtain ⟨b2, d2, e24, k2⟩ := h.got 8 _ 24 rfl (hdeps ⟨8, .data⟩ (by simp) rfl) (.inl (show _ = false from notl hnl)) rfl
          have e26 : a.tmps.getD 26 undef = .int .i64 x.num := h.got 10 _ 26 rfl (hdeps ⟨10, .data⟩ (by simp) rfl) (.inr rfl) rfl
          obtain ⟨b4, d4, e30, k4⟩ := h.got 14 _ 30 rfl (hdeps ⟨14, .data⟩ (by simp) rfl) (.inl (show _ = false from notl hnl)) rfl
          have f18 := (Array.getD_eq_getD_getElem? (xs := a.tmps) (i := 18) (d := undef)).symm.trans e18
          have f21 := (Array.getD_eq_getD_getElem? (xs := a.tmps) (i := 21) (d := undef)).symm.trans e21
          have f24 := (Array.getD_eq_getD_getElem? (xs := a.tmps) (i := 24) (d := undef)).symm.trans e24
          have f26 := (Array.getD_eq_getD_getElem? (xs := a.tmps) (i := 26) (d := undef)).symm.trans e26
          have f30 := (Array.getD_eq_getD_getElem? (xs := a.tmps) (i := 30) (d := undef)).symm.trans e30
          go_simp
          exact ⟨_, rfl, ⟨b1, d1, b2, d2, b4, d4, rfl, k1, k2, k4⟩, ofRel_else (by decide) (by decide) (Below.refl _ _)⟩
        · cases ho
          obtain ⟨b1, d1, b2, d2, b4, d4, e31, k1, k2, k4⟩ := h.got 15 _ 31 rfl (hdeps ⟨15, .data⟩ (by simp) rfl) (.inl (show _ = false from notl hnl)) rfl
          have f31 := (Array.getD_eq_getD_getElem? (xs := a.tmps) (i := 31) (d := undef)).symm.trans e31
          have hb5 := h.base.2.2 (h.yet hnl 17 (by kernel_rfl))
          go_simp
          exact ⟨_, rfl, ⟨W.heap.size, b1, d1, b2, d2, b4, d4, rfl, heap_alloc_new _ _, hb5.size, bt_al k1, bt_al k2, it_al k4⟩, ofRel_else (by decide) (by decide) ((Below.refl _ _).alloc (Nat.le_refl _) _)⟩
        · cases ho
          obtain ⟨e16, hb5⟩ := h.got 0 _ 16 rfl (hdeps ⟨0, .data⟩ (by simp) rfl) (.inl (show _ = false from notl hnl)) rfl
          obtain ⟨g0, b1, d1, b2, d2, b4, d4, e32, hk, hg0, k1, k2, k4⟩ := h.got 16 _ 32 rfl (hdeps ⟨16, .data⟩ (by simp) rfl) (.inl (show _ = false from notl hnl)) rfl
          refine wp_append_act (n₀ := w.heap.size) rfl (.tmp 16) (.tmp 32) rfl _ e16 (l.take j) x b1 b2 b4 d1 d2 d4 hk e32 (HO5.out.on hb5) (Nat.le_trans HN5.out hb5.size) HTL.out k1 k2 k4 (fun g9 c9 w9 hO9 hgr hb9 => ⟨_, rfl, ⟨g9, c9, by rw [HTL2.out], by rw [HTL2.out] at hO9; exact hO9⟩, ?_⟩)
          unfold OfRelX
          rw [if_pos rfl]
          refine ⟨hb9, hgr.block _ (blk_lt hbox) (fun e => ?_)⟩
          have ht := (HO5.out.on hb5).type _ e.symm
          obtain ⟨cs, sp, ht⟩ := ht
          rw [hbox] at ht
          cases ht
        · cases ho
          obtain ⟨g9, c9, e33, k9⟩ := h.got 17 _ 33 rfl (hdeps ⟨17, .data⟩ (by simp) rfl) (.inl (show _ = false from notl hnl)) rfl
          go_simp
          exact ⟨_, rfl, ⟨g9, c9, rfl, k9⟩, ofRel_else (by decide) (by decide) (Below.refl _ _)⟩
      · intro a W h
        obtain ⟨g9, c9, e3, hO9⟩ := h.got 18 _ 3 rfl (by simp) (.inr rfl) rfl
        have HO9 := Lib.hid hO9
        have HB9 := Lib.hid h.base.1
        have f0 : a.tmps.getD 0 undef = .slice (some ⟨g, off, none⟩) l.length c := h.free 0 (by kernel_rfl)
        have f1 : a.tmps.getD 1 undef = undef := h.free 1 (by kernel_rfl)
        have f34 : a.tmps.getD 34 undef = undef := h.free 34 (by kernel_rfl)
        have f2 : a.tmps.getD 2 undef = .slice none 0 0 := h.free 2 (by kernel_rfl)
        have f4 : a.tmps.getD 4 undef = .int .i64 j := h.free 4 (by kernel_rfl)
        have ea := arr_eq a.tmps 35 h.size
        have ed := h.defers
        clear h hO9
        obtain ⟨t, ds⟩ := a
        have ed : ds = [] := ed
        subst ed
        have e3 : t.getD 3 undef = .slice (some ⟨g9, 0, none⟩) (j + 1) c9 := e3
        have f0 : t.getD 0 undef = .slice (some ⟨g, off, none⟩) l.length c := f0
        have f2 : t.getD 2 undef = .slice none 0 0 := f2
        have f1 : t.getD 1 undef = undef := f1
        have f34 : t.getD 34 undef = undef := f34
        have f4 : t.getD 4 undef = .int .i64 j := f4
        have ea : t = #[t.getD 0 undef, t.getD 1 undef, t.getD 2 undef, t.getD 3 undef, t.getD 4 undef, t.getD 5 undef, t.getD 6 undef, t.getD 7 undef, t.getD 8 undef, t.getD 9 undef, t.getD 10 undef, t.getD 11 undef, t.getD 12 undef, t.getD 13 undef, t.getD 14 undef, t.getD 15 undef, t.getD 16 undef, t.getD 17 undef, t.getD 18 undef, t.getD 19 undef, t.getD 20 undef, t.getD 21 undef, t.getD 22 undef, t.getD 23 undef, t.getD 24 undef, t.getD 25 undef, t.getD 26 undef, t.getD 27 undef, t.getD 28 undef, t.getD 29 undef, t.getD 30 undef, t.getD 31 undef, t.getD 32 undef, t.getD 33 undef, t.getD 34 undef] := ea
        rw [e3, f0, f1, f2, f4, f34] at ea
        generalize t.getD 5 undef = v5 at ea
        generalize t.getD 6 undef = v6 at ea
        generalize t.getD 7 undef = v7 at ea
        generalize t.getD 8 undef = v8 at ea
        generalize t.getD 9 undef = v9 at ea
        generalize t.getD 10 undef = v10 at ea
        generalize t.getD 11 undef = v11 at ea
        generalize t.getD 12 undef = v12 at ea
        generalize t.getD 13 undef = v13 at ea
        generalize t.getD 14 undef = v14 at ea
        generalize t.getD 15 undef = v15 at ea
        generalize t.getD 16 undef = v16 at ea
        generalize t.getD 17 undef = v17 at ea
        generalize t.getD 18 undef = v18 at ea
        generalize t.getD 19 undef = v19 at ea
        generalize t.getD 20 undef = v20 at ea
        generalize t.getD 21 undef = v21 at ea
        generalize t.getD 22 undef = v22 at ea
        generalize t.getD 23 undef = v23 at ea
        generalize t.getD 24 undef = v24 at ea
        generalize t.getD 25 undef = v25 at ea
        generalize t.getD 26 undef = v26 at ea
        generalize t.getD 27 undef = v27 at ea
        generalize t.getD 28 undef = v28 at ea
        generalize t.getD 29 undef = v29 at ea
        generalize t.getD 30 undef = v30 at ea
        generalize t.getD 31 undef = v31 at ea
        generalize t.getD 32 undef = v32 at ea
        generalize t.getD 33 undef = v33 at ea
        subst ea
        clear e3 f0 f1 f2 f4 f34
        go_wp2
        go_roundw
        case rel => exact ⟨j + 1, HLT.out, by go_num, by rw [HTK.out]; exact HO9.out, HB9.out⟩
        case measure => have := HLT.out; simp [intOf]; omega
    · obtain rfl : j = l.length := by omega
      rw [List.take_length] at hO
      obtain ⟨ao, co, rfl⟩ := hO.slice
      have HO := Lib.hid hO
      have HB := Lib.hid hB
      clear hO hB hlt hj
      go_wp2
      go_ret
      exact ⟨ao, co, rfl, HO.out.acts, HB.out⟩
end Go.Proofs.Ytgaabclgoolalaa

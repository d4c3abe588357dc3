/-
  script's read: acts with numbers.
  Conditions: none.
-/
import Derived.Test.YtgaabclgoolalaaScr18
import Derived.Test.YtgaabclgoolalaaOrd3
namespace Go.Proofs.Ytgaabclgoolalaa
open Go.RowKit
attribute [local go_sem] Oper.semAt_some
attribute [-go_sem] Instr.build Instr.fill
attribute [local go_sem] build_act

/-- What each operation yields where a number is read. -/
def RnR (w : World) (R : Nat) (a3 : Option Addr) (c3 : Nat) (L : List Int) (y : BitVec 64) (i : Nat) (v : Value) (W : World) : Prop :=
  match i with
  | 0 | 7 => v = .pointer (some ⟨w.heap.size + 1 + 1, 4, none⟩)
  | 1 => v = .slice a3 L.length c3
  | 2 => v = .pointer (some ⟨R, 0, none⟩)
  | 3 => v = .int .u64 (U y)
  | 4 => v = .int .i64 (toI y)
  | 5 => ∃ g, v = .slice (some ⟨g, 0, none⟩) 1 1 ∧ IntsAt W.heap.size W (.slice (some ⟨g, 0, none⟩) 1 1) [toI y]
  | 6 => ∃ a c, v = .slice a (L ++ [toI y]).length c ∧ W.ownsRow (w.heap.size + 3) 3 1 (.slice a (L ++ [toI y]).length c) (L ++ [toI y]).length (ints (L ++ [toI y]))
  | _ => True
def rnD (i : Nat) : Nat := match i with | 5 => 6 | 6 => 8 | i => i
/-- What is known of the memory. -/
def RnB (n₀ : Nat) (w : World) (R : Nat) (wh : Array Value) (kind : Int) (sj s' : RSt) (L : List Int) (y : BitVec 64) (a3 : Option Addr) (c3 : Nat) (listed : Array Bool) (W : World) : Prop :=
  (listed.getD 8 false = false → RB n₀ w R wh (if listed.getD 3 false = true then s' else sj) ⟨kind, [], [], 0, L⟩ none none a3 0 0 c3 W ∧ (listed.getD 6 false = false → W.ownsRow (w.heap.size + 3) 3 1 (.slice a3 L.length c3) L.length (ints L))) ∧
  (listed.getD 8 false = true → listed.getD 6 false = true ∧ ∃ a c, RB n₀ w R wh s' ⟨kind, [], [], 0, L ++ [toI y]⟩ none none a 0 0 c W ∧ W.ownsRow (w.heap.size + 3) 3 1 (.slice a (L ++ [toI y]).length c) (L ++ [toI y]).length (ints (L ++ [toI y])))
/-- What an operation does to it. -/
def RnRel (n₀ : Nat) (w : World) (R : Nat) (wh : Array Value) (kind : Int) (s' : RSt) (L : List Int) (y : BitVec 64) (j : Nat) (W W' : World) : Prop :=
  (j = 3 ∧ ReadB n₀ R s' W' ∧ Moves (rS R) W W') ∨ (j = 5 ∧ Below W.heap.size W W') ∨ (j = 6 ∧ ∃ v n xs, W.ownsRow (w.heap.size + 3) 3 1 v n xs ∧ W.grownBy W' v.ownBlock) ∨
  (j = 8 ∧ ∃ a c, RB n₀ w R wh s' ⟨kind, [], [], 0, L ++ [toI y]⟩ none none a 0 0 c W' ∧ W'.ownsRow (w.heap.size + 3) 3 1 (.slice a (L ++ [toI y]).length c) (L ++ [toI y]).length (ints (L ++ [toI y]))) ∨ ((j ≠ 3 ∧ j ≠ 8) ∧ W = W')
theorem rnB_set {n₀ : Nat} {w : World} {R : Nat} {wh : Array Value} {kind : Int} {sj s' : RSt} {L : List Int} {y : BitVec 64} {a3 : Option Addr} {c3 : Nat} {listed : Array Bool} {W W' : World} {j : Nat} (hR : R < w.heap.size) (hnl : listed.getD j true = false) (h6 : j = 8 → listed.getD 6 false = true) (h : RnB n₀ w R wh kind sj s' L y a3 c3 listed W) (hr : RnRel n₀ w R wh kind s' L y j W W') : RnB n₀ w R wh kind sj s' L y a3 c3 (listed.setIfInBounds j true) W' := by
  have hs := not_size hnl
  obtain ⟨h1, h2⟩ := h
  have g3 := getD_set (l := listed) (i := j) (j := 3) (b := false) hs
  have g6 := getD_set (l := listed) (i := j) (j := 6) (b := false) hs
  have g8 := getD_set (l := listed) (i := j) (j := 8) (b := false) hs
  have far : ∀ {v : Value} {n : Nat} {xs : List Value}, W.ownsRow (w.heap.size + 3) 3 1 v n xs → ∀ k, v.ownBlock = some k → ¬ rS R k := fun ho k hk e => by
    have e : k = R := e
    have := (ho.lt k hk).1
    omega
  unfold RnB
  rcases hr with ⟨rfl, hr, hm⟩ | ⟨rfl, hb⟩ | ⟨rfl, v, n, xs, ho, hg⟩ | ⟨rfl, a, c, hb, ho⟩ | ⟨⟨n3, n8⟩, rfl⟩
  · rw [if_pos rfl] at g3
    rw [if_neg (by decide)] at g6 g8
    rw [g3, g6, g8, if_pos rfl]
    refine ⟨fun e => ?_, fun e => ?_⟩
    · obtain ⟨k1, k2⟩ := h1 e
      exact ⟨k1.moved hr hm, fun e6 => hm.row (k2 e6) (far (k2 e6))⟩
    · obtain ⟨k0, a, c, k1, k2⟩ := h2 e
      exact ⟨k0, a, c, k1.moved hr hm, hm.row k2 (far k2)⟩
  · rw [if_neg (by decide)] at g3 g6 g8
    rw [g3, g6, g8]
    have hm : Moves (fun _ => False) W W' := Moves.of_below hb
    refine ⟨fun e => ?_, fun e => ?_⟩
    · obtain ⟨k1, k2⟩ := h1 e
      exact ⟨k1.below hb, fun e6 => hm.row (k2 e6) (fun _ _ f => f)⟩
    · obtain ⟨k0, a, c, k1, k2⟩ := h2 e
      exact ⟨k0, a, c, k1.below hb, hm.row k2 (fun _ _ f => f)⟩
  · rw [if_neg (by decide)] at g3 g8
    rw [if_pos rfl] at g6
    rw [g3, g6, g8]
    refine ⟨fun e => ?_, fun e => ?_⟩
    · obtain ⟨k1, k2⟩ := h1 e
      exact ⟨k1.grown ho hg, fun e6 => by cases e6⟩
    · have := (h2 e).1
      rw [notl hnl] at this
      cases this
  · rw [if_neg (by decide)] at g3 g6
    rw [if_pos rfl] at g8
    rw [g3, g6, g8]
    exact ⟨fun e => (by cases e), fun _ => ⟨h6 rfl, a, c, hb, ho⟩⟩
  · rw [if_neg n3] at g3
    rw [if_neg n8] at g8
    rw [g3, g8]
    have key : (listed.setIfInBounds j true).getD 6 false = false → listed.getD 6 false = false := fun e => by
      rw [g6] at e
      split at e
      · cases e
      · exact e
    have key2 : listed.getD 6 false = true → (listed.setIfInBounds j true).getD 6 false = true := fun e => by
      rw [g6]
      split
      · rfl
      · exact e
    refine ⟨fun e => ?_, fun e => ?_⟩
    · obtain ⟨k1, k2⟩ := h1 e
      exact ⟨k1, fun e6 => k2 (key e6)⟩
    · obtain ⟨k0, k1⟩ := h2 e
      exact ⟨key2 k0, k1⟩
/-- An append of numbers, one operation. -/
theorem wp_append_ints {w : World} {o : Oper} {a : Act} {K : Act → World → Prop} {Q : Exit → Act → World → Prop} (s x : Operand) (hty : o.type = 47)
    (ho : o.op = .call { callee := .builtin .append, args := #[s, x], argTypes := #[47, 47] })
    (base : Nat) (v u : Value) (hs : a.eval s = v) (xs : List Int) (hown : w.ownsRow base 3 1 v xs.length (ints xs)) (hx : a.eval x = u) (n₀ : Nat) (bs : List Int) (hu : IntsAt n₀ w u bs) (hlen : xs.length + bs.length ≤ 1073741824) (hb : base ≤ w.heap.size)
    (h : ∀ v' w', w'.ownsRow base 3 1 v' (xs ++ bs).length (ints (xs ++ bs)) → w.grownBy w' v.ownBlock → K (a.put o.dst v') w') : Oper.wp Try.prog o a w K Q := by
  obtain ⟨i0, hi, hz0, hz1, hz2⟩ := info_partsI infoInt
  obtain ⟨v', w', hr, h2, h3, _⟩ := run_append_ints (w := w) base i0 hi hz0 hz1 hz2 v xs hown u n₀ bs hu hlen hb
  unfold Oper.wp
  simp [execOp, ho, resolve, invoke, builtin, hs, hx, hty, hr, Result.andThen]
  exact h v' w' h2 h3
theorem wrapI (x : Int) : IntKind.i64.wrap x = wrap64 x := by unfold wrap64; exact IntKind.wrap_i64 x
theorem num_lt (s : RSt) : U (rNum s 1).1 < 65536 := leOf_lt _ (by
  unfold tookN
  split
  · simp [takenB]; omega
  · simp [takenB])
set_option maxRecDepth 100000 in
set_option maxHeartbeats 8000000 in
theorem read_rot (nm : ByteArray) (kind : Int) {n₀ R : Nat} {s : RSt} {w : World} (h : ReadB n₀ R s w) (hn : n₀ ≤ w.heap.size) (hl : s.1.length ≤ 1099511627776) :
    Calls Try.prog 34 #[.agg #[.string nm, .bool false, .bool false, .bool false, .int .i64 3, .int .i64 3], .pointer (some ⟨R, 0, none⟩), .int .i64 kind] w (ReadRet n₀ R (readS false false false false 3 kind s).1 (readS false false false false 3 kind s).2 w) := by
  obtain ⟨w2, hw2⟩ : ∃ w2, ((w.alloc (.cells #[.string nm, .bool false, .bool false, .bool false, .int .i64 3, .int .i64 3] 70)).alloc (.cells act0 49)).alloc (.cells (actC ⟨kind, [], [], 0, []⟩ none none none 0 0 0) 49) = w2 := ⟨_, rfl⟩
  have hb2 := RB.start h hn (#[.string nm, .bool false, .bool false, .bool false, .int .i64 3, .int .i64 3]) kind
  rw [hw2] at hb2
  have HB2 := Lib.hid hb2
  have HW2 := Lib.hid hw2
  have HCT := Lib.hid (fun W => counted_any nm false false false 3 3 W)
  have HLS := Lib.hid hl
  have HRW := Lib.hid h.lt
  clear hw2 hb2 h hl
  go_enter Try.func34, Try.ntmps34
  go_upto_region 2 with (fail)
  change Code.wp _ _ _ _ (((w.alloc (.cells #[.string nm, .bool false, .bool false, .bool false, .int .i64 3, .int .i64 3] 70)).alloc (.cells act0 49)).alloc (.cells (actC ⟨kind, [], [], 0, []⟩ none none none 0 0 0) 49))
  rw [HW2.out]
  clear HW2
  obtain ⟨⟨y0, y1, y2, y3, y4, y5⟩, ⟨z0, z1, z2, z3, z4⟩, ⟨r1, r2, r3, r4⟩⟩ := HB2.out.cells
  go_wp2_with (go_at_call 40; (with_reducible refine (HCT.out _).mono ?_); rintro e wd ⟨rfl, hc⟩; have HBd := Lib.hid (HB2.out.below hc); clear hc; clear y0 y1 y2 y3 y4 y5 z0 z1 z2 z3 z4 r1 r2 r3 r4; obtain ⟨⟨y0, y1, y2, y3, y4, y5⟩, ⟨z0, z1, z2, z3, z4⟩, ⟨r1, r2, r3, r4⟩⟩ := HBd.out.cells)
  obtain ⟨sN, hsN⟩ : ∃ sN, s = sN := ⟨_, rfl⟩
  have HSN := Lib.hid hsN
  have hlN : sN.1.length ≤ 1099511627776 := by rw [← hsN]; exact HLS.out
  clear hsN
  have HLN := Lib.hid hlN
  clear hlN
  clear y0 y1 y2 y3 y4 y5 z0 z1 z2 z3 z4 r1 r2 r3 r4
  have hst : RB n₀ w R #[.string nm, .bool false, .bool false, .bool false, .int .i64 3, .int .i64 3] sN ⟨kind, [], [], 0, []⟩ none none none 0 0 0 wd := by rw [← HSN.out]; exact HBd.out
  have HST := Lib.hid hst
  clear hst
  go_loopw [35] (fun i wr => ∃ j : Nat, j ≤ 3 ∧ i = .int .i64 j ∧ ∃ a3 c3, RB n₀ w R #[.string nm, .bool false, .bool false, .bool false, .int .i64 3, .int .i64 3] (rNums j sN).2 ⟨kind, [], [], 0, (rNums j sN).1⟩ none none a3 0 0 c3 wr ∧ wr.ownsRow (w.heap.size + 3) 3 1 (.slice a3 (rNums j sN).1.length c3) (rNums j sN).1.length (ints (rNums j sN).1)) (fun i _ => 3 - (intOf i).toNat)
  case atStart => exact ⟨0, Nat.zero_le _, rfl, none, 0, HST.out, World.ownsRow_nil _ _ _ _⟩
  case round =>
    obtain ⟨j, hj, rfl, a3, c3, hB, hO⟩ := hrel
    by_cases hlt : j < 3
    · have j1 : (j : Int) < 3 := by omega
      have HLT := Lib.hid hlt
      have HSUC : Hid (rNums (j + 1) sN = ((rNums j sN).1 ++ [toI (rNum (rNums j sN).2 8).1], (rNum (rNums j sN).2 8).2)) := rfl
      have hlj : (rNums j sN).2.1.length ≤ 1099511627776 := Nat.le_trans (rNums_len _ _) HLN.out
      have HLJ := Lib.hid hlj
      have hsz : (rNums j sN).1.length ≤ 70000 := by rw [rNums_size]; omega
      have HSZ := Lib.hid hsz
      generalize (rNums j sN).1 = L at hB hO HSUC HSZ
      generalize (rNums j sN).2 = sj at hB HSUC HLJ
      clear hlj hsz
      have HNU := Lib.hid (fun W (h : ReadB n₀ R sj W) hn => h.num8 hn HLJ.out)
      generalize (rNum sj 8).1 = y at HSUC HNU
      generalize (rNum sj 8).2 = s' at HSUC HNU
      have HBJ := Lib.hid hB
      have HOJ := Lib.hid hO
      clear hB hO hlt hj
      go_upto_region 13 with (fail)
      refine wp_region_any (by kernel_rfl) ?_
      change wpAny _ _ _ _ _ _ _ wr.drew
      refine wpAny_ord4 47 rnD (RnR w R a3 c3 L y) (RnB n₀ w R #[.string nm, .bool false, .bool false, .bool false, .int .i64 3, .int .i64 3] kind sj s' L y a3 c3) (RnRel n₀ w R #[.string nm, .bool false, .bool false, .bool false, .int .i64 3, .int .i64 3] kind s' L y) (by kernel_rfl) rfl ?_ ?_ ?_ ?_ ?_
      · exact ⟨fun _ => ⟨HBJ.out.below (Below.refl _ _).drew, fun _ => HOJ.out⟩, fun e => by cases e⟩
      · intro i k v W W' hij hD ha1 ha2 hr hrel
        have hi : i < 7 ∨ i = 7 ∨ 8 ≤ i := by omega
        rcases hi with hi | rfl | hi
        · have h9 : i = 0 ∨ i = 1 ∨ i = 2 ∨ i = 3 ∨ i = 4 ∨ i = 5 ∨ i = 6 := by omega
          rcases h9 with rfl | rfl | rfl | rfl | rfl | rfl | rfl
          · exact hr
          · exact hr
          · exact hr
          · exact hr
          · exact hr
          · rcases hrel with ⟨rfl, _⟩ | ⟨rfl, _⟩ | ⟨rfl, _⟩ | ⟨rfl, _⟩ | ⟨_, rfl⟩
            · exact Bool.noConfusion (ha1.symm.trans (show anc _ _ _ _ = true by kernel_rfl))
            · exact absurd rfl hij
            · exact absurd rfl hD
            · rcases ha2 with h | h
              · exact Bool.noConfusion (h.symm.trans (show anc _ _ _ _ = true by kernel_rfl))
              · exact absurd h (by decide)
            · exact hr
          · rcases hrel with ⟨rfl, _⟩ | ⟨rfl, _⟩ | ⟨rfl, _⟩ | ⟨rfl, _⟩ | ⟨_, rfl⟩
            · exact Bool.noConfusion (ha1.symm.trans (show anc _ _ _ _ = true by kernel_rfl))
            · exact Bool.noConfusion (ha1.symm.trans (show anc _ _ _ _ = true by kernel_rfl))
            · exact absurd rfl hij
            · exact absurd rfl hD
            · exact hr
        · exact hr
        · match i, hi with
          | i + 8, _ => trivial
      · intro k listed W W' hnl hanc hb hrel
        exact rnB_set HRW.out hnl (fun e => by subst e; exact hanc 6 (by kernel_rfl)) hb hrel
      · intro i o ho listed a W h hnl hdeps
        have ho9 := ho
        have hi : i < 9 := by have := (Array.getElem?_eq_some_iff.1 ho).1; simpa using this
        have e1 : a.tmps.getD 1 undef = .pointer (some ⟨R, 0, none⟩) := h.free 1 (by kernel_rfl)
        have e7 : a.tmps.getD 7 undef = .pointer (some ⟨w.heap.size + 1 + 1, 0, none⟩) := h.free 7 (by kernel_rfl)
        have f1 := (Array.getD_eq_getD_getElem? (xs := a.tmps) (i := 1) (d := undef)).symm.trans e1
        have f7 := (Array.getD_eq_getD_getElem? (xs := a.tmps) (i := 7) (d := undef)).symm.trans e7
        have h9 : i = 0 ∨ i = 1 ∨ i = 2 ∨ i = 3 ∨ i = 4 ∨ i = 5 ∨ i = 6 ∨ i = 7 ∨ i = 8 := by omega
        rcases h9 with rfl | rfl | rfl | rfl | rfl | rfl | rfl | rfl | rfl
        · cases ho
          go_simp
          exact ⟨_, rfl, rfl, .inr (.inr (.inr (.inr ⟨⟨by decide, by decide⟩, rfl⟩)))⟩
        · cases ho
          have e37 : a.tmps.getD 37 undef = .pointer (some ⟨w.heap.size + 1 + 1, 4, none⟩) := h.got 0 _ 37 rfl (hdeps ⟨0, .data⟩ (by simp) rfl) (.inr rfl) rfl
          have f37 := (Array.getD_eq_getD_getElem? (xs := a.tmps) (i := 37) (d := undef)).symm.trans e37
          obtain ⟨hrb, _⟩ := h.base.1 (h.yet hnl 8 (by kernel_rfl))
          have z4 : W.cell? ⟨w.heap.size + 1 + 1, 4, none⟩ = some (.slice a3 L.length c3) := blk_cell hrb.act 4
          go_simp
          exact ⟨_, rfl, rfl, .inr (.inr (.inr (.inr ⟨⟨by decide, by decide⟩, rfl⟩)))⟩
        · cases ho
          go_simp
          exact ⟨_, rfl, rfl, .inr (.inr (.inr (.inr ⟨⟨by decide, by decide⟩, rfl⟩)))⟩
        · cases ho
          have e39 : a.tmps.getD 39 undef = .pointer (some ⟨R, 0, none⟩) := h.got 2 _ 39 rfl (hdeps ⟨2, .data⟩ (by simp) rfl) (.inr rfl) rfl
          have f39 := (Array.getD_eq_getD_getElem? (xs := a.tmps) (i := 39) (d := undef)).symm.trans e39
          obtain ⟨hrb, _⟩ := h.base.1 (h.yet hnl 8 (by kernel_rfl))
          rw [if_neg (by rw [notl hnl]; decide)] at hrb
          go_simp
          exact (HNU.out W hrb.rd hrb.nle).mono fun _ _ ⟨he, hr, hm⟩ => by subst he; exact ⟨_, rfl, rfl, .inl ⟨rfl, hr, hm⟩⟩
        · cases ho
          have e40 : a.tmps.getD 40 undef = .int .u64 (U y) := h.got 3 _ 40 rfl (hdeps ⟨3, .data⟩ (by simp) rfl) (.inr rfl) rfl
          have f40 := (Array.getD_eq_getD_getElem? (xs := a.tmps) (i := 40) (d := undef)).symm.trans e40
          go_simp
          exact ⟨_, rfl, (by show Value.int .i64 _ = Value.int .i64 _; unfold toI; rw [wrapI]), .inr (.inr (.inr (.inr ⟨⟨by decide, by decide⟩, rfl⟩)))⟩
        · cases ho
          have e41 : a.tmps.getD 41 undef = .int .i64 (toI y) := h.got 4 _ 41 rfl (hdeps ⟨4, .data⟩ (by simp) rfl) (.inr rfl) rfl
          have f41 := (Array.getD_eq_getD_getElem? (xs := a.tmps) (i := 41) (d := undef)).symm.trans e41
          go_simp
          exact ⟨_, rfl, ⟨W.heap.size, rfl, IntsAt.of_blk (l := [toI y]) (heap_alloc_new W (.cells (ints [toI y]).toArray 3))⟩, .inr (.inl ⟨rfl, (Below.refl _ _).alloc (Nat.le_refl _) _⟩)⟩
        · cases ho
          have e38 : a.tmps.getD 38 undef = .slice a3 L.length c3 := h.got 1 _ 38 rfl (hdeps ⟨1, .data⟩ (by simp) rfl) (.inr rfl) rfl
          have f38 := (Array.getD_eq_getD_getElem? (xs := a.tmps) (i := 38) (d := undef)).symm.trans e38
          obtain ⟨g5, e42, hi5⟩ := h.got 5 _ 42 rfl (hdeps ⟨5, .data⟩ (by simp) rfl) (.inl (show _ = false from notl hnl)) rfl
          obtain ⟨hrb, hro⟩ := h.base.1 (h.yet hnl 8 (by kernel_rfl))
          have ho := hro (notl hnl)
          refine wp_append_ints (.tmp 38) (.tmp 42) rfl rfl (w.heap.size + 3) _ _ e38 L ho e42 _ [toI y] hi5 (by have := HSZ.out; simp; omega) hrb.size ?_
          intro v' w' ho' hg'
          obtain ⟨a', c', rfl⟩ := owns_slice ho'
          exact ⟨_, rfl, ⟨a', c', rfl, ho'⟩, .inr (.inr (.inl ⟨rfl, _, _, _, ho, hg'⟩))⟩
        · cases ho
          go_simp
          exact ⟨_, rfl, rfl, .inr (.inr (.inr (.inr ⟨⟨by decide, by decide⟩, rfl⟩)))⟩
        · cases ho
          have e44 : a.tmps.getD 44 undef = .pointer (some ⟨w.heap.size + 1 + 1, 4, none⟩) := h.got 7 _ 44 rfl (hdeps ⟨7, .data⟩ (by simp) rfl) (.inr rfl) rfl
          have f44 := (Array.getD_eq_getD_getElem? (xs := a.tmps) (i := 44) (d := undef)).symm.trans e44
          obtain ⟨a', c', e43, ho'⟩ := h.got 6 _ 43 rfl (hdeps ⟨6, .data⟩ (by simp) rfl) (.inl (show _ = false from notl hnl)) rfl
          have f43 := (Array.getD_eq_getD_getElem? (xs := a.tmps) (i := 43) (d := undef)).symm.trans e43
          obtain ⟨hrb, _⟩ := h.base.1 (notl hnl)
          rw [if_pos (h.has ho9 hdeps 3 (by kernel_rfl))] at hrb
          have z4 : W.cell? ⟨w.heap.size + 1 + 1, 4, none⟩ = some (.slice a3 L.length c3) := blk_cell hrb.act 4
          have r4 : W.frozen? ⟨w.heap.size + 1 + 1, 4, none⟩ = false := blk_frozen hrb.act 4
          have hset := hrb.set 4 (.slice a' (L ++ [toI y]).length c') (x' := ⟨kind, [], [], 0, L ++ [toI y]⟩) (b1 := none) (b2 := none) (b3 := a') (d1 := 0) (d2 := 0) (d3 := c') rfl hrb.key hrb.val
          have hso := (set_moves (W := W) (w.heap.size + 2) 4 (.slice a' (L ++ [toI y]).length c')).row ho' (fun k hk e => by have := (ho'.lt k hk).1; have e : k = w.heap.size + 2 := e; omega)
          obtain ⟨ln, hln⟩ : ∃ ln, (L ++ [toI y]).length = ln := ⟨_, rfl⟩
          rw [hln] at e43 f43
          have HLN9 := Lib.hid hln
          have HSET := Lib.hid hset
          have HSO := Lib.hid hso
          clear hln hset hso
          go_simp
          rw [← HLN9.out]
          exact ⟨⟨undef, trivial⟩, .inr (.inr (.inr (.inl ⟨rfl, a', c', HSET.out, HSO.out⟩)))⟩
      · intro a W h
        have f0 : a.tmps.getD 0 undef = .agg #[.string nm, .bool false, .bool false, .bool false, .int .i64 3, .int .i64 3] := h.free 0 (by kernel_rfl)
        have f1 : a.tmps.getD 1 undef = .pointer (some ⟨R, 0, none⟩) := h.free 1 (by kernel_rfl)
        have f2 : a.tmps.getD 2 undef = .int .i64 kind := h.free 2 (by kernel_rfl)
        have f3 : a.tmps.getD 3 undef = .pointer (some ⟨w.heap.size, 0, none⟩) := h.free 3 (by kernel_rfl)
        have f4 : a.tmps.getD 4 undef = undef := h.free 4 (by kernel_rfl)
        have f5 : a.tmps.getD 5 undef = undef := h.free 5 (by kernel_rfl)
        have f6 : a.tmps.getD 6 undef = .pointer (some ⟨w.heap.size + 1, 0, none⟩) := h.free 6 (by kernel_rfl)
        have f7 : a.tmps.getD 7 undef = .pointer (some ⟨w.heap.size + 1 + 1, 0, none⟩) := h.free 7 (by kernel_rfl)
        have f8 : a.tmps.getD 8 undef = .int .i64 3 := h.free 8 (by kernel_rfl)
        have f9 : a.tmps.getD 9 undef = .int .i64 kind := h.free 9 (by kernel_rfl)
        have f10 : a.tmps.getD 10 undef = .agg #[.int .i64 kind, .slice none 0 0, .slice none 0 0, .int .i64 0, .slice none 0 0] := h.free 10 (by kernel_rfl)
        have f11 : a.tmps.getD 11 undef = .pointer (some ⟨w.heap.size, 1, none⟩) := h.free 11 (by kernel_rfl)
        have f12 : a.tmps.getD 12 undef = .bool false := h.free 12 (by kernel_rfl)
        have f13 : a.tmps.getD 13 undef = undef := h.free 13 (by kernel_rfl)
        have f14 : a.tmps.getD 14 undef = undef := h.free 14 (by kernel_rfl)
        have f15 : a.tmps.getD 15 undef = undef := h.free 15 (by kernel_rfl)
        have f16 : a.tmps.getD 16 undef = .pointer (some ⟨w.heap.size, 2, none⟩) := h.free 16 (by kernel_rfl)
        have f17 : a.tmps.getD 17 undef = .bool false := h.free 17 (by kernel_rfl)
        have f18 : a.tmps.getD 18 undef = undef := h.free 18 (by kernel_rfl)
        have f19 : a.tmps.getD 19 undef = undef := h.free 19 (by kernel_rfl)
        have f20 : a.tmps.getD 20 undef = undef := h.free 20 (by kernel_rfl)
        have f21 : a.tmps.getD 21 undef = .pointer (some ⟨w.heap.size, 3, none⟩) := h.free 21 (by kernel_rfl)
        have f22 : a.tmps.getD 22 undef = .bool false := h.free 22 (by kernel_rfl)
        have f23 : a.tmps.getD 23 undef = undef := h.free 23 (by kernel_rfl)
        have f24 : a.tmps.getD 24 undef = undef := h.free 24 (by kernel_rfl)
        have f25 : a.tmps.getD 25 undef = undef := h.free 25 (by kernel_rfl)
        have f26 : a.tmps.getD 26 undef = undef := h.free 26 (by kernel_rfl)
        have f27 : a.tmps.getD 27 undef = .pointer (some ⟨w.heap.size, 4, none⟩) := h.free 27 (by kernel_rfl)
        have f28 : a.tmps.getD 28 undef = .int .i64 3 := h.free 28 (by kernel_rfl)
        have f29 : a.tmps.getD 29 undef = .agg #[.string nm, .bool false, .bool false, .bool false, .int .i64 3, .int .i64 3] := h.free 29 (by kernel_rfl)
        have f30 : a.tmps.getD 30 undef = .bool false := h.free 30 (by kernel_rfl)
        have f31 : a.tmps.getD 31 undef = undef := h.free 31 (by kernel_rfl)
        have f32 : a.tmps.getD 32 undef = undef := h.free 32 (by kernel_rfl)
        have f33 : a.tmps.getD 33 undef = undef := h.free 33 (by kernel_rfl)
        have f34 : a.tmps.getD 34 undef = .int .i64 3 := h.free 34 (by kernel_rfl)
        have f35 : a.tmps.getD 35 undef = .int .i64 j := h.free 35 (by kernel_rfl)
        have f46 : a.tmps.getD 46 undef = undef := h.free 46 (by kernel_rfl)
        have ea := arr_eq a.tmps 47 h.size
        have ed := h.defers
        obtain ⟨_, ae, ce, hbe, hoe⟩ := h.base.2 rfl
        have HBE := Lib.hid hbe
        have HOE := Lib.hid hoe
        clear h hbe hoe
        obtain ⟨t, ds⟩ := a
        replace ed : ds = [] := ed
        subst ed
        replace f0 : t.getD 0 undef = .agg #[.string nm, .bool false, .bool false, .bool false, .int .i64 3, .int .i64 3] := f0
        replace f1 : t.getD 1 undef = .pointer (some ⟨R, 0, none⟩) := f1
        replace f2 : t.getD 2 undef = .int .i64 kind := f2
        replace f3 : t.getD 3 undef = .pointer (some ⟨w.heap.size, 0, none⟩) := f3
        replace f4 : t.getD 4 undef = undef := f4
        replace f5 : t.getD 5 undef = undef := f5
        replace f6 : t.getD 6 undef = .pointer (some ⟨w.heap.size + 1, 0, none⟩) := f6
        replace f7 : t.getD 7 undef = .pointer (some ⟨w.heap.size + 1 + 1, 0, none⟩) := f7
        replace f8 : t.getD 8 undef = .int .i64 3 := f8
        replace f9 : t.getD 9 undef = .int .i64 kind := f9
        replace f10 : t.getD 10 undef = .agg #[.int .i64 kind, .slice none 0 0, .slice none 0 0, .int .i64 0, .slice none 0 0] := f10
        replace f11 : t.getD 11 undef = .pointer (some ⟨w.heap.size, 1, none⟩) := f11
        replace f12 : t.getD 12 undef = .bool false := f12
        replace f13 : t.getD 13 undef = undef := f13
        replace f14 : t.getD 14 undef = undef := f14
        replace f15 : t.getD 15 undef = undef := f15
        replace f16 : t.getD 16 undef = .pointer (some ⟨w.heap.size, 2, none⟩) := f16
        replace f17 : t.getD 17 undef = .bool false := f17
        replace f18 : t.getD 18 undef = undef := f18
        replace f19 : t.getD 19 undef = undef := f19
        replace f20 : t.getD 20 undef = undef := f20
        replace f21 : t.getD 21 undef = .pointer (some ⟨w.heap.size, 3, none⟩) := f21
        replace f22 : t.getD 22 undef = .bool false := f22
        replace f23 : t.getD 23 undef = undef := f23
        replace f24 : t.getD 24 undef = undef := f24
        replace f25 : t.getD 25 undef = undef := f25
        replace f26 : t.getD 26 undef = undef := f26
        replace f27 : t.getD 27 undef = .pointer (some ⟨w.heap.size, 4, none⟩) := f27
        replace f28 : t.getD 28 undef = .int .i64 3 := f28
        replace f29 : t.getD 29 undef = .agg #[.string nm, .bool false, .bool false, .bool false, .int .i64 3, .int .i64 3] := f29
        replace f30 : t.getD 30 undef = .bool false := f30
        replace f31 : t.getD 31 undef = undef := f31
        replace f32 : t.getD 32 undef = undef := f32
        replace f33 : t.getD 33 undef = undef := f33
        replace f34 : t.getD 34 undef = .int .i64 3 := f34
        replace f35 : t.getD 35 undef = .int .i64 j := f35
        replace f46 : t.getD 46 undef = undef := f46
        replace ea : t = #[t.getD 0 undef, t.getD 1 undef, t.getD 2 undef, t.getD 3 undef, t.getD 4 undef, t.getD 5 undef, t.getD 6 undef, t.getD 7 undef, t.getD 8 undef, t.getD 9 undef, t.getD 10 undef, t.getD 11 undef, t.getD 12 undef, t.getD 13 undef, t.getD 14 undef, t.getD 15 undef, t.getD 16 undef, t.getD 17 undef, t.getD 18 undef, t.getD 19 undef, t.getD 20 undef, t.getD 21 undef, t.getD 22 undef, t.getD 23 undef, t.getD 24 undef, t.getD 25 undef, t.getD 26 undef, t.getD 27 undef, t.getD 28 undef, t.getD 29 undef, t.getD 30 undef, t.getD 31 undef, t.getD 32 undef, t.getD 33 undef, t.getD 34 undef, t.getD 35 undef, t.getD 36 undef, t.getD 37 undef, t.getD 38 undef, t.getD 39 undef, t.getD 40 undef, t.getD 41 undef, t.getD 42 undef, t.getD 43 undef, t.getD 44 undef, t.getD 45 undef, t.getD 46 undef] := ea
        rw [f0, f1, f2, f3, f4, f5, f6, f7, f8, f9, f10, f11, f12, f13, f14, f15, f16, f17, f18, f19, f20, f21, f22, f23, f24, f25, f26, f27, f28, f29, f30, f31, f32, f33, f34, f35, f46] at ea
        generalize t.getD 36 undef = v36 at ea
        generalize t.getD 37 undef = v37 at ea
        generalize t.getD 38 undef = v38 at ea
        generalize t.getD 39 undef = v39 at ea
        generalize t.getD 40 undef = v40 at ea
        generalize t.getD 41 undef = v41 at ea
        generalize t.getD 42 undef = v42 at ea
        generalize t.getD 43 undef = v43 at ea
        generalize t.getD 44 undef = v44 at ea
        generalize t.getD 45 undef = v45 at ea
        subst ea
        clear f0 f1 f2 f3 f4 f5 f6 f7 f8 f9 f10 f11 f12 f13 f14 f15 f16 f17 f18 f19 f20 f21 f22 f23 f24 f25 f26 f27 f28 f29 f30 f31 f32 f33 f34 f35 f46
        go_wp2
        go_roundw
        case rel => exact ⟨j + 1, HLT.out, by go_num, ae, ce, by rw [HSUC.out]; exact HBE.out, by rw [HSUC.out]; exact HOE.out⟩
        case measure => have := HLT.out; simp [intOf]; omega
    · have hjC : j = 3 := by omega
      have jn : ¬ (j : Int) < 3 := by omega
      have hend := setRow_heap _ (w.heap.size + 1) _ (actC ⟨kind, [], [], 0, (rNums j sN).1⟩ none none a3 0 0 c3) _ _ hB.res
      have HEQ : Hid ((readS false false false false 3 kind s) = (⟨kind, [], [], 0, (rNums j sN).1⟩, (rNums j sN).2)) := by
        unfold Hid readS
        rw [hjC, ← HSN.out]
        simp only [Bool.false_eq_true, if_false]
      have hfin : ReadRet n₀ R (readS false false false false 3 kind s).1 (readS false false false false 3 kind s).2 w (.returned (.agg (actC ⟨kind, [], [], 0, (rNums j sN).1⟩ none none a3 0 0 c3))) (wr.setRow (w.heap.size + 1) (actC ⟨kind, [], [], 0, (rNums j sN).1⟩ none none a3 0 0 c3)) := by
        rw [HEQ.out]
        exact hB.done ⟨IntsAt.of_owns hO rfl, own_type hO⟩
      have HE := Lib.hid (And.intro hend hfin)
      have HBJ := Lib.hid hB
      clear hend hfin hB hO hlt hj hjC HEQ
      obtain ⟨L, hL⟩ : ∃ L, (rNums j sN).1 = L := ⟨_, rfl⟩
      rw [hL] at HE HBJ
      clear hL
      have z0 : wr.cell? ⟨w.heap.size + 1 + 1, 0, none⟩ = some (.int .i64 kind) := blk_cell HBJ.out.act 0
      have z1 : wr.cell? ⟨w.heap.size + 1 + 1, 1, none⟩ = some (.slice none 0 0) := blk_cell HBJ.out.act 1
      have z2 : wr.cell? ⟨w.heap.size + 1 + 1, 2, none⟩ = some (.slice none 0 0) := blk_cell HBJ.out.act 2
      have z3 : wr.cell? ⟨w.heap.size + 1 + 1, 3, none⟩ = some (.int .i64 0) := blk_cell HBJ.out.act 3
      have z4 : wr.cell? ⟨w.heap.size + 1 + 1, 4, none⟩ = some (.slice a3 L.length c3) := blk_cell HBJ.out.act 4
      have HRES := Lib.hid HBJ.out.res
      clear HBJ
      go_wp2_with (refine wpList_store_row (o := ⟨none, _, _, _, _, _⟩) rfl 49 (.tmp 6) (.tmp 46) rfl (w.heap.size + 1) (actC ⟨kind, [], [], 0, L⟩ none none a3 0 0 c3) rfl rfl 49 act0 HRES.out (actC_sz _ _ _ _ _ _ _) rfl ?_ ?_; exact actC_one _ _ _ _ _ _ _)
      exact bodyPost_ret (results_cell_row rfl _ _ (w.heap.size + 1) 49 (actC ⟨kind, [], [], 0, L⟩ none none a3 0 0 c3) (0, 0) _ rfl HE.out.1 Try.underlying49 rfl (actC_sz _ _ _ _ _ _ _)) rfl HE.out.2
set_option maxRecDepth 100000 in
set_option maxHeartbeats 8000000 in
theorem read_many (nm : ByteArray) (kind : Int) {n₀ R : Nat} {s : RSt} {w : World} (h : ReadB n₀ R s w) (hn : n₀ ≤ w.heap.size) (hl : s.1.length ≤ 1099511627776) :
    Calls Try.prog 34 #[.agg #[.string nm, .bool false, .bool false, .bool false, .int .i64 0, .int .i64 100], .pointer (some ⟨R, 0, none⟩), .int .i64 kind] w (ReadRet n₀ R (readS false false false true 0 kind s).1 (readS false false false true 0 kind s).2 w) := by
  obtain ⟨w2, hw2⟩ : ∃ w2, ((w.alloc (.cells #[.string nm, .bool false, .bool false, .bool false, .int .i64 0, .int .i64 100] 70)).alloc (.cells act0 49)).alloc (.cells (actC ⟨kind, [], [], 0, []⟩ none none none 0 0 0) 49) = w2 := ⟨_, rfl⟩
  have hb2 := RB.start h hn (#[.string nm, .bool false, .bool false, .bool false, .int .i64 0, .int .i64 100]) kind
  rw [hw2] at hb2
  have HB2 := Lib.hid hb2
  have HW2 := Lib.hid hw2
  have HCT := Lib.hid (fun W => counted_any nm false false false 0 100 W)
  have HLS := Lib.hid hl
  have HRW := Lib.hid h.lt
  clear hw2 hb2 h hl
  go_enter Try.func34, Try.ntmps34
  go_upto_region 2 with (fail)
  change Code.wp _ _ _ _ (((w.alloc (.cells #[.string nm, .bool false, .bool false, .bool false, .int .i64 0, .int .i64 100] 70)).alloc (.cells act0 49)).alloc (.cells (actC ⟨kind, [], [], 0, []⟩ none none none 0 0 0) 49))
  rw [HW2.out]
  clear HW2
  obtain ⟨⟨y0, y1, y2, y3, y4, y5⟩, ⟨z0, z1, z2, z3, z4⟩, ⟨r1, r2, r3, r4⟩⟩ := HB2.out.cells
  obtain ⟨C, hC⟩ : ∃ C : Nat, (U (rNum s 1).1).toNat = C := ⟨_, rfl⟩
  have hC2 := num_lt s
  have hC0 := U_nonneg (rNum s 1).1
  have hcw : wrap64 (U (rNum s 1).1) = (C : Int) := by rw [← hC]; unfold wrap64; omega
  have C1 : (C : Int) ≤ 65536 := by omega
  have HCC := Lib.hid hC
  clear hC hC2 hC0
  obtain ⟨sN, hsN⟩ : ∃ sN, (rNum s 1).2 = sN := ⟨_, rfl⟩
  have HSN := Lib.hid hsN
  have hlN : sN.1.length ≤ 1099511627776 := by rw [← hsN]; exact Nat.le_trans (rNum_len _ _) HLS.out
  have HN1 := Lib.hid (fun W (h : RB n₀ w R #[.string nm, .bool false, .bool false, .bool false, .int .i64 0, .int .i64 100] s ⟨kind, [], [], 0, []⟩ none none none 0 0 0 W) => h.rd.num1 h.nle HLS.out)
  rw [hsN] at HN1
  obtain ⟨q1, hq1⟩ : ∃ q1, (rNum s 1).1 = q1 := ⟨_, rfl⟩
  rw [hq1] at HN1 hcw HCC
  have HQ1 := Lib.hid hq1
  clear hq1
  clear hsN
  go_wp2_with (first
    | (go_at_call 40; (with_reducible refine (HCT.out _).mono ?_); rintro e wc ⟨rfl, hc⟩; have HBc := Lib.hid (HB2.out.below hc); have HNc := Lib.hid (HN1.out _ HBc.out); clear hc; clear y0 y1 y2 y3 y4 y5 z0 z1 z2 z3 z4 r1 r2 r3 r4; obtain ⟨⟨y0, y1, y2, y3, y4, y5⟩, ⟨z0, z1, z2, z3, z4⟩, ⟨r1, r2, r3, r4⟩⟩ := HBc.out.cells)
    | (go_at_call 14; (with_reducible refine HNc.out.mono ?_); rintro e wd ⟨rfl, hr, hm⟩; have HBd := Lib.hid (HBc.out.moved hr hm); clear hr hm; clear y0 y1 y2 y3 y4 y5 z0 z1 z2 z3 z4 r1 r2 r3 r4; obtain ⟨⟨y0, y1, y2, y3, y4, y5⟩, ⟨z0, z1, z2, z3, z4⟩, ⟨r1, r2, r3, r4⟩⟩ := HBd.out.cells))
  rw [hcw]
  have HLN := Lib.hid hlN
  clear hlN
  clear y0 y1 y2 y3 y4 y5 z0 z1 z2 z3 z4 r1 r2 r3 r4
  have hst : RB n₀ w R #[.string nm, .bool false, .bool false, .bool false, .int .i64 0, .int .i64 100] sN ⟨kind, [], [], 0, []⟩ none none none 0 0 0 wd := HBd.out
  have HST := Lib.hid hst
  clear hst
  go_loopw [35] (fun i wr => ∃ j : Nat, j ≤ C ∧ i = .int .i64 j ∧ ∃ a3 c3, RB n₀ w R #[.string nm, .bool false, .bool false, .bool false, .int .i64 0, .int .i64 100] (rNums j sN).2 ⟨kind, [], [], 0, (rNums j sN).1⟩ none none a3 0 0 c3 wr ∧ wr.ownsRow (w.heap.size + 3) 3 1 (.slice a3 (rNums j sN).1.length c3) (rNums j sN).1.length (ints (rNums j sN).1)) (fun i _ => C - (intOf i).toNat)
  case atStart => exact ⟨0, Nat.zero_le _, rfl, none, 0, HST.out, World.ownsRow_nil _ _ _ _⟩
  case round =>
    obtain ⟨j, hj, rfl, a3, c3, hB, hO⟩ := hrel
    by_cases hlt : j < C
    · have j1 : (j : Int) < C := by omega
      have HLT := Lib.hid hlt
      have HSUC : Hid (rNums (j + 1) sN = ((rNums j sN).1 ++ [toI (rNum (rNums j sN).2 8).1], (rNum (rNums j sN).2 8).2)) := rfl
      have hlj : (rNums j sN).2.1.length ≤ 1099511627776 := Nat.le_trans (rNums_len _ _) HLN.out
      have HLJ := Lib.hid hlj
      have hsz : (rNums j sN).1.length ≤ 70000 := by rw [rNums_size]; omega
      have HSZ := Lib.hid hsz
      generalize (rNums j sN).1 = L at hB hO HSUC HSZ
      generalize (rNums j sN).2 = sj at hB HSUC HLJ
      clear hlj hsz
      have HNU := Lib.hid (fun W (h : ReadB n₀ R sj W) hn => h.num8 hn HLJ.out)
      generalize (rNum sj 8).1 = y at HSUC HNU
      generalize (rNum sj 8).2 = s' at HSUC HNU
      have HBJ := Lib.hid hB
      have HOJ := Lib.hid hO
      clear hB hO hlt hj
      go_upto_region 13 with (fail)
      refine wp_region_any (by kernel_rfl) ?_
      change wpAny _ _ _ _ _ _ _ wr.drew
      refine wpAny_ord4 47 rnD (RnR w R a3 c3 L y) (RnB n₀ w R #[.string nm, .bool false, .bool false, .bool false, .int .i64 0, .int .i64 100] kind sj s' L y a3 c3) (RnRel n₀ w R #[.string nm, .bool false, .bool false, .bool false, .int .i64 0, .int .i64 100] kind s' L y) (by kernel_rfl) rfl ?_ ?_ ?_ ?_ ?_
      · exact ⟨fun _ => ⟨HBJ.out.below (Below.refl _ _).drew, fun _ => HOJ.out⟩, fun e => by cases e⟩
      · intro i k v W W' hij hD ha1 ha2 hr hrel
        have hi : i < 7 ∨ i = 7 ∨ 8 ≤ i := by omega
        rcases hi with hi | rfl | hi
        · have h9 : i = 0 ∨ i = 1 ∨ i = 2 ∨ i = 3 ∨ i = 4 ∨ i = 5 ∨ i = 6 := by omega
          rcases h9 with rfl | rfl | rfl | rfl | rfl | rfl | rfl
          · exact hr
          · exact hr
          · exact hr
          · exact hr
          · exact hr
          · rcases hrel with ⟨rfl, _⟩ | ⟨rfl, _⟩ | ⟨rfl, _⟩ | ⟨rfl, _⟩ | ⟨_, rfl⟩
            · exact Bool.noConfusion (ha1.symm.trans (show anc _ _ _ _ = true by kernel_rfl))
            · exact absurd rfl hij
            · exact absurd rfl hD
            · rcases ha2 with h | h
              · exact Bool.noConfusion (h.symm.trans (show anc _ _ _ _ = true by kernel_rfl))
              · exact absurd h (by decide)
            · exact hr
          · rcases hrel with ⟨rfl, _⟩ | ⟨rfl, _⟩ | ⟨rfl, _⟩ | ⟨rfl, _⟩ | ⟨_, rfl⟩
            · exact Bool.noConfusion (ha1.symm.trans (show anc _ _ _ _ = true by kernel_rfl))
            · exact Bool.noConfusion (ha1.symm.trans (show anc _ _ _ _ = true by kernel_rfl))
            · exact absurd rfl hij
            · exact absurd rfl hD
            · exact hr
        · exact hr
        · match i, hi with
          | i + 8, _ => trivial
      · intro k listed W W' hnl hanc hb hrel
        exact rnB_set HRW.out hnl (fun e => by subst e; exact hanc 6 (by kernel_rfl)) hb hrel
      · intro i o ho listed a W h hnl hdeps
        have ho9 := ho
        have hi : i < 9 := by have := (Array.getElem?_eq_some_iff.1 ho).1; simpa using this
        have e1 : a.tmps.getD 1 undef = .pointer (some ⟨R, 0, none⟩) := h.free 1 (by kernel_rfl)
        have e7 : a.tmps.getD 7 undef = .pointer (some ⟨w.heap.size + 1 + 1, 0, none⟩) := h.free 7 (by kernel_rfl)
        have f1 := (Array.getD_eq_getD_getElem? (xs := a.tmps) (i := 1) (d := undef)).symm.trans e1
        have f7 := (Array.getD_eq_getD_getElem? (xs := a.tmps) (i := 7) (d := undef)).symm.trans e7
        have h9 : i = 0 ∨ i = 1 ∨ i = 2 ∨ i = 3 ∨ i = 4 ∨ i = 5 ∨ i = 6 ∨ i = 7 ∨ i = 8 := by omega
        rcases h9 with rfl | rfl | rfl | rfl | rfl | rfl | rfl | rfl | rfl
        · cases ho
          go_simp
          exact ⟨_, rfl, rfl, .inr (.inr (.inr (.inr ⟨⟨by decide, by decide⟩, rfl⟩)))⟩
        · cases ho
          have e37 : a.tmps.getD 37 undef = .pointer (some ⟨w.heap.size + 1 + 1, 4, none⟩) := h.got 0 _ 37 rfl (hdeps ⟨0, .data⟩ (by simp) rfl) (.inr rfl) rfl
          have f37 := (Array.getD_eq_getD_getElem? (xs := a.tmps) (i := 37) (d := undef)).symm.trans e37
          obtain ⟨hrb, _⟩ := h.base.1 (h.yet hnl 8 (by kernel_rfl))
          have z4 : W.cell? ⟨w.heap.size + 1 + 1, 4, none⟩ = some (.slice a3 L.length c3) := blk_cell hrb.act 4
          go_simp
          exact ⟨_, rfl, rfl, .inr (.inr (.inr (.inr ⟨⟨by decide, by decide⟩, rfl⟩)))⟩
        · cases ho
          go_simp
          exact ⟨_, rfl, rfl, .inr (.inr (.inr (.inr ⟨⟨by decide, by decide⟩, rfl⟩)))⟩
        · cases ho
          have e39 : a.tmps.getD 39 undef = .pointer (some ⟨R, 0, none⟩) := h.got 2 _ 39 rfl (hdeps ⟨2, .data⟩ (by simp) rfl) (.inr rfl) rfl
          have f39 := (Array.getD_eq_getD_getElem? (xs := a.tmps) (i := 39) (d := undef)).symm.trans e39
          obtain ⟨hrb, _⟩ := h.base.1 (h.yet hnl 8 (by kernel_rfl))
          rw [if_neg (by rw [notl hnl]; decide)] at hrb
          go_simp
          exact (HNU.out W hrb.rd hrb.nle).mono fun _ _ ⟨he, hr, hm⟩ => by subst he; exact ⟨_, rfl, rfl, .inl ⟨rfl, hr, hm⟩⟩
        · cases ho
          have e40 : a.tmps.getD 40 undef = .int .u64 (U y) := h.got 3 _ 40 rfl (hdeps ⟨3, .data⟩ (by simp) rfl) (.inr rfl) rfl
          have f40 := (Array.getD_eq_getD_getElem? (xs := a.tmps) (i := 40) (d := undef)).symm.trans e40
          go_simp
          exact ⟨_, rfl, (by show Value.int .i64 _ = Value.int .i64 _; unfold toI; rw [wrapI]), .inr (.inr (.inr (.inr ⟨⟨by decide, by decide⟩, rfl⟩)))⟩
        · cases ho
          have e41 : a.tmps.getD 41 undef = .int .i64 (toI y) := h.got 4 _ 41 rfl (hdeps ⟨4, .data⟩ (by simp) rfl) (.inr rfl) rfl
          have f41 := (Array.getD_eq_getD_getElem? (xs := a.tmps) (i := 41) (d := undef)).symm.trans e41
          go_simp
          exact ⟨_, rfl, ⟨W.heap.size, rfl, IntsAt.of_blk (l := [toI y]) (heap_alloc_new W (.cells (ints [toI y]).toArray 3))⟩, .inr (.inl ⟨rfl, (Below.refl _ _).alloc (Nat.le_refl _) _⟩)⟩
        · cases ho
          have e38 : a.tmps.getD 38 undef = .slice a3 L.length c3 := h.got 1 _ 38 rfl (hdeps ⟨1, .data⟩ (by simp) rfl) (.inr rfl) rfl
          have f38 := (Array.getD_eq_getD_getElem? (xs := a.tmps) (i := 38) (d := undef)).symm.trans e38
          obtain ⟨g5, e42, hi5⟩ := h.got 5 _ 42 rfl (hdeps ⟨5, .data⟩ (by simp) rfl) (.inl (show _ = false from notl hnl)) rfl
          obtain ⟨hrb, hro⟩ := h.base.1 (h.yet hnl 8 (by kernel_rfl))
          have ho := hro (notl hnl)
          refine wp_append_ints (.tmp 38) (.tmp 42) rfl rfl (w.heap.size + 3) _ _ e38 L ho e42 _ [toI y] hi5 (by have := HSZ.out; simp; omega) hrb.size ?_
          intro v' w' ho' hg'
          obtain ⟨a', c', rfl⟩ := owns_slice ho'
          exact ⟨_, rfl, ⟨a', c', rfl, ho'⟩, .inr (.inr (.inl ⟨rfl, _, _, _, ho, hg'⟩))⟩
        · cases ho
          go_simp
          exact ⟨_, rfl, rfl, .inr (.inr (.inr (.inr ⟨⟨by decide, by decide⟩, rfl⟩)))⟩
        · cases ho
          have e44 : a.tmps.getD 44 undef = .pointer (some ⟨w.heap.size + 1 + 1, 4, none⟩) := h.got 7 _ 44 rfl (hdeps ⟨7, .data⟩ (by simp) rfl) (.inr rfl) rfl
          have f44 := (Array.getD_eq_getD_getElem? (xs := a.tmps) (i := 44) (d := undef)).symm.trans e44
          obtain ⟨a', c', e43, ho'⟩ := h.got 6 _ 43 rfl (hdeps ⟨6, .data⟩ (by simp) rfl) (.inl (show _ = false from notl hnl)) rfl
          have f43 := (Array.getD_eq_getD_getElem? (xs := a.tmps) (i := 43) (d := undef)).symm.trans e43
          obtain ⟨hrb, _⟩ := h.base.1 (notl hnl)
          rw [if_pos (h.has ho9 hdeps 3 (by kernel_rfl))] at hrb
          have z4 : W.cell? ⟨w.heap.size + 1 + 1, 4, none⟩ = some (.slice a3 L.length c3) := blk_cell hrb.act 4
          have r4 : W.frozen? ⟨w.heap.size + 1 + 1, 4, none⟩ = false := blk_frozen hrb.act 4
          have hset := hrb.set 4 (.slice a' (L ++ [toI y]).length c') (x' := ⟨kind, [], [], 0, L ++ [toI y]⟩) (b1 := none) (b2 := none) (b3 := a') (d1 := 0) (d2 := 0) (d3 := c') rfl hrb.key hrb.val
          have hso := (set_moves (W := W) (w.heap.size + 2) 4 (.slice a' (L ++ [toI y]).length c')).row ho' (fun k hk e => by have := (ho'.lt k hk).1; have e : k = w.heap.size + 2 := e; omega)
          obtain ⟨ln, hln⟩ : ∃ ln, (L ++ [toI y]).length = ln := ⟨_, rfl⟩
          rw [hln] at e43 f43
          have HLN9 := Lib.hid hln
          have HSET := Lib.hid hset
          have HSO := Lib.hid hso
          clear hln hset hso
          go_simp
          rw [← HLN9.out]
          exact ⟨⟨undef, trivial⟩, .inr (.inr (.inr (.inl ⟨rfl, a', c', HSET.out, HSO.out⟩)))⟩
      · intro a W h
        have f0 : a.tmps.getD 0 undef = .agg #[.string nm, .bool false, .bool false, .bool false, .int .i64 0, .int .i64 100] := h.free 0 (by kernel_rfl)
        have f1 : a.tmps.getD 1 undef = .pointer (some ⟨R, 0, none⟩) := h.free 1 (by kernel_rfl)
        have f2 : a.tmps.getD 2 undef = .int .i64 kind := h.free 2 (by kernel_rfl)
        have f3 : a.tmps.getD 3 undef = .pointer (some ⟨w.heap.size, 0, none⟩) := h.free 3 (by kernel_rfl)
        have f4 : a.tmps.getD 4 undef = undef := h.free 4 (by kernel_rfl)
        have f5 : a.tmps.getD 5 undef = undef := h.free 5 (by kernel_rfl)
        have f6 : a.tmps.getD 6 undef = .pointer (some ⟨w.heap.size + 1, 0, none⟩) := h.free 6 (by kernel_rfl)
        have f7 : a.tmps.getD 7 undef = .pointer (some ⟨w.heap.size + 1 + 1, 0, none⟩) := h.free 7 (by kernel_rfl)
        have f8 : a.tmps.getD 8 undef = .int .i64 C := h.free 8 (by kernel_rfl)
        have f9 : a.tmps.getD 9 undef = .int .i64 kind := h.free 9 (by kernel_rfl)
        have f10 : a.tmps.getD 10 undef = .agg #[.int .i64 kind, .slice none 0 0, .slice none 0 0, .int .i64 0, .slice none 0 0] := h.free 10 (by kernel_rfl)
        have f11 : a.tmps.getD 11 undef = .pointer (some ⟨w.heap.size, 1, none⟩) := h.free 11 (by kernel_rfl)
        have f12 : a.tmps.getD 12 undef = .bool false := h.free 12 (by kernel_rfl)
        have f13 : a.tmps.getD 13 undef = undef := h.free 13 (by kernel_rfl)
        have f14 : a.tmps.getD 14 undef = undef := h.free 14 (by kernel_rfl)
        have f15 : a.tmps.getD 15 undef = undef := h.free 15 (by kernel_rfl)
        have f16 : a.tmps.getD 16 undef = .pointer (some ⟨w.heap.size, 2, none⟩) := h.free 16 (by kernel_rfl)
        have f17 : a.tmps.getD 17 undef = .bool false := h.free 17 (by kernel_rfl)
        have f18 : a.tmps.getD 18 undef = undef := h.free 18 (by kernel_rfl)
        have f19 : a.tmps.getD 19 undef = undef := h.free 19 (by kernel_rfl)
        have f20 : a.tmps.getD 20 undef = undef := h.free 20 (by kernel_rfl)
        have f21 : a.tmps.getD 21 undef = .pointer (some ⟨w.heap.size, 3, none⟩) := h.free 21 (by kernel_rfl)
        have f22 : a.tmps.getD 22 undef = .bool false := h.free 22 (by kernel_rfl)
        have f23 : a.tmps.getD 23 undef = undef := h.free 23 (by kernel_rfl)
        have f24 : a.tmps.getD 24 undef = undef := h.free 24 (by kernel_rfl)
        have f25 : a.tmps.getD 25 undef = undef := h.free 25 (by kernel_rfl)
        have f26 : a.tmps.getD 26 undef = undef := h.free 26 (by kernel_rfl)
        have f27 : a.tmps.getD 27 undef = .pointer (some ⟨w.heap.size, 4, none⟩) := h.free 27 (by kernel_rfl)
        have f28 : a.tmps.getD 28 undef = .int .i64 0 := h.free 28 (by kernel_rfl)
        have f29 : a.tmps.getD 29 undef = .agg #[.string nm, .bool false, .bool false, .bool false, .int .i64 0, .int .i64 100] := h.free 29 (by kernel_rfl)
        have f30 : a.tmps.getD 30 undef = .bool true := h.free 30 (by kernel_rfl)
        have f31 : a.tmps.getD 31 undef = .pointer (some ⟨R, 0, none⟩) := h.free 31 (by kernel_rfl)
        have f32 : a.tmps.getD 32 undef = .int .u64 (U q1) := h.free 32 (by kernel_rfl)
        have f33 : a.tmps.getD 33 undef = .int .i64 C := h.free 33 (by kernel_rfl)
        have f34 : a.tmps.getD 34 undef = .int .i64 C := h.free 34 (by kernel_rfl)
        have f35 : a.tmps.getD 35 undef = .int .i64 j := h.free 35 (by kernel_rfl)
        have f46 : a.tmps.getD 46 undef = undef := h.free 46 (by kernel_rfl)
        have ea := arr_eq a.tmps 47 h.size
        have ed := h.defers
        obtain ⟨_, ae, ce, hbe, hoe⟩ := h.base.2 rfl
        have HBE := Lib.hid hbe
        have HOE := Lib.hid hoe
        clear h hbe hoe
        obtain ⟨t, ds⟩ := a
        replace ed : ds = [] := ed
        subst ed
        replace f0 : t.getD 0 undef = .agg #[.string nm, .bool false, .bool false, .bool false, .int .i64 0, .int .i64 100] := f0
        replace f1 : t.getD 1 undef = .pointer (some ⟨R, 0, none⟩) := f1
        replace f2 : t.getD 2 undef = .int .i64 kind := f2
        replace f3 : t.getD 3 undef = .pointer (some ⟨w.heap.size, 0, none⟩) := f3
        replace f4 : t.getD 4 undef = undef := f4
        replace f5 : t.getD 5 undef = undef := f5
        replace f6 : t.getD 6 undef = .pointer (some ⟨w.heap.size + 1, 0, none⟩) := f6
        replace f7 : t.getD 7 undef = .pointer (some ⟨w.heap.size + 1 + 1, 0, none⟩) := f7
        replace f8 : t.getD 8 undef = .int .i64 C := f8
        replace f9 : t.getD 9 undef = .int .i64 kind := f9
        replace f10 : t.getD 10 undef = .agg #[.int .i64 kind, .slice none 0 0, .slice none 0 0, .int .i64 0, .slice none 0 0] := f10
        replace f11 : t.getD 11 undef = .pointer (some ⟨w.heap.size, 1, none⟩) := f11
        replace f12 : t.getD 12 undef = .bool false := f12
        replace f13 : t.getD 13 undef = undef := f13
        replace f14 : t.getD 14 undef = undef := f14
        replace f15 : t.getD 15 undef = undef := f15
        replace f16 : t.getD 16 undef = .pointer (some ⟨w.heap.size, 2, none⟩) := f16
        replace f17 : t.getD 17 undef = .bool false := f17
        replace f18 : t.getD 18 undef = undef := f18
        replace f19 : t.getD 19 undef = undef := f19
        replace f20 : t.getD 20 undef = undef := f20
        replace f21 : t.getD 21 undef = .pointer (some ⟨w.heap.size, 3, none⟩) := f21
        replace f22 : t.getD 22 undef = .bool false := f22
        replace f23 : t.getD 23 undef = undef := f23
        replace f24 : t.getD 24 undef = undef := f24
        replace f25 : t.getD 25 undef = undef := f25
        replace f26 : t.getD 26 undef = undef := f26
        replace f27 : t.getD 27 undef = .pointer (some ⟨w.heap.size, 4, none⟩) := f27
        replace f28 : t.getD 28 undef = .int .i64 0 := f28
        replace f29 : t.getD 29 undef = .agg #[.string nm, .bool false, .bool false, .bool false, .int .i64 0, .int .i64 100] := f29
        replace f30 : t.getD 30 undef = .bool true := f30
        replace f31 : t.getD 31 undef = .pointer (some ⟨R, 0, none⟩) := f31
        replace f32 : t.getD 32 undef = .int .u64 (U q1) := f32
        replace f33 : t.getD 33 undef = .int .i64 C := f33
        replace f34 : t.getD 34 undef = .int .i64 C := f34
        replace f35 : t.getD 35 undef = .int .i64 j := f35
        replace f46 : t.getD 46 undef = undef := f46
        replace ea : t = #[t.getD 0 undef, t.getD 1 undef, t.getD 2 undef, t.getD 3 undef, t.getD 4 undef, t.getD 5 undef, t.getD 6 undef, t.getD 7 undef, t.getD 8 undef, t.getD 9 undef, t.getD 10 undef, t.getD 11 undef, t.getD 12 undef, t.getD 13 undef, t.getD 14 undef, t.getD 15 undef, t.getD 16 undef, t.getD 17 undef, t.getD 18 undef, t.getD 19 undef, t.getD 20 undef, t.getD 21 undef, t.getD 22 undef, t.getD 23 undef, t.getD 24 undef, t.getD 25 undef, t.getD 26 undef, t.getD 27 undef, t.getD 28 undef, t.getD 29 undef, t.getD 30 undef, t.getD 31 undef, t.getD 32 undef, t.getD 33 undef, t.getD 34 undef, t.getD 35 undef, t.getD 36 undef, t.getD 37 undef, t.getD 38 undef, t.getD 39 undef, t.getD 40 undef, t.getD 41 undef, t.getD 42 undef, t.getD 43 undef, t.getD 44 undef, t.getD 45 undef, t.getD 46 undef] := ea
        rw [f0, f1, f2, f3, f4, f5, f6, f7, f8, f9, f10, f11, f12, f13, f14, f15, f16, f17, f18, f19, f20, f21, f22, f23, f24, f25, f26, f27, f28, f29, f30, f31, f32, f33, f34, f35, f46] at ea
        generalize t.getD 36 undef = v36 at ea
        generalize t.getD 37 undef = v37 at ea
        generalize t.getD 38 undef = v38 at ea
        generalize t.getD 39 undef = v39 at ea
        generalize t.getD 40 undef = v40 at ea
        generalize t.getD 41 undef = v41 at ea
        generalize t.getD 42 undef = v42 at ea
        generalize t.getD 43 undef = v43 at ea
        generalize t.getD 44 undef = v44 at ea
        generalize t.getD 45 undef = v45 at ea
        subst ea
        clear f0 f1 f2 f3 f4 f5 f6 f7 f8 f9 f10 f11 f12 f13 f14 f15 f16 f17 f18 f19 f20 f21 f22 f23 f24 f25 f26 f27 f28 f29 f30 f31 f32 f33 f34 f35 f46
        go_wp2
        go_roundw
        case rel => exact ⟨j + 1, HLT.out, by go_num, ae, ce, by rw [HSUC.out]; exact HBE.out, by rw [HSUC.out]; exact HOE.out⟩
        case measure => have := HLT.out; simp [intOf]; omega
    · have hjC : j = C := by omega
      have jn : ¬ (j : Int) < C := by omega
      have hend := setRow_heap _ (w.heap.size + 1) _ (actC ⟨kind, [], [], 0, (rNums j sN).1⟩ none none a3 0 0 c3) _ _ hB.res
      have HEQ : Hid ((readS false false false true 0 kind s) = (⟨kind, [], [], 0, (rNums j sN).1⟩, (rNums j sN).2)) := by
        unfold Hid readS
        rw [hjC]
        simp only [Bool.false_eq_true, if_false, if_true]
        rw [HQ1.out, HCC.out, HSN.out]
      have hfin : ReadRet n₀ R (readS false false false true 0 kind s).1 (readS false false false true 0 kind s).2 w (.returned (.agg (actC ⟨kind, [], [], 0, (rNums j sN).1⟩ none none a3 0 0 c3))) (wr.setRow (w.heap.size + 1) (actC ⟨kind, [], [], 0, (rNums j sN).1⟩ none none a3 0 0 c3)) := by
        rw [HEQ.out]
        exact hB.done ⟨IntsAt.of_owns hO rfl, own_type hO⟩
      have HE := Lib.hid (And.intro hend hfin)
      have HBJ := Lib.hid hB
      clear hend hfin hB hO hlt hj hjC HEQ
      obtain ⟨L, hL⟩ : ∃ L, (rNums j sN).1 = L := ⟨_, rfl⟩
      rw [hL] at HE HBJ
      clear hL
      have z0 : wr.cell? ⟨w.heap.size + 1 + 1, 0, none⟩ = some (.int .i64 kind) := blk_cell HBJ.out.act 0
      have z1 : wr.cell? ⟨w.heap.size + 1 + 1, 1, none⟩ = some (.slice none 0 0) := blk_cell HBJ.out.act 1
      have z2 : wr.cell? ⟨w.heap.size + 1 + 1, 2, none⟩ = some (.slice none 0 0) := blk_cell HBJ.out.act 2
      have z3 : wr.cell? ⟨w.heap.size + 1 + 1, 3, none⟩ = some (.int .i64 0) := blk_cell HBJ.out.act 3
      have z4 : wr.cell? ⟨w.heap.size + 1 + 1, 4, none⟩ = some (.slice a3 L.length c3) := blk_cell HBJ.out.act 4
      have HRES := Lib.hid HBJ.out.res
      clear HBJ
      go_wp2_with (refine wpList_store_row (o := ⟨none, _, _, _, _, _⟩) rfl 49 (.tmp 6) (.tmp 46) rfl (w.heap.size + 1) (actC ⟨kind, [], [], 0, L⟩ none none a3 0 0 c3) rfl rfl 49 act0 HRES.out (actC_sz _ _ _ _ _ _ _) rfl ?_ ?_; exact actC_one _ _ _ _ _ _ _)
      exact bodyPost_ret (results_cell_row rfl _ _ (w.heap.size + 1) 49 (actC ⟨kind, [], [], 0, L⟩ none none a3 0 0 c3) (0, 0) _ rfl HE.out.1 Try.underlying49 rfl (actC_sz _ _ _ _ _ _ _)) rfl HE.out.2
end Go.Proofs.Ytgaabclgoolalaa

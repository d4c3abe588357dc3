/-
  sgraffitoref04's Put, where it is done.
  Conditions: none.
-/
import Derived.Test.YtadglpnmhpmebaaFp7
import Derived.Test.YtadglpnmhpmebaaOrd3
namespace Go.Proofs.Ytadglpnmhpmebaa
open Go.RowKit
attribute [local go_sem] Oper.semAt_some

/-- What the operations yield where a past grows. -/
def PtR (X g7 n7 c7 k : Nat) (sb : ByteArray) (old : Value) (m : Nat) (lo : List Value) (B0 : Nat) (i : Nat) (v : Value) (W : World) : Prop :=
  match i with
  | 0 => v = .pointer (some ⟨X, 3, none⟩)
  | 1 => v = .slice (some ⟨g7, 0, none⟩) n7 c7
  | 2 => v = .int .i64 k
  | 3 => v = .string sb
  | 4 => ∃ g, v = .slice (some ⟨g, 0, none⟩) 1 1 ∧ W.ownsRow B0 9 1 (.slice (some ⟨g, 0, none⟩) 1 1) 1 [.string sb]
  | 5 => v = .pointer (some ⟨X, 3, none⟩)
  | 6 => v = .slice (some ⟨g7, 0, none⟩) n7 c7
  | 7 => v = .int .i64 k
  | 8 => v = .pointer (some ⟨g7, k, none⟩)
  | 9 => v = old
  | 10 => ∃ g c, v = .slice (some ⟨g, 0, none⟩) (1 + m) c ∧ W.ownsRow B0 9 1 (.slice (some ⟨g, 0, none⟩) (1 + m) c) (1 + m) (.string sb :: lo)
  | 11 => v = .pointer (some ⟨g7, k, none⟩)
  | _ => True
def ptD (i : Nat) : Nat := match i with | 4 => 10 | 10 => 12 | i => i
def PtFin (g7 k : Nat) (sb : ByteArray) (m : Nat) (lo : List Value) (B0 : Nat) (w8 W : World) : Prop := ∃ g c W1, Below B0 w8 W1 ∧ W1.ownsRow B0 9 1 (.slice (some ⟨g, 0, none⟩) (1 + m) c) (1 + m) (.string sb :: lo) ∧ W = W1.setCell ⟨g7, k, none⟩ (.slice (some ⟨g, 0, none⟩) (1 + m) c)
def PtB (Fin : World → Prop) (B0 : Nat) (w8 : World) (listed : Array Bool) (W : World) : Prop := (listed.getD 12 false = false → Below B0 w8 W) ∧ (listed.getD 12 false = true → listed.getD 10 false = true ∧ listed.getD 4 false = true ∧ Fin W)
def PtRel (Fin : World → Prop) (B0 j : Nat) (W W' : World) : Prop := (j = 4 ∧ Below W.heap.size W W') ∨ (j = 10 ∧ Below B0 W W') ∨ (j = 12 ∧ Fin W') ∨ ((j ≠ 4 ∧ j ≠ 10 ∧ j ≠ 12) ∧ W = W')
theorem ptB_set {Fin : World → Prop} {B0 : Nat} {w8 : World} {listed : Array Bool} {W W' : World} {j : Nat} (hB0 : B0 ≤ w8.heap.size) (hnl : listed.getD j true = false) (h12 : j = 12 → listed.getD 10 false = true ∧ listed.getD 4 false = true) (h : PtB Fin B0 w8 listed W) (hr : PtRel Fin B0 j W W') : PtB Fin B0 w8 (listed.setIfInBounds j true) W' := by
  have hs := not_size hnl
  obtain ⟨h1, h2⟩ := h
  have g4 := getD_set (l := listed) (i := j) (j := 4) (b := false) hs
  have g10 := getD_set (l := listed) (i := j) (j := 10) (b := false) hs
  have g12 := getD_set (l := listed) (i := j) (j := 12) (b := false) hs
  unfold PtB
  rcases hr with ⟨rfl, hb⟩ | ⟨rfl, hb⟩ | ⟨rfl, hf⟩ | ⟨⟨n4, n10, n12⟩, rfl⟩
  · rw [if_pos rfl] at g4
    rw [if_neg (by decide)] at g10 g12
    rw [g4, g10, g12]
    refine ⟨fun e => (h1 e).trans (hb.mono (Nat.le_trans hB0 (h1 e).size)), fun e => ?_⟩
    have := (h2 e).2.1
    rw [notl hnl] at this
    cases this
  · rw [if_pos rfl] at g10
    rw [if_neg (by decide)] at g4 g12
    rw [g4, g10, g12]
    refine ⟨fun e => (h1 e).trans hb, fun e => ?_⟩
    have := (h2 e).1
    rw [notl hnl] at this
    cases this
  · rw [if_pos rfl] at g12
    rw [if_neg (by decide)] at g4 g10
    rw [g4, g10, g12]
    obtain ⟨k1, k2⟩ := h12 rfl
    exact ⟨fun e => (by cases e), fun _ => ⟨k1, k2, hf⟩⟩
  · rw [if_neg n4] at g4
    rw [if_neg n10] at g10
    rw [if_neg n12] at g12
    rw [g4, g10, g12]
    exact ⟨h1, h2⟩
theorem owns_some {w : World} {base : Nat} {e : TypeId} {size n : Nat} {v : Value} {xs : List Value} (h : w.ownsRow base e size v n xs) (hn : 0 < n) : ∃ g cap, v = .slice (some ⟨g, 0, none⟩) n cap := by
  obtain ⟨g, cap, hv, _⟩ := slice_cells h hn
  exact ⟨g, cap, hv⟩
theorem str_row (m : Nat) (l : List (List (BitVec 8))) (hm : m = l.length) (sb : ByteArray) (bs : List (BitVec 8)) (hsb : strB bs = sb) : ∀ i, i < (1 + m) * 1 → ((Value.string sb) :: (List.range (m * 1)).map fun i => Value.string (strB (l[i]?.getD [])))[i]? = some (.string (strB ((bs :: l)[i]?.getD []))) := by
  subst hm hsb
  intro i hi
  cases i with
  | zero => rfl
  | succ i =>
    rw [List.getElem?_cons_succ, List.getElem?_cons_succ, List.getElem?_map, List.getElem?_range (by omega)]
    rfl
theorem put_ref {d : Dev} {k mk g7 c7 g9 c9 : Nat} {bs : List (BitVec 8)} {w w8 W1 W : World} {vF vL : Value} {us : Nat → Value} {cur : Array Value} {lo : List Value} {sb : ByteArray}
    (hF : StrsF w.heap.size w vF d.sectors d.fast) (hw : Below w.heap.size w W) (hL : WrsF w8.heap.size w8 vL (d.loose ++ [(k, bs)])) (hb1 : Below w8.heap.size w8 W1) (hg8 : w8.heap[g7]? = some (.cells cur 29 (0, 0))) (hcu : ∀ i, i < d.sectors → cur[i]? = some (us i)) (hle : d.sectors ≤ c7)
    (hel : ∀ j, j < d.sectors → StrsF w.heap.size w (us j) (d.pasts j).length fun i => (d.pasts j)[i]?.getD []) (hk : k < d.sectors) (ho9 : W1.ownsRow w8.heap.size 9 1 (.slice (some ⟨g9, 0, none⟩) (1 + mk) c9) (1 + mk) (.string sb :: lo)) (hlo : ((List.range (mk * 1)).map fun i => Value.string (strB ((d.pasts k)[i]?.getD []))) = lo) (hmk : (d.pasts k).length = mk) (hsb : strB bs = sb)
    (hW : W1.setCell ⟨g7, k, none⟩ (.slice (some ⟨g9, 0, none⟩) (1 + mk) c9) = W) : RefAt W.heap.size W vF vL (.slice (some ⟨g7, 0, none⟩) d.sectors c7) (d.give k bs) := by
  have hg1 : W1.heap[g7]? = some (.cells cur 29 (0, 0)) := (hb1.block _ (blk_lt hg8)).trans hg8
  have hmv : Moves (fun q => q = g7) W1 W := by rw [← hW]; exact set_moves04 g7 k _
  have hgW : W.heap[g7]? = some (.cells (cur.setIfInBounds k (.slice (some ⟨g9, 0, none⟩) (1 + mk) c9)) 29 (0, 0)) := by rw [← hW]; exact blk_set hg1 k _
  have hksz : k < cur.size := (Array.getElem?_eq_some_iff.1 (hcu k hk)).1
  refine ⟨(hF.below hw).mono hw.size, (((hL.below hb1).mono hb1.size).turn hg1 (by decide) (Nat.le_refl _) hmv).mono hmv.size, fun i => if i = k then .slice (some ⟨g9, 0, none⟩) (1 + mk) c9 else us i, ?_, fun j hj => ?_⟩
  · refine .inr ⟨g7, c7, Nat.lt_of_le_of_lt (Nat.zero_le _) hk, rfl, hle, blk_lt hgW, fun i hi => ?_, _, _, hgW⟩
    have hi' : i < d.sectors := by rw [Nat.mul_one] at hi; exact hi
    rw [blk_cell hgW, Array.getElem?_setIfInBounds]
    by_cases hik : i = k
    · subst hik
      rw [if_pos rfl, if_pos hksz]
      dsimp only
      rw [if_pos rfl]
    · rw [if_neg (fun e => hik e.symm)]
      dsimp only
      rw [if_neg hik]
      exact hcu i hi'
  · by_cases hjk : j = k
    · subst hjk
      dsimp only
      rw [if_pos rfl]
      have hp : (d.give j bs).pasts j = bs :: d.pasts j := by rw [pasts_give, if_pos rfl]
      rw [hp]
      have hlen : (bs :: d.pasts j).length = 1 + mk := by rw [List.length_cons, hmk]; omega
      rw [hlen]
      have := RowF.of_own (f := fun i => Value.string (strB ((bs :: d.pasts j)[i]?.getD []))) ho9 (by omega) (by rw [← hlo]; exact str_row mk (d.pasts j) hmk.symm sb bs hsb)
      exact (this.turn hg1 (by decide) (Nat.le_refl _) hmv).mono hmv.size
    · dsimp only
      rw [if_neg hjk]
      have hp : (d.give k bs).pasts j = d.pasts j := by rw [pasts_give, if_neg hjk]
      rw [hp]
      exact ((hel j hj).below hw).mono hw.size
set_option maxRecDepth 100000 in
set_option maxHeartbeats 16000000 in
theorem refPut_yes {vF vL vP : Value} {d : Dev} {w : World} (hR : RefAt w.heap.size w vF vL vP d) (k : Nat) (bs : List (BitVec 8)) (hk : k < d.sectors) (hd : d.down = false) (hbs : bs.length = d.size) (hs : d.sectors ≤ 16384) (hl : d.loose.length ≤ 65536) (hp : ∀ j, (d.past j).length ≤ 65536) (ha : d.acts ≤ 1000000) (hr : d.armed ≤ 9223372036854775807) :
    Calls Try.prog 23 #[.agg (rdC d.size vF vL vP d.armed d.acts d.down), .int .i64 k, .string (strB bs)] w (RefRet (d.give k bs).act (if d.act.down then 4 else 0) w) := by
  obtain ⟨a1, c1, rfl⟩ := hR.1.slice
  obtain ⟨a2, c2, rfl⟩ := hR.2.1.slice
  obtain ⟨a3, c3, rfl⟩ := hR.2.2.slice
  have hP := PB.start w (rdC d.size (.slice a1 d.sectors c1) (.slice a2 d.loose.length c2) (.slice a3 d.sectors c3) d.armed d.acts d.down)
  obtain ⟨W0, hW0⟩ : ∃ W0, (w.alloc (.cells (rdC d.size (.slice a1 d.sectors c1) (.slice a2 d.loose.length c2) (.slice a3 d.sectors c3) d.armed d.acts d.down) 33)).alloc (.cells rd0 33) = W0 := ⟨_, rfl⟩
  rw [hW0] at hP
  have HTH : Hid (∀ W, Calls Try.prog 40 #[.agg (rdC d.size (.slice a1 d.sectors c1) (.slice a2 d.loose.length c2) (.slice a3 d.sectors c3) d.armed d.acts d.down), .int .i64 k] W fun e w' => e = .returned (.bool true) ∧ Below W.heap.size W w') := fun W => by
    have := there_any d.size d.sectors a1 c1 (.slice a2 d.loose.length c2) (.slice a3 d.sectors c3) d.armed d.acts d.down k W
    rwa [show decide (0 ≤ (k : Int) ∧ (k : Int) < (d.sectors : Int)) = true by simpa using hk] at this
  have HAC := Lib.hid (fun W => refAct_any d.size a1 a2 a3 d.sectors d.loose.length d.sectors c1 c2 c3 d hd ha hr W)
  rw [hd] at hP hW0 HTH HAC ⊢
  have HW0 := Lib.hid hW0
  have HP := Lib.hid hP
  have HR := Lib.hid hR
  clear hW0 hP hR hd ha hr
  obtain ⟨ar, har⟩ : ∃ ar, d.act.armed = ar := ⟨_, rfl⟩
  obtain ⟨ac, hac⟩ : ∃ ac, d.act.acts = ac := ⟨_, rfl⟩
  obtain ⟨dn, hdn⟩ : ∃ dn, d.act.down = dn := ⟨_, rfl⟩
  have HNUM : Hid ((d.give k bs).act.armed = ar ∧ (d.give k bs).act.acts = ac ∧ (d.give k bs).act.down = dn ∧ (d.give k bs).act.size = d.size) := ⟨har, hac, hdn, rfl⟩
  rw [har, hac, hdn] at HAC
  rw [hdn]
  obtain ⟨cd, hcd⟩ : ∃ cd : Int, (if dn = true then 4 else 0) = cd := ⟨_, rfl⟩
  rw [hcd]
  have HCD := Lib.hid hcd
  clear hcd
  obtain ⟨iw, hiw, hw0, hw1, hw2⟩ := info_parts3 infoWr
  obtain ⟨is, his, hs0, hs1, hs2⟩ := info_parts3 infoStr
  obtain ⟨it, hit, ht0, ht1, ht2⟩ := info_parts3 infoStrs
  have h1 : (((strB bs).size : Int) == (d.size : Int)) = true := by rw [strB_size, beq_iff_eq]; omega
  have HB0 := Lib.hid hbs
  have HKK := Lib.hid hk
  have HSS := Lib.hid hs
  have HLL := Lib.hid hl
  have HPP := Lib.hid hp
  have k1 : (k : Int) < d.sectors := by omega
  have k2 : (d.sectors : Int) ≤ 16384 := by omega
  obtain ⟨sb, hsb⟩ : ∃ sb, strB bs = sb := ⟨_, rfl⟩
  have HSB := Lib.hid hsb
  rw [hsb] at h1 ⊢
  obtain ⟨sz, hsz⟩ : ∃ sz, sb.size = sz := ⟨_, rfl⟩
  rw [hsz] at h1
  clear har hac hdn hk hs hl hp hbs hsb
  have x0 := blk_cell HP.out.x 0
  have x1 := blk_cell HP.out.x 1
  have x2 := blk_cell HP.out.x 2
  have x3 := blk_cell HP.out.x 3
  have x4 := blk_cell HP.out.x 4
  have x5 := blk_cell HP.out.x 5
  have x6 := blk_cell HP.out.x 6
  unfold rdC at x0 x1 x2 x3 x4 x5 x6 HW0 HTH HAC ⊢
  go_enter Try.func23, Try.ntmps23
  go_upto_region 1 with (fail)
  change Code.wp _ _ _ _ ((w.alloc (.cells #[.int .i64 d.size, .slice a1 d.sectors c1, .slice a2 d.loose.length c2, .slice a3 d.sectors c3, .int .i64 d.armed, .int .i64 d.acts, .bool false] 33)).alloc (.cells rd0 33))
  rw [HW0.out]
  clear HW0
  go_upto_region 8 with (first
    | (go_at_call 40; (with_reducible refine (HTH.out _).mono ?_); rintro e w1 ⟨rfl, hb⟩; have HP1 := Lib.hid (HP.out.on hb); clear x0 x1 x2 x3 x4 x5 x6; have x0 := blk_cell HP1.out.x 0; have x1 := blk_cell HP1.out.x 1; have x2 := blk_cell HP1.out.x 2; have x3 := blk_cell HP1.out.x 3; have x4 := blk_cell HP1.out.x 4; have x5 := blk_cell HP1.out.x 5; have x6 := blk_cell HP1.out.x 6; unfold rdC at x0 x1 x2 x3 x4 x5 x6; clear hb)
    | (go_at_call 36; (with_reducible refine (HAC.out _).mono ?_); rintro e w2 ⟨rfl, hb⟩; have HP2 := Lib.hid (HP1.out.on hb); have HX2 := Lib.hid HP2.out.x; clear x0 x1 x2 x3 x4 x5 x6 hb)
    | (refine wpList_store_row (o := ⟨none, _, _, _, _, _⟩) rfl 33 (.tmp 3) (.tmp 23) rfl w.heap.size (rdC d.size (.slice a1 d.sectors c1) (.slice a2 d.loose.length c2) (.slice a3 d.sectors c3) ar ac dn) rfl rfl 33 _ HX2.out (rd_sz _ _ _ _ _ _ _) rfl ?_ ?_; exact rd_one))
  have hP3 := HP2.out.setRow (rdC d.size (.slice a1 d.sectors c1) (.slice a2 d.loose.length c2) (.slice a3 d.sectors c3) ar ac dn)
  obtain ⟨w3, hw3⟩ : ∃ w3, w2.setRow w.heap.size (rdC d.size (.slice a1 d.sectors c1) (.slice a2 d.loose.length c2) (.slice a3 d.sectors c3) ar ac dn) = w3 := ⟨_, rfl⟩
  change Code.wp _ _ _ _ (w2.setRow w.heap.size (rdC d.size (.slice a1 d.sectors c1) (.slice a2 d.loose.length c2) (.slice a3 d.sectors c3) ar ac dn))
  rw [hw3] at hP3 ⊢
  clear hw3 HX2
  have HP3 := Lib.hid hP3
  clear hP3
  have HA3 := Lib.hid (HP3.out.on ((Below.refl w3.heap.size w3).alloc (Nat.le_refl _) (.cells #[] 76)))
  have x2 := blk_cell HA3.out.x 2
  unfold rdC at x2
  go_upto_region 9 with (first
    | (at_builtin; (have HO3 := Lib.hid (own_emptyT w3 w.heap.size 76 2 HP3.out.bel.size)); (refine wpList_append_rowF rfl (.tmp 24) (.tmp 26) 30 rfl rfl w.heap.size 76 iw _ 2 24 Try.underlying30 hiw hw0 hw1 hw2 rfl (by decide) (.slice (some ⟨w3.heap.size, 0, none⟩) 0 0) 0 [] rfl HO3.out (.slice a2 d.loose.length c2) rfl w.heap.size d.loose.length (wrC d.loose) (HR.out.2.1.below HA3.out.bel) (wrs_one _) (by have := HLL.out; omega) (by have := HLL.out; omega) HA3.out.bel.size ?_); intro v4 w4 hown hg; have HO4 := Lib.hid (show w4.ownsRow w.heap.size 76 2 v4 d.loose.length ((List.range (d.loose.length * 2)).map (wrC d.loose)) from by rw [Nat.zero_add, List.nil_append] at hown; exact hown); have HP4 := Lib.hid (HA3.out.grown HO3.out (by decide) hg); clear hown hg x2)
    | (at_builtin; (have hba := (Below.refl w4.heap.size w4).alloc (Nat.le_refl _) (.cells #[.int .i64 k, .string sb] 76)); (have HA4 := Lib.hid (HP4.out.on hba)); (have HO5 := Lib.hid (HO4.out.alloc (.cells #[.int .i64 k, .string sb] 76))); (refine wpList_append_lies _ rfl (.tmp 27) (.tmp 31) 30 rfl w.heap.size 76 iw _ 2 24 Try.underlying30 hiw hw0 hw1 hw2 rfl (by decide) v4 d.loose.length _ rfl HO5.out ⟨w4.heap.size, 0, none⟩ 1 1 [.int .i64 k, .string sb] rfl rfl (World.news_of_block (heap_alloc_new w4 (.cells #[.int .i64 k, .string sb] 76))) (by simp [Value.oneCell']) (by decide) (by have := HLL.out; unfold maxLen; omega) (by have := HLL.out; omega) HA4.out.bel.size _ rfl ?_); intro g5 c5 w5 hown hg _ _; have HO6 := Lib.hid hown; have HP5 := Lib.hid (HA4.out.grown HO5.out (by decide) hg); have x2 := blk_cell HP5.out.x 2; have f2 := blk_frozen HP5.out.x 2; unfold rdC at x2; clear hown hg hba))
  have hP6 : PB w w.heap.size (w.heap.size + 1) (rdC d.size (.slice a1 d.sectors c1) (.slice (some ⟨g5, 0, none⟩) (d.loose.length + 1) c5) (.slice a3 d.sectors c3) ar ac dn) (w5.setCell ⟨w.heap.size, 2, none⟩ (.slice (some ⟨g5, 0, none⟩) (d.loose.length + 1) c5)) := HP5.out.set 2 _
  have hl6 : WrsF (w5.setCell ⟨w.heap.size, 2, none⟩ (.slice (some ⟨g5, 0, none⟩) (d.loose.length + 1) c5)).heap.size (w5.setCell ⟨w.heap.size, 2, none⟩ (.slice (some ⟨g5, 0, none⟩) (d.loose.length + 1) c5)) (.slice (some ⟨g5, 0, none⟩) (d.loose.length + 1) c5) (d.loose ++ [(k, bs)]) := by
    have h6 := RowF.of_own (f := wrC (d.loose ++ [(k, bs)])) HO6.out (by omega) (fun i hi => by
      have := congrArg (fun l => l[i]?) (wrC_snoc d.loose k bs)
      simp only [HSB.out] at this
      rw [this, List.getElem?_map, List.getElem?_range (by simpa using hi)]
      rfl)
    have h7 := (h6.turn HP5.out.x (by decide) (Nat.le_refl _) (set_moves04 w.heap.size 2 (.slice (some ⟨g5, 0, none⟩) (d.loose.length + 1) c5))).mono (set_moves04 (W := w5) w.heap.size 2 (.slice (some ⟨g5, 0, none⟩) (d.loose.length + 1) c5)).size
    have e : (d.loose ++ [(k, bs)]).length = d.loose.length + 1 := by simp
    unfold WrsF
    rw [e]
    exact h7
  obtain ⟨w6, hw6⟩ : ∃ w6, w5.setCell ⟨w.heap.size, 2, none⟩ (.slice (some ⟨g5, 0, none⟩) (d.loose.length + 1) c5) = w6 := ⟨_, rfl⟩
  rw [hw6] at hP6 hl6 ⊢
  have HP6 := Lib.hid hP6
  have HL6 := Lib.hid hl6
  obtain ⟨us, hus, hel⟩ := HR.out.2.2
  have HUS := Lib.hid hus
  have HEL := Lib.hid hel
  have huo : ∀ i, i < d.sectors * 1 → (us i).oneCell' = true := fun i hi => by
    obtain ⟨a, c, e⟩ := (hel i (by omega)).slice
    rw [e]
    rfl
  have HUO := Lib.hid huo
  clear hw6 hP6 hl6 x2 f2 hus hel huo
  have HA6 := Lib.hid (HP6.out.on ((Below.refl w6.heap.size w6).alloc (Nat.le_refl _) (.cells #[] 29)))
  have x3 := blk_cell HA6.out.x 3
  unfold rdC at x3
  go_upto_region 10 with (at_builtin; (have HO6b := Lib.hid (own_emptyT w6 w6.heap.size 29 1 (Nat.le_refl _))); (refine wpList_append_rowF rfl (.tmp 34) (.tmp 36) 31 rfl rfl w6.heap.size 29 it _ 1 24 Try.underlying31 hit ht0 ht1 ht2 rfl (by decide) (.slice (some ⟨w6.heap.size, 0, none⟩) 0 0) 0 [] rfl HO6b.out (.slice a3 d.sectors c3) rfl w.heap.size d.sectors us (HUS.out.below HA6.out.bel) HUO.out (by have := HSS.out; omega) (by have := HSS.out; omega) (by simp) ?_); intro v7 w7 hown hg; obtain ⟨g7, c7, rfl⟩ := owns_some hown (by have := HKK.out; omega); rw [Nat.zero_add, List.nil_append] at hown; have HO7 := Lib.hid hown; have HB7 := Lib.hid ((((Below.refl w6.heap.size w6).alloc (Nat.le_refl _) (.cells #[] 29))).trans ((Below.refl w6.heap.size _).grown hg (by simp) (fun q e => (HO6b.out.lt q e).1))); clear x3; have HP7 := Lib.hid (HP6.out.on HB7.out); have x3 := blk_cell HP7.out.x 3; have f3 := blk_frozen HP7.out.x 3; unfold rdC at x3; clear hown hg)
  have hP8 : PB w w.heap.size (w.heap.size + 1) (rdC d.size (.slice a1 d.sectors c1) (.slice (some ⟨g5, 0, none⟩) (d.loose.length + 1) c5) (.slice (some ⟨g7, 0, none⟩) d.sectors c7) ar ac dn) (w7.setCell ⟨w.heap.size, 3, none⟩ (.slice (some ⟨g7, 0, none⟩) d.sectors c7)) := HP7.out.set 3 _
  obtain ⟨cur, hcur, hge7, hle7, _⟩ := own_block HO7.out
  have hck : ∀ i, i < d.sectors → cur[i]? = some (us i) := fun i hi => by
    have h1 := HO7.out.cells (g := g7) rfl i (us i) (by rw [List.getElem?_map, List.getElem?_range (by omega)]; rfl)
    rw [add_plain, Nat.zero_add, blk_cell hcur] at h1
    exact h1
  have hg8 : (w7.setCell ⟨w.heap.size, 3, none⟩ (.slice (some ⟨g7, 0, none⟩) d.sectors c7)).heap[g7]? = some (.cells cur 29 (0, 0)) := (set_other _ _ _ _ _ (blk_ne hcur HP7.out.x (by decide))).trans hcur
  have hl8 : WrsF (w7.setCell ⟨w.heap.size, 3, none⟩ (.slice (some ⟨g7, 0, none⟩) d.sectors c7)).heap.size (w7.setCell ⟨w.heap.size, 3, none⟩ (.slice (some ⟨g7, 0, none⟩) d.sectors c7)) (.slice (some ⟨g5, 0, none⟩) (d.loose.length + 1) c5) (d.loose ++ [(k, bs)]) :=
    (((HL6.out.below HB7.out).mono HB7.out.size).turn HP7.out.x (by decide) (Nat.le_refl _) (set_moves04 w.heap.size 3 (.slice (some ⟨g7, 0, none⟩) d.sectors c7))).mono (set_moves04 (W := w7) w.heap.size 3 (.slice (some ⟨g7, 0, none⟩) d.sectors c7)).size
  obtain ⟨w8, hw8⟩ : ∃ w8, w7.setCell ⟨w.heap.size, 3, none⟩ (.slice (some ⟨g7, 0, none⟩) d.sectors c7) = w8 := ⟨_, rfl⟩
  rw [hw8] at hP8 hg8 hl8 ⊢
  have HP8 := Lib.hid hP8
  have HX8 := Lib.hid (show w8.heap[w.heap.size]? = some (.cells #[.int .i64 d.size, .slice a1 d.sectors c1, .slice (some ⟨g5, 0, none⟩) (d.loose.length + 1) c5, .slice (some ⟨g7, 0, none⟩) d.sectors c7, .int .i64 ar, .int .i64 ac, .bool dn] 33 (0, 0)) from hP8.x)
  have HG8 := Lib.hid hg8
  have HL8 := Lib.hid hl8
  have HLE := Lib.hid (show d.sectors ≤ c7 from hle7)
  have HGE : Hid (w.heap.size ≤ g7) := Nat.le_trans HP6.out.bel.size hge7
  have HCU := Lib.hid hck
  obtain ⟨ak, ck, hok⟩ := (HEL.out k HKK.out).slice
  have HKR0 := Lib.hid (HEL.out k HKK.out)
  have hck2 := hck k HKK.out
  rw [hok] at hck2 HKR0
  have HMK : Hid ((d.pasts k).length ≤ 65537) := by unfold Hid Dev.pasts; have := HPP.out k; simp; omega
  obtain ⟨mk, hmk⟩ : ∃ mk, (d.pasts k).length = mk := ⟨_, rfl⟩
  rw [hmk] at HMK HKR0 hck2 hok
  have HMKE := Lib.hid hmk
  have HKR : Hid (RowF w.heap.size w (.slice ak mk ck) 9 1 mk fun i => .string (strB ((d.pasts k)[i]?.getD []))) := HKR0
  obtain ⟨lo, hlo⟩ : ∃ lo, ((List.range (mk * 1)).map fun i => Value.string (strB ((d.pasts k)[i]?.getD []))) = lo := ⟨_, rfl⟩
  have HLO := Lib.hid hlo
  clear hlo
  have HCK := Lib.hid hck2
  have HOK := Lib.hid hok
  clear hw8 hP8 hg8 hl8 x3 f3 hcur hge7 hle7 hck hck2 hmk HKR0 hok
  refine wp_region_any (by kernel_rfl) ?_
  change wpAny _ _ _ _ _ _ _ w8.drew
  refine wpAny_ord4 55 ptD (PtR w.heap.size g7 d.sectors c7 k sb (.slice ak mk ck) mk lo w8.heap.size) (PtB (PtFin g7 k sb mk lo w8.heap.size w8) w8.heap.size w8) (PtRel (PtFin g7 k sb mk lo w8.heap.size w8) w8.heap.size) (by kernel_rfl) rfl ?_ ?_ ?_ ?_ ?_
  · exact ⟨fun _ => (Below.refl _ _).drew, fun e => by cases e⟩
  · intro i j v W W' hij hD ha1 ha2 hr hrel
    have hi : i < 12 ∨ 12 ≤ i := by omega
    rcases hi with hi | hi
    · have h9 : i = 0 ∨ i = 1 ∨ i = 2 ∨ i = 3 ∨ i = 4 ∨ i = 5 ∨ i = 6 ∨ i = 7 ∨ i = 8 ∨ i = 9 ∨ i = 10 ∨ i = 11 := by omega
      rcases h9 with rfl | rfl | rfl | rfl | rfl | rfl | rfl | rfl | rfl | rfl | rfl | rfl
      · exact hr
      · exact hr
      · exact hr
      · exact hr
      · rcases hrel with ⟨rfl, _⟩ | ⟨rfl, _⟩ | ⟨rfl, _⟩ | ⟨_, rfl⟩
        · exact absurd rfl hij
        · exact absurd rfl hD
        · rcases ha2 with h | h
          · exact Bool.noConfusion (h.symm.trans (show anc _ _ _ _ = true by kernel_rfl))
          · exact absurd h (by decide)
        · exact hr
      · exact hr
      · exact hr
      · exact hr
      · exact hr
      · exact hr
      · rcases hrel with ⟨rfl, _⟩ | ⟨rfl, _⟩ | ⟨rfl, _⟩ | ⟨_, rfl⟩
        · exact Bool.noConfusion (ha1.symm.trans (show anc _ _ _ _ = true by kernel_rfl))
        · exact absurd rfl hij
        · exact absurd rfl hD
        · exact hr
      · exact hr
    · match i, hi with
      | i + 12, _ => trivial
  · intro j listed W W' hnl hanc hb hrel
    exact ptB_set (Nat.le_refl _) hnl (fun e => by
      subst e
      exact ⟨hanc 10 (by kernel_rfl), hanc 4 (by kernel_rfl)⟩) hb hrel
  · intro i o ho listed a W h hnl hdeps
    have hi : i < 13 := by have := (Array.getElem?_eq_some_iff.1 ho).1; simpa using this
    have e1 : a.tmps.getD 1 undef = .int .i64 k := h.free 1 (by kernel_rfl)
    have f1 := (Array.getD_eq_getD_getElem? (xs := a.tmps) (i := 1) (d := undef)).symm.trans e1
    have e2 : a.tmps.getD 2 undef = .string sb := h.free 2 (by kernel_rfl)
    have f2 := (Array.getD_eq_getD_getElem? (xs := a.tmps) (i := 2) (d := undef)).symm.trans e2
    have e3 : a.tmps.getD 3 undef = .pointer (some ⟨w.heap.size, 0, none⟩) := h.free 3 (by kernel_rfl)
    have f3 := (Array.getD_eq_getD_getElem? (xs := a.tmps) (i := 3) (d := undef)).symm.trans e3
    have h9 : i = 0 ∨ i = 1 ∨ i = 2 ∨ i = 3 ∨ i = 4 ∨ i = 5 ∨ i = 6 ∨ i = 7 ∨ i = 8 ∨ i = 9 ∨ i = 10 ∨ i = 11 ∨ i = 12 := by omega
    rcases h9 with rfl | rfl | rfl | rfl | rfl | rfl | rfl | rfl | rfl | rfl | rfl | rfl | rfl
    · cases ho
      go_simp
      exact ⟨_, rfl, rfl, .inr (.inr (.inr ⟨⟨by decide, by decide, by decide⟩, rfl⟩))⟩
    · cases ho
      have e39 : a.tmps.getD 39 undef = .pointer (some ⟨w.heap.size, 3, none⟩) := h.got 0 _ 39 rfl (hdeps ⟨0, .data⟩ (by simp) rfl) (.inr rfl) rfl
      have f39 := (Array.getD_eq_getD_getElem? (xs := a.tmps) (i := 39) (d := undef)).symm.trans e39
      have hbw := h.base.1 (h.yet hnl 12 (by kernel_rfl))
      have z3 := blk_cell ((hbw.block _ (blk_lt HX8.out)).trans HX8.out) 3
      go_simp
      exact ⟨_, rfl, rfl, .inr (.inr (.inr ⟨⟨by decide, by decide, by decide⟩, rfl⟩))⟩
    · cases ho
      go_simp
      exact ⟨_, rfl, rfl, .inr (.inr (.inr ⟨⟨by decide, by decide, by decide⟩, rfl⟩))⟩
    · cases ho
      go_simp
      exact ⟨_, rfl, rfl, .inr (.inr (.inr ⟨⟨by decide, by decide, by decide⟩, rfl⟩))⟩
    · cases ho
      have e42 : a.tmps.getD 42 undef = .string sb := h.got 3 _ 42 rfl (hdeps ⟨3, .data⟩ (by simp) rfl) (.inr rfl) rfl
      have f42 := (Array.getD_eq_getD_getElem? (xs := a.tmps) (i := 42) (d := undef)).symm.trans e42
      go_simp
      exact ⟨_, rfl, ⟨_, rfl, ⟨rfl, .inr ⟨W.heap.size, 1, #[.string sb], rfl, (h.base.1 (h.yet hnl 12 (by kernel_rfl))).size, heap_alloc_new _ _, Nat.le_refl _, by unfold maxLen; omega, rfl, rfl⟩⟩⟩, .inl ⟨rfl, (Below.refl _ _).alloc (Nat.le_refl _) _⟩⟩
    · cases ho
      go_simp
      exact ⟨_, rfl, rfl, .inr (.inr (.inr ⟨⟨by decide, by decide, by decide⟩, rfl⟩))⟩
    · cases ho
      have e44 : a.tmps.getD 44 undef = .pointer (some ⟨w.heap.size, 3, none⟩) := h.got 5 _ 44 rfl (hdeps ⟨5, .data⟩ (by simp) rfl) (.inr rfl) rfl
      have f44 := (Array.getD_eq_getD_getElem? (xs := a.tmps) (i := 44) (d := undef)).symm.trans e44
      have hbw := h.base.1 (h.yet hnl 12 (by kernel_rfl))
      have z3 := blk_cell ((hbw.block _ (blk_lt HX8.out)).trans HX8.out) 3
      go_simp
      exact ⟨_, rfl, rfl, .inr (.inr (.inr ⟨⟨by decide, by decide, by decide⟩, rfl⟩))⟩
    · cases ho
      go_simp
      exact ⟨_, rfl, rfl, .inr (.inr (.inr ⟨⟨by decide, by decide, by decide⟩, rfl⟩))⟩
    · cases ho
      have e45 : a.tmps.getD 45 undef = .slice (some ⟨g7, 0, none⟩) d.sectors c7 := h.got 6 _ 45 rfl (hdeps ⟨6, .data⟩ (by simp) rfl) (.inr rfl) rfl
      have f45 := (Array.getD_eq_getD_getElem? (xs := a.tmps) (i := 45) (d := undef)).symm.trans e45
      have e46 : a.tmps.getD 46 undef = .int .i64 k := h.got 7 _ 46 rfl (hdeps ⟨7, .data⟩ (by simp) rfl) (.inr rfl) rfl
      have f46 := (Array.getD_eq_getD_getElem? (xs := a.tmps) (i := 46) (d := undef)).symm.trans e46
      go_simp
      exact ⟨_, rfl, rfl, .inr (.inr (.inr ⟨⟨by decide, by decide, by decide⟩, rfl⟩))⟩
    · cases ho
      have e47 : a.tmps.getD 47 undef = .pointer (some ⟨g7, k, none⟩) := h.got 8 _ 47 rfl (hdeps ⟨8, .data⟩ (by simp) rfl) (.inr rfl) rfl
      have f47 := (Array.getD_eq_getD_getElem? (xs := a.tmps) (i := 47) (d := undef)).symm.trans e47
      have hbw := h.base.1 (h.yet hnl 12 (by kernel_rfl))
      have zk := (blk_cell ((hbw.block _ (blk_lt HG8.out)).trans HG8.out) k).trans HCK.out
      go_simp
      exact ⟨_, rfl, rfl, .inr (.inr (.inr ⟨⟨by decide, by decide, by decide⟩, rfl⟩))⟩
    · cases ho
      obtain ⟨g4, e43, ho4⟩ := h.got 4 _ 43 rfl (hdeps ⟨4, .data⟩ (by simp) rfl) (.inl (show _ = false from notl hnl)) rfl
      have e48 : a.tmps.getD 48 undef = .slice ak mk ck := h.got 9 _ 48 rfl (hdeps ⟨9, .data⟩ (by simp) rfl) (.inr rfl) rfl
      have f48 := (Array.getD_eq_getD_getElem? (xs := a.tmps) (i := 48) (d := undef)).symm.trans e48
      have hbw := h.base.1 (h.yet hnl 12 (by kernel_rfl))
      refine wp_append_rowF (.tmp 43) (.tmp 48) 29 rfl rfl w8.heap.size 9 is _ 1 16 Try.underlying29 his hs0 hs1 hs2 rfl (by decide) (.slice (some ⟨g4, 0, none⟩) 1 1) 1 [.string sb] e43 ho4 (.slice ak mk ck) e48 w.heap.size mk _ (HKR.out.below (HP8.out.bel.trans (hbw.mono HP8.out.bel.size))) (strs_one _ _) (by have := HMK.out; omega) (by have := HMK.out; omega) hbw.size ?_
      intro v' w' ho' hg'
      obtain ⟨g5, c5, rfl⟩ := owns_some ho' (by omega)
      rw [HLO.out] at ho'
      exact ⟨_, rfl, ⟨g5, c5, rfl, ho'⟩, .inr (.inl ⟨rfl, (Below.refl w8.heap.size W).grown hg' hbw.size (fun q e => (ho4.lt q e).1)⟩)⟩
    · cases ho
      have e40 : a.tmps.getD 40 undef = .slice (some ⟨g7, 0, none⟩) d.sectors c7 := h.got 1 _ 40 rfl (hdeps ⟨1, .data⟩ (by simp) rfl) (.inr rfl) rfl
      have f40 := (Array.getD_eq_getD_getElem? (xs := a.tmps) (i := 40) (d := undef)).symm.trans e40
      have e41 : a.tmps.getD 41 undef = .int .i64 k := h.got 2 _ 41 rfl (hdeps ⟨2, .data⟩ (by simp) rfl) (.inr rfl) rfl
      have f41 := (Array.getD_eq_getD_getElem? (xs := a.tmps) (i := 41) (d := undef)).symm.trans e41
      go_simp
      exact ⟨_, rfl, rfl, .inr (.inr (.inr ⟨⟨by decide, by decide, by decide⟩, rfl⟩))⟩
    · cases ho
      obtain ⟨g9, c9, e49, ho9⟩ := h.got 10 _ 49 rfl (hdeps ⟨10, .data⟩ (by simp) rfl) (.inl (show _ = false from notl hnl)) rfl
      have f49 := (Array.getD_eq_getD_getElem? (xs := a.tmps) (i := 49) (d := undef)).symm.trans e49
      have e50 : a.tmps.getD 50 undef = .pointer (some ⟨g7, k, none⟩) := h.got 11 _ 50 rfl (hdeps ⟨11, .data⟩ (by simp) rfl) (.inr rfl) rfl
      have f50 := (Array.getD_eq_getD_getElem? (xs := a.tmps) (i := 50) (d := undef)).symm.trans e50
      have hbw := h.base.1 (notl hnl)
      have hgb := (hbw.block _ (blk_lt HG8.out)).trans HG8.out
      have zk := (blk_cell hgb k).trans HCK.out
      have rk := blk_frozen hgb k
      have HFI : Hid (PtFin g7 k sb mk lo w8.heap.size w8 (W.setCell ⟨g7, k, none⟩ (.slice (some ⟨g9, 0, none⟩) (1 + mk) c9))) := ⟨g9, c9, W, hbw, ho9, rfl⟩
      go_simp
      exact ⟨⟨undef, trivial⟩, .inr (.inr (.inl ⟨rfl, HFI.out⟩))⟩
  · intro a W h
    have f3 : a.tmps.getD 3 undef = .pointer (some ⟨w.heap.size, 0, none⟩) := h.free 3 (by kernel_rfl)
    have f6 : a.tmps.getD 6 undef = .pointer (some ⟨w.heap.size + 1, 0, none⟩) := h.free 6 (by kernel_rfl)
    have ea := arr_eq a.tmps 55 h.size
    have ed := h.defers
    have hb := (h.base.2 rfl).2.2
    clear h
    obtain ⟨g9, c9, W1, hb1, ho9, hW⟩ := hb
    have hP1 := HP8.out.on hb1
    have hgd : W1.heap[g7]? = some (.cells cur 29 (0, 0)) := (hb1.block _ (blk_lt HG8.out)).trans HG8.out
    have hge : w.heap.size ≤ g7 := HGE.out
    have hP9 : PB w w.heap.size (w.heap.size + 1) (rdC d.size (.slice a1 d.sectors c1) (.slice (some ⟨g5, 0, none⟩) (d.loose.length + 1) c5) (.slice (some ⟨g7, 0, none⟩) d.sectors c7) ar ac dn) W := by
      rw [hW]
      exact ⟨hP1.bel.setCell (p := ⟨g7, k, none⟩) hge _, hP1.xw, hP1.zw, hP1.ne, (set_other _ _ _ _ _ (blk_ne hP1.x hgd (by decide))).trans hP1.x, (set_other _ _ _ _ _ (blk_ne hP1.z hgd (by decide))).trans hP1.z⟩
    have HRF := Lib.hid (put_ref HR.out.1 hP9.bel HL8.out hb1 HG8.out HCU.out HLE.out HEL.out HKK.out ho9 HLO.out HMKE.out HSB.out hW.symm)
    have HP9 := Lib.hid hP9
    clear hW hP1 hgd hge hP9 hb1 ho9
    obtain ⟨t, ds⟩ := a
    replace ed : ds = [] := ed
    subst ed
    replace f3 : t.getD 3 undef = .pointer (some ⟨w.heap.size, 0, none⟩) := f3
    replace f6 : t.getD 6 undef = .pointer (some ⟨w.heap.size + 1, 0, none⟩) := f6
    replace ea : t = #[t.getD 0 undef, t.getD 1 undef, t.getD 2 undef, t.getD 3 undef, t.getD 4 undef, t.getD 5 undef, t.getD 6 undef, t.getD 7 undef, t.getD 8 undef, t.getD 9 undef, t.getD 10 undef, t.getD 11 undef, t.getD 12 undef, t.getD 13 undef, t.getD 14 undef, t.getD 15 undef, t.getD 16 undef, t.getD 17 undef, t.getD 18 undef, t.getD 19 undef, t.getD 20 undef, t.getD 21 undef, t.getD 22 undef, t.getD 23 undef, t.getD 24 undef, t.getD 25 undef, t.getD 26 undef, t.getD 27 undef, t.getD 28 undef, t.getD 29 undef, t.getD 30 undef, t.getD 31 undef, t.getD 32 undef, t.getD 33 undef, t.getD 34 undef, t.getD 35 undef, t.getD 36 undef, t.getD 37 undef, t.getD 38 undef, t.getD 39 undef, t.getD 40 undef, t.getD 41 undef, t.getD 42 undef, t.getD 43 undef, t.getD 44 undef, t.getD 45 undef, t.getD 46 undef, t.getD 47 undef, t.getD 48 undef, t.getD 49 undef, t.getD 50 undef, t.getD 51 undef, t.getD 52 undef, t.getD 53 undef, t.getD 54 undef] := ea
    rw [f3, f6] at ea
    generalize t.getD 0 undef = v0 at ea
    generalize t.getD 1 undef = v1 at ea
    generalize t.getD 2 undef = v2 at ea
    generalize t.getD 4 undef = v4 at ea
    generalize t.getD 5 undef = v5 at ea
    generalize t.getD 7 undef = v7 at ea
    generalize t.getD 8 undef = v8 at ea
    generalize t.getD 9 undef = v9 at ea
    generalize t.getD 10 undef = v10 at ea
    generalize t.getD 11 undef = v11 at ea
    generalize t.getD 12 undef = v12 at ea
    generalize t.getD 13 undef = v13 at ea
    generalize t.getD 14 undef = v14 at ea
    generalize t.getD 15 undef = v15 at ea
    generalize t.getD 16 undef = v16 at ea
    generalize t.getD 17 undef = v17 at ea
    generalize t.getD 18 undef = v18 at ea
    generalize t.getD 19 undef = v19 at ea
    generalize t.getD 20 undef = v20 at ea
    generalize t.getD 21 undef = v21 at ea
    generalize t.getD 22 undef = v22 at ea
    generalize t.getD 23 undef = v23 at ea
    generalize t.getD 24 undef = v24 at ea
    generalize t.getD 25 undef = v25 at ea
    generalize t.getD 26 undef = v26 at ea
    generalize t.getD 27 undef = v27 at ea
    generalize t.getD 28 undef = v28 at ea
    generalize t.getD 29 undef = v29 at ea
    generalize t.getD 30 undef = v30 at ea
    generalize t.getD 31 undef = v31 at ea
    generalize t.getD 32 undef = v32 at ea
    generalize t.getD 33 undef = v33 at ea
    generalize t.getD 34 undef = v34 at ea
    generalize t.getD 35 undef = v35 at ea
    generalize t.getD 36 undef = v36 at ea
    generalize t.getD 37 undef = v37 at ea
    generalize t.getD 38 undef = v38 at ea
    generalize t.getD 39 undef = v39 at ea
    generalize t.getD 40 undef = v40 at ea
    generalize t.getD 41 undef = v41 at ea
    generalize t.getD 42 undef = v42 at ea
    generalize t.getD 43 undef = v43 at ea
    generalize t.getD 44 undef = v44 at ea
    generalize t.getD 45 undef = v45 at ea
    generalize t.getD 46 undef = v46 at ea
    generalize t.getD 47 undef = v47 at ea
    generalize t.getD 48 undef = v48 at ea
    generalize t.getD 49 undef = v49 at ea
    generalize t.getD 50 undef = v50 at ea
    generalize t.getD 51 undef = v51 at ea
    generalize t.getD 52 undef = v52 at ea
    generalize t.getD 53 undef = v53 at ea
    generalize t.getD 54 undef = v54 at ea
    subst ea
    clear f3 f6
    have HZ9 := Lib.hid HP9.out.z
    have HCE : Hid (dn = true ∧ cd = 4 ∨ dn = false ∧ cd = 0) := by
      have := HCD.out
      cases dn
      · exact .inr ⟨rfl, this.symm⟩
      · exact .inl ⟨rfl, this.symm⟩
    have x0 := blk_cell HP9.out.x 0
    have x1 := blk_cell HP9.out.x 1
    have x2 := blk_cell HP9.out.x 2
    have x3 := blk_cell HP9.out.x 3
    have x4 := blk_cell HP9.out.x 4
    have x5 := blk_cell HP9.out.x 5
    have x6 := blk_cell HP9.out.x 6
    unfold rdC at x0 x1 x2 x3 x4 x5 x6
    have HFIN : Hid (∀ e, e = Ending.returned (.tuple #[.agg (rdC d.size (.slice a1 d.sectors c1) (.slice (some ⟨g5, 0, none⟩) (d.loose.length + 1) c5) (.slice (some ⟨g7, 0, none⟩) d.sectors c7) ar ac dn), .int .i64 cd]) → RefRet (d.give k bs).act cd w e (W.setRow (w.heap.size + 1) (rdC d.size (.slice a1 d.sectors c1) (.slice (some ⟨g5, 0, none⟩) (d.loose.length + 1) c5) (.slice (some ⟨g7, 0, none⟩) d.sectors c7) ar ac dn))) := fun e he => by
      obtain ⟨n1, n2, n3, n4⟩ := HNUM.out
      exact ⟨_, _, _, by rw [n1, n2, n3, n4]; exact he, HP9.out.ref HRF.out.act _, (HP9.out.ends _).2⟩
    have HEN := Lib.hid (HP9.out.ends (rdC d.size (.slice a1 d.sectors c1) (.slice (some ⟨g5, 0, none⟩) (d.loose.length + 1) c5) (.slice (some ⟨g7, 0, none⟩) d.sectors c7) ar ac dn)).1
    rcases HCE.out with ⟨rfl, rfl⟩ | ⟨rfl, rfl⟩
    · clear HCE HCD HNUM HRF HP9
      go_wp2_with (refine wpList_store_row (o := ⟨none, _, _, _, _, _⟩) rfl 33 (.tmp 6) (.tmp 53) rfl (w.heap.size + 1) (rdC d.size (.slice a1 d.sectors c1) (.slice (some ⟨g5, 0, none⟩) (d.loose.length + 1) c5) (.slice (some ⟨g7, 0, none⟩) d.sectors c7) ar ac true) rfl rfl 33 rd0 HZ9.out (rd_sz _ _ _ _ _ _ _) rfl ?_ ?_; exact rd_one)
      exact bodyPost_ret (rd_res rfl _ _ (w.heap.size + 1) _ 4 HEN.out (rd_sz _ _ _ _ _ _ _) rfl rfl) rfl (HFIN.out _ rfl)
    · clear HCE HCD HNUM HRF HP9
      go_wp2_with (refine wpList_store_row (o := ⟨none, _, _, _, _, _⟩) rfl 33 (.tmp 6) (.tmp 54) rfl (w.heap.size + 1) (rdC d.size (.slice a1 d.sectors c1) (.slice (some ⟨g5, 0, none⟩) (d.loose.length + 1) c5) (.slice (some ⟨g7, 0, none⟩) d.sectors c7) ar ac false) rfl rfl 33 rd0 HZ9.out (rd_sz _ _ _ _ _ _ _) rfl ?_ ?_; exact rd_one)
      exact bodyPost_ret (rd_res rfl _ _ (w.heap.size + 1) _ 0 HEN.out (rd_sz _ _ _ _ _ _ _) rfl rfl) rfl (HFIN.out _ rfl)
end Go.Proofs.Ytadglpnmhpmebaa

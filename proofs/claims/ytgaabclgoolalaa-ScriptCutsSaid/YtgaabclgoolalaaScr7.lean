/-
  script.Pack.
  Conditions: none.
-/
import Derived.Test.YtgaabclgoolalaaScr6
namespace Go.Proofs.Ytgaabclgoolalaa
open Go.RowKit
attribute [local go_sem] Oper.semAt_some

/-- An act stands at a place. -/
def ActAt (n : Nat) (W : World) (g o : Nat) (x : SAct) : Prop := ∃ a1 c1 a2 c2 a3 c3, (W.cell? ⟨g, o, none⟩ = some (.int .i64 x.kind) ∧ W.cell? ⟨g, o + 1, none⟩ = some (.slice a1 x.key.length c1) ∧ W.cell? ⟨g, o + 2, none⟩ = some (.slice a2 x.val.length c2) ∧ W.cell? ⟨g, o + 3, none⟩ = some (.int .i64 x.num) ∧ W.cell? ⟨g, o + 4, none⟩ = some (.slice a3 x.nums.length c3)) ∧
  BytesAt n W (.slice a1 x.key.length c1) x.key ∧ BytesAt n W (.slice a2 x.val.length c2) x.val ∧ IntsAt n W (.slice a3 x.nums.length c3) x.nums
theorem ActAt.below {n : Nat} {W W' : World} {g o : Nat} {x : SAct} (h : ActAt n W g o x) (hg : g < n) (hb : Below n W W') : ActAt n W' g o x := by
  obtain ⟨a1, c1, a2, c2, a3, c3, ⟨h0, h1, h2, h3, h4⟩, k1, k2, k3⟩ := h
  exact ⟨a1, c1, a2, c2, a3, c3, ⟨(hb.cell (p := ⟨g, _, none⟩) hg).trans h0, (hb.cell (p := ⟨g, _, none⟩) hg).trans h1, (hb.cell (p := ⟨g, _, none⟩) hg).trans h2, (hb.cell (p := ⟨g, _, none⟩) hg).trans h3, (hb.cell (p := ⟨g, _, none⟩) hg).trans h4⟩, k1.below hb, k2.below hb, k3.below hb⟩
theorem ActAt.mono {n m : Nat} {W : World} {g o : Nat} {x : SAct} (h : ActAt n W g o x) (hm : n ≤ m) : ActAt m W g o x := by
  obtain ⟨a1, c1, a2, c2, a3, c3, h0, k1, k2, k3⟩ := h
  exact ⟨a1, c1, a2, c2, a3, c3, h0, k1.mono hm, k2.mono hm, k3.mono hm⟩
/-- A row of acts. -/
def ActsAt (n : Nat) (W : World) (v : Value) (l : List SAct) : Prop := ∃ a c, v = .slice a l.length c ∧ l.length ≤ c ∧ (l = [] ∨ ∃ g off, a = some ⟨g, off, none⟩ ∧ g < n ∧ ∀ i, i < l.length → ActAt n W g (off + i * 5) (l[i]?.getD default))
theorem ActsAt.below {n : Nat} {W W' : World} {v : Value} {l : List SAct} (h : ActsAt n W v l) (hb : Below n W W') : ActsAt n W' v l := by
  obtain ⟨a, c, hv, hc, h⟩ := h
  refine ⟨a, c, hv, hc, ?_⟩
  rcases h with h | ⟨g, off, ha, hg, h⟩
  · exact .inl h
  · exact .inr ⟨g, off, ha, hg, fun i hi => (h i hi).below hg hb⟩
theorem ActsAt.mono {n m : Nat} {W : World} {v : Value} {l : List SAct} (h : ActsAt n W v l) (hm : n ≤ m) : ActsAt m W v l := by
  obtain ⟨a, c, hv, hc, h⟩ := h
  refine ⟨a, c, hv, hc, ?_⟩
  rcases h with h | ⟨g, off, ha, hg, h⟩
  · exact .inl h
  · exact .inr ⟨g, off, ha, by omega, fun i hi => (h i hi).mono hm⟩
theorem ActsAt.next {W W' : World} {v : Value} {l : List SAct} (h : ActsAt W.heap.size W v l) (hb : Below W.heap.size W W') : ActsAt W'.heap.size W' v l := (h.below hb).mono hb.size
theorem ActsAt.nil (n : Nat) (w : World) (a : Option Addr) (c : Nat) : ActsAt n w (.slice a 0 c) [] := ⟨a, c, rfl, Nat.zero_le _, .inl rfl⟩
theorem ActsAt.slice {n : Nat} {W : World} {v : Value} {l : List SAct} (h : ActsAt n W v l) : ∃ a c, v = .slice a l.length c ∧ l.length ≤ c := by
  obtain ⟨a, c, hv, hc, _⟩ := h; exact ⟨a, c, hv, hc⟩
theorem ActsAt.get {n : Nat} {W : World} {a : Option Addr} {k c : Nat} {l : List SAct} (h : ActsAt n W (.slice a k c) l) {i : Nat} (hi : i < l.length) : ∃ g off, a = some ⟨g, off, none⟩ ∧ g < n ∧ ActAt n W g (off + i * 5) (l[i]?.getD default) := by
  obtain ⟨a', c', e, hc, h⟩ := h
  cases e
  rcases h with h | ⟨g, off, ha, hg, h⟩
  · rw [h] at hi; exact absurd hi (by simp)
  · exact ⟨g, off, ha, hg, h i hi⟩
/-- An act's bytes, as its kind has them. -/
def actS (x : SAct) : List (BitVec 8) := actB (wk (kn x.kind)) (wv (kn x.kind)) (wu (kn x.kind)) (decide (wl (kn x.kind) < wm (kn x.kind))) x
theorem fitT_le {has : Bool} {n : Nat} (h : fitT has n = true) : n ≤ 65535 := by
  unfold fitT at h
  cases has <;> simp at h <;> omega
theorem wm_le (i : Nat) : wm i ≤ 100 := by
  unfold wm
  split <;> decide
theorem fit_len {x : SAct} (h : rightA x = true) : kn x.kind < 10 ∧ x.key.length ≤ 65535 ∧ x.val.length ≤ 65535 ∧ x.nums.length ≤ 100 := by
  unfold rightA fitK fitB at h
  simp only [Bool.and_eq_true, decide_eq_true_eq] at h
  obtain ⟨h0, h1, h2, h3, h4, h5⟩ := h
  have := wm_le (kn x.kind)
  exact ⟨h0, fitT_le h1, fitT_le h2, by omega⟩
theorem actB_len (k v u c : Bool) (x : SAct) (h1 : x.key.length ≤ 65535) (h2 : x.val.length ≤ 65535) (h3 : x.nums.length ≤ 100) : (actB k v u c x).length ≤ 140000 := by
  unfold actB
  simp only [List.length_append, flat_len, leI_len]
  have e1 : (if k then txt x.key else []).length ≤ 65537 := by split <;> simp [txt_len]; omega
  have e2 : (if v then txt x.val else []).length ≤ 65537 := by split <;> simp [txt_len]; omega
  have e3 : (if u then leI 8 x.num else []).length ≤ 8 := by split <;> simp [leI_len]
  have e4 : (if c then leI 1 x.nums.length else []).length ≤ 1 := by split <;> simp [leI_len]
  omega
theorem actS_len {x : SAct} (h : rightA x = true) : (actS x).length ≤ 140000 := by
  obtain ⟨_, h1, h2, h3⟩ := fit_len h
  exact actB_len _ _ _ _ x h1 h2 h3
theorem acts_len : ∀ (l : List SAct), (∀ x ∈ l, rightA x = true) → (l.flatMap actS).length ≤ 140000 * l.length
  | [], _ => by simp
  | x :: l, h => by
    rw [List.flatMap_cons, List.length_append, List.length_cons]
    have := acts_len l (fun y hy => h y (by simp [hy]))
    have := actS_len (h x (by simp))
    omega
theorem write_any {n₀ B : Nat} {row : List (BitVec 8)} {w : World} (hW : WM n₀ B row w) (hrow : row.length ≤ 540000000000) (x : SAct) (a1 a2 a3 : Option Addr) (c1 c2 c3 : Nat) (h1 : BytesAt n₀ w (.slice a1 x.key.length c1) x.key) (h2 : BytesAt n₀ w (.slice a2 x.val.length c2) x.val) (h3 : IntsAt n₀ w (.slice a3 x.nums.length c3) x.nums) (hr : rightA x = true) :
    Calls Try.prog 28 #[.agg #[.string (nm (kn x.kind)), .bool (wk (kn x.kind)), .bool (wv (kn x.kind)), .bool (wu (kn x.kind)), .int .i64 (wl (kn x.kind)), .int .i64 (wm (kn x.kind))], .pointer (some ⟨B, 0, none⟩), .agg #[.int .i64 x.kind, .slice a1 x.key.length c1, .slice a2 x.val.length c2, .int .i64 x.num, .slice a3 x.nums.length c3]] w (WmRet n₀ B (row ++ actS x) w) := by
  obtain ⟨h0, l1, l2, l3⟩ := fit_len hr
  have hx : Wok n₀ w x a1 a2 a3 c1 c2 c3 := ⟨h1, h2, h3, l1, l2, l3⟩
  unfold actS
  generalize kn x.kind = i at h0
  have h9 : i = 0 ∨ i = 1 ∨ i = 2 ∨ i = 3 ∨ i = 4 ∨ i = 5 ∨ i = 6 ∨ i = 7 ∨ i = 8 ∨ i = 9 := by omega
  rcases h9 with rfl | rfl | rfl | rfl | rfl | rfl | rfl | rfl | rfl | rfl
  · exact write_key _ _ _ (by decide) hW hrow x _ _ _ _ _ _ hx
  · exact write_set _ _ _ (by decide) hW hrow x _ _ _ _ _ _ hx
  · exact write_key _ _ _ (by decide) hW hrow x _ _ _ _ _ _ hx
  · exact write_none _ _ _ (by decide) hW hrow x _ _ _ _ _ _ hx
  · exact write_none _ _ _ (by decide) hW hrow x _ _ _ _ _ _ hx
  · exact write_num _ _ _ (by decide) hW hrow x _ _ _ _ _ _ hx
  · exact write_num _ _ _ (by decide) hW hrow x _ _ _ _ _ _ hx
  · exact write_many _ _ _ (by decide) hW hrow x _ _ _ _ _ _ hx
  · exact write_none _ _ _ (by decide) hW hrow x _ _ _ _ _ _ hx
  · exact write_none _ _ _ (by decide) hW hrow x _ _ _ _ _ _ hx
/-- What Pack answers. -/
def packE (l : List SAct) : Int := if 65536 < l.length then 9 else if l.all rightA then 0 else 17
def packS (l : List SAct) : List (BitVec 8) := if packE l = 0 then leI 4 l.length ++ l.flatMap actS else []
def PackRet (l : List SAct) (w : World) (e : Ending) (w' : World) : Prop := ∃ u, e = .returned (.tuple #[u, .int .i64 (packE l)]) ∧ BytesAt w'.heap.size w' u (packS l) ∧ Below w.heap.size w w'
theorem actsTake (l : List SAct) (k : Nat) (hk : k < l.length) : (l.take (k + 1)).flatMap actS = (l.take k).flatMap actS ++ actS (l[k]?.getD default) := by
  rw [List.take_add_one, List.flatMap_append, List.getElem?_eq_getElem hk]
  simp
theorem all_of {l : List SAct} (h : ∀ i, i < l.length → rightA (l[i]?.getD default) = true) : l.all rightA = true := by
  rw [List.all_eq_true]
  intro x hx
  obtain ⟨i, hi, rfl⟩ := List.mem_iff_getElem.1 hx
  have := h i hi
  rwa [List.getElem?_eq_getElem hi] at this
theorem KindsAt.stay {w W W' : World} {b B : Nat} (h : KindsAt w b 10 W) (hs : WStay B W W') (hb : Below w.heap.size W W') (hne : b ≠ B) : KindsAt w b 10 W' :=
  ⟨hs.2 b _ h.at_ hne (fun _ _ e => by cases e), h.bel.trans hb⟩
set_option maxRecDepth 100000 in
set_option maxHeartbeats 4000000 in
theorem pack_any (v : Value) (l : List SAct) (w : World) (hE : ActsAt w.heap.size w v l) (hm : l.length ≤ 1073741824) : Calls Try.prog 11 #[v] w (PackRet l w) := by
  obtain ⟨a, c, rfl, hc⟩ := hE.slice
  by_cases hbig : 65536 < l.length
  · have h1 : (65536 : Int) < l.length := by omega
    have HE : Hid (packE l = 9) := by unfold Hid packE; rw [if_pos hbig]
    clear hE hm hc hbig
    go_enter Try.func11, Try.ntmps11
    go_wp2
    go_ret2
    refine ⟨.slice none 0 0, by rw [HE.out]; try rfl, ?_, Below.refl _ _⟩
    unfold packS
    rw [HE.out, if_neg (by decide)]
    exact BytesAt.nil _ _
  · have h1 : (l.length : Int) ≤ 65536 := by omega
    have HL : Hid (l.length ≤ 65536) := by unfold Hid; omega
    have HE := Lib.hid hE
    have HKI := Lib.hid (kinds_any w)
    have HNW := Lib.hid (fun W => newWriter_any 9223372036854775807 W)
    have em : max (9223372036854775807 : Int) 0 = 9223372036854775807 := by omega
    rw [em] at HNW
    clear hE hm hbig em
    go_enter Try.func11, Try.ntmps11
    go_wp2_with (first
      | (go_at_call 24; (with_reducible refine HKI.out.mono ?_); rintro e w1 ⟨rfl, h1⟩; have HK1 := Lib.hid h1; clear h1)
      | (go_at_call 25; (with_reducible refine (HNW.out _).mono ?_); rintro e w2 ⟨rfl, h2⟩; have hm2 := WM.new w.heap.size w1 HK1.out.bel.size; have hk2 := HK1.out.on ((Below.refl _ w1).alloc (Nat.le_refl _) (.cells #[.slice none 0 0, .int .i64 9223372036854775807, .bool false] 81)); rw [← h2] at hm2 hk2; have HM2 := Lib.hid hm2; have HK2 := Lib.hid hk2; clear hm2 hk2 h2)
      | (go_at_call 26; (with_reducible refine (HM2.out.numL l.length 4 (by have := HL.out; omega) rfl (by simp)).mono ?_); rintro e w3 ⟨rfl, hm, hs, hd⟩; have HM3 := Lib.hid hm; have HK3 := Lib.hid (HK2.out.stay hs hd (Nat.ne_of_lt (Array.getElem?_eq_some_iff.1 HK1.out.at_).1)); clear hm hs hd))
    go_loopw [20] (fun i wr => ∃ j : Nat, j ≤ l.length ∧ i = .int .i64 j ∧ KindsAt w w.heap.size 10 wr ∧ WM w.heap.size w1.heap.size ([] ++ leI 4 l.length ++ (l.take j).flatMap actS) wr ∧ ∀ i, i < j → rightA (l[i]?.getD default) = true) (fun i _ => l.length - (intOf i).toNat)
    case atStart => exact ⟨0, Nat.zero_le _, rfl, HK3.out, by simpa using HM3.out, fun i hi => absurd hi (by omega)⟩
    case round =>
      obtain ⟨j, hj, rfl, hK, hM, hR⟩ := hrel
      have HNE : Hid (w.heap.size ≠ w1.heap.size) := Nat.ne_of_lt (Array.getElem?_eq_some_iff.1 HK1.out.at_).1
      have HR := Lib.hid hR
      by_cases hlt : j < l.length
      · obtain ⟨g, off, rfl, hg, he⟩ := (HE.out.below hK.bel).get hlt
        have j1 : (j : Int) < l.length := by omega
        have HFT := Lib.hid (actsTake l j hlt)
        have HLT := Lib.hid hlt
        have hrl : ((l.take j).flatMap actS).length ≤ 9300000000 := by
          have h9 := acts_len (l.take j) (fun x hx => by
            obtain ⟨i, hi, rfl⟩ := List.mem_iff_getElem.1 hx
            rw [List.length_take] at hi
            have := hR i (by omega)
            rw [List.getElem?_eq_getElem (by omega)] at this
            rw [List.getElem_take]
            exact this)
          rw [List.length_take] at h9
          have := HL.out
          omega
        have HRL : Hid (([] ++ leI 4 l.length ++ (l.take j).flatMap actS).length ≤ 540000000000) := by
          unfold Hid
          rw [List.length_append, List.length_append, leI_len]
          show 0 + 4 + _ ≤ _
          omega
        obtain ⟨x, hx⟩ : ∃ x, (l[j]?.getD default) = x := ⟨_, rfl⟩
        rw [hx] at he HFT
        have HX := Lib.hid hx
        obtain ⟨b1, d1, b2, d2, b3, d3, ⟨e0, e1, e2, e3, e4⟩, k1, k2, k3⟩ := he
        have hbr := (Below.refl wr.heap.size wr).alloc (Nat.le_refl _) (.cells #[.int .i64 x.kind, .slice b1 x.key.length d1, .slice b2 x.val.length d2, .int .i64 x.num, .slice b3 x.nums.length d3] 49)
        have hnr : (wr.alloc (.cells #[.int .i64 x.kind, .slice b1 x.key.length d1, .slice b2 x.val.length d2, .int .i64 x.num, .slice b3 x.nums.length d3] 49)).heap[wr.heap.size]? = some (.cells #[.int .i64 x.kind, .slice b1 x.key.length d1, .slice b2 x.val.length d2, .int .i64 x.num, .slice b3 x.nums.length d3] 49 (0, 0)) := heap_alloc_new _ _
        have hK4 := hK.on hbr
        have hM4 := hM.on hbr
        have hbw := hbr.mono hM.size
        have HK4 := Lib.hid hK4
        have HM4 := Lib.hid hM4
        have HNR := Lib.hid hnr
        have HB1 := Lib.hid (k1.below hbw)
        have HB2 := Lib.hid (k2.below hbw)
        have HB3 := Lib.hid (k3.below hbw)
        have HRT := Lib.hid (right_any hK4 x b1 b2 b3 d1 d2 d3)
        clear hR hlt hg hx k1 k2 k3 hbr hnr hK4 hM4 hbw hrl hK hM hj
        cases hrx : rightA x with
        | false =>
          rw [hrx] at HRT
          have HP : Hid (packE l = 17) := by
            unfold Hid packE
            rw [if_neg (by have := HL.out; omega), if_neg]
            intro h9
            rw [List.all_eq_true] at h9
            have h7 := HX.out
            rw [List.getElem?_eq_getElem HLT.out] at h7
            have h6 : l[j]'HLT.out = x := h7
            have h8 : rightA x = true := by
              rw [← h6]
              exact h9 _ (List.getElem_mem HLT.out)
            rw [hrx] at h8
            cases h8
          clear hrx
          go_wp2_with (go_at_call 27; (with_reducible refine HRT.out.mono ?_); rintro e wq ⟨rfl, hb⟩; have HBQ := Lib.hid (HK4.out.bel.trans (hb.mono HK4.out.bel.size)); clear hb)
          go_ret2
          refine ⟨.slice none 0 0, by rw [HP.out]; try rfl, ?_, HBQ.out⟩
          unfold packS
          rw [HP.out, if_neg (by decide)]
          exact BytesAt.nil _ _
        | true =>
          rw [hrx] at HRT
          have HRX := Lib.hid hrx
          clear hrx
          go_wp2_with (first
            | (go_at_call 27; (with_reducible refine HRT.out.mono ?_); rintro e wq ⟨rfl, hb⟩; have HBQ := Lib.hid (hb.mono HM4.out.size); have hKq := HK4.out.on hb; have HKQ := Lib.hid hKq; have HMQ := Lib.hid (HM4.out.on hb); have hq : (Instr.lookup 63 (.map (some w.heap.size)) (.int .i64 x.kind) false).run Try.prog wq = .ok (whatV (kn x.kind)) wq := look_any hKq x.kind false; unfold whatV at hq; have hnq := (hb.block _ (blk_lt HNR.out)).trans HNR.out; have f0 : wq.cell? ⟨wr.heap.size, 0, none⟩ = some (.int .i64 x.kind) := blk_cell hnq 0; have f1 : wq.cell? ⟨wr.heap.size, 1, none⟩ = some (.slice b1 x.key.length d1) := blk_cell hnq 1; have f2 : wq.cell? ⟨wr.heap.size, 2, none⟩ = some (.slice b2 x.val.length d2) := blk_cell hnq 2; have f3 : wq.cell? ⟨wr.heap.size, 3, none⟩ = some (.int .i64 x.num) := blk_cell hnq 3; have f4 : wq.cell? ⟨wr.heap.size, 4, none⟩ = some (.slice b3 x.nums.length d3) := blk_cell hnq 4; clear hb hKq hnq)
            | (go_at_call 28; (with_reducible refine (write_any HMQ.out HRL.out x b1 b2 b3 d1 d2 d3 (HB1.out.below HBQ.out) (HB2.out.below HBQ.out) (HB3.out.below HBQ.out) HRX.out).mono ?_); rintro e w9 ⟨rfl, hm, hs, hd⟩; have HM9 := Lib.hid hm; have HK9 := Lib.hid (HKQ.out.stay hs hd HNE.out); clear hm hs hd f0 f1 f2 f3 f4 hq))
          go_roundw
          case rel => exact ⟨j + 1, HLT.out, by go_num, HK9.out, by rw [HFT.out, ← List.append_assoc]; exact HM9.out, fun i hi => by
            by_cases h9 : i < j
            · exact HR.out i h9
            · obtain rfl : i = j := by omega
              rw [HX.out]; exact HRX.out⟩
          case measure => have := HLT.out; simp [intOf]; omega
      · obtain rfl : j = l.length := by omega
        have hall := all_of hR
        have HP : Hid (packE l = 0) := by unfold Hid packE; rw [if_neg (by have := HL.out; omega), if_pos hall]
        have HKJ := Lib.hid hK
        have hlen : ([] ++ leI 4 l.length ++ (l.take l.length).flatMap actS).length ≤ 1099511627776 := by
          have h9 := acts_len l (fun x hx => (List.all_eq_true.1 hall) x hx)
          have := HL.out
          rw [List.take_length, List.length_append, List.length_append, leI_len]
          show 0 + 4 + _ ≤ _
          omega
        have HTK := Lib.hid (hM.take hlen)
        clear hR hall hK hM hlen hlt
        go_wp2_with (go_at_call 29; (with_reducible refine HTK.out.mono ?_); rintro e w9 ⟨u, rfl, hu, hb⟩; have HU := Lib.hid hu; have HB9 := Lib.hid (HKJ.out.bel.trans (hb.mono HKJ.out.bel.size)); clear hu hb)
        go_ret2
        refine ⟨u, by rw [HP.out]; try rfl, ?_, HB9.out⟩
        have := BytesAt.of_owns HU.out
        unfold packS
        rw [HP.out, if_pos rfl]
        rw [List.take_length, List.nil_append] at this
        exact this
end Go.Proofs.Ytgaabclgoolalaa

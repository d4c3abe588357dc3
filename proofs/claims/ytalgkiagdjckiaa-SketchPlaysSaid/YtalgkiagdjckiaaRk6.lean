/-
  sgraffitoref23: Mark.
  Conditions: none.
-/
import Derived.Test.YtalgkiagdjckiaaRk5
import Derived.OneCell
namespace Go.Proofs.Ytalgkiagdjckiaa
open Go.RowKit

theorem own_setI {w : World} {base g i : Nat} {n cap : Nat} {bs : List Int} (h : w.ownsRow base 3 1 (.slice (some ⟨g, 0, none⟩) n cap) n (ints bs)) (x : Int) : (w.setCell ⟨g, i, none⟩ (.int .i64 x)).ownsRow base 3 1 (.slice (some ⟨g, 0, none⟩) n cap) n (ints (bs.set i x)) := by
  obtain ⟨h1, h2⟩ := h
  refine ⟨by rw [← ints_set, List.length_set]; exact h1, ?_⟩
  rcases h2 with ⟨h2, _⟩ | ⟨g', cap', cur, e, hb, hh, hn, hm, hs, ht⟩
  · cases h2
  · cases e
    refine .inr ⟨g, cap, cur.setIfInBounds i (.int .i64 x), rfl, hb, blk_set hh i _, hn, hm, by simp [hs], ?_⟩
    rw [← ints_set, ← ht]
    simp [List.take_set]
theorem own_get {w : World} {base g : Nat} {n cap : Nat} {bs : List Int} (h : w.ownsRow base 3 1 (.slice (some ⟨g, 0, none⟩) n cap) n (ints bs)) {i : Nat} (hi : i < bs.length) : w.cell? ⟨g, i, none⟩ = some (.int .i64 (bs[i]?.getD 0)) ∧ w.frozen? ⟨g, i, none⟩ = false := by
  have h0 := h.cells (g := g) rfl i _ (ints_get bs hi)
  rw [add_plain, Nat.zero_add] at h0
  refine ⟨h0, ?_⟩
  rcases h.2 with ⟨h2, _⟩ | ⟨g', cap', cur, e, hb, hh, _⟩
  · cases h2
  · cases e
    exact blk_frozen hh i
/-- The counts when the first rows have grown. -/
def gwK (C : Nat → Nat → Nat) (N : Nat) (h : BitVec 64) (l : Nat) : Nat → Nat → Nat → Nat
  | 0 => C
  | i + 1 => grow1 (gwK C N h l i) N h l i
theorem gwK_all (C : Nat → Nat → Nat) (N : Nat) (h : BitVec 64) (l : Nat) : gwK C N h l 4 = growL N h l rows4 C := rfl
theorem gwK_le {C : Nat → Nat → Nat} (hC : ∀ r j, C r j ≤ 15) (N : Nat) (h : BitVec 64) (l i : Nat) (s j : Nat) : gwK C N h l i s j ≤ 15 := by
  induction i generalizing s j with
  | zero => exact hC s j
  | succ i ih => exact grow1_le ih N h l i s j
theorem rowI_inj {N r j s i : Nat} (hj : j < N) (hi : i < N) (h : r * N + j = s * N + i) : r = s ∧ j = i := by
  have hN : 0 < N := by omega
  have h1 : (r * N + j) / N = r := by rw [Nat.mul_comm, Nat.mul_add_div hN, Nat.div_eq_of_lt hj, Nat.add_zero]
  have h2 : (s * N + i) / N = s := by rw [Nat.mul_comm, Nat.mul_add_div hN, Nat.div_eq_of_lt hi, Nat.add_zero]
  have e : r = s := by rw [← h1, h, h2]
  exact ⟨e, by subst e; omega⟩
/-- A count of the row is written. -/
theorem cnt_grow {l : List Int} {N : Nat} {C : Nat → Nat → Nat} (h : CntIs l N C) {r p v : Nat} (hr : r < 4) (hp : p < N) : CntIs (l.set (r * N + p) ((v : Nat) : Int)) N (fun s i => if s = r ∧ i = p then v else C s i) := by
  refine ⟨by rw [List.length_set]; exact h.len, fun s i hs hi => ?_⟩
  have hlt : s * N + i < l.length := by rw [h.len]; exact rowI_lt hs hi
  by_cases e : s = r ∧ i = p
  · obtain ⟨rfl, rfl⟩ := e
    simp [hlt]
  · rw [if_neg e, List.getElem?_set_ne (fun e' => e ((rowI_inj hp hi e').imp Eq.symm Eq.symm)), h.eq s i hs hi]
theorem rmark_res (w : World) (g : Nat) (N age : Int) (v : Value) (tmps : Array Value) (h2 : tmps.getD 4 undef = .pointer (some ⟨g, 0, none⟩)) (hg : w.heap[g]? = some (.cells (rkC N age v) 30 (0, 0))) :
    (results Try.f18 tmps).run Try.prog w = .ok (.agg (rkC N age v)) w := by
  have h2' : tmps[4]?.getD undef = .pointer (some ⟨g, 0, none⟩) := by simpa using h2
  simp [results, Try.results18, h2', asAddr, run_loadVar_row w g 30 30 (rkC N age v) (0, 0) _ hg Try.underlying30 rfl (rkC_sz N age v)]
theorem own_emptyI (w : World) (base : Nat) (hb : base ≤ w.heap.size) : (w.alloc (.cells #[] 3)).ownsRow base 3 1 (.slice (some ⟨w.heap.size, 0, none⟩) 0 0) ([] : List Int).length (ints []) :=
  World.ownsRow_made w #[] 0 hb (by unfold maxLen; omega) rfl
theorem own_slice1 {w : World} {base n : Nat} {v : Value} {xs : List Value} (h : w.ownsRow base 3 1 v n xs) (hn : 0 < n) : ∃ g c, v = .slice (some ⟨g, 0, none⟩) n c := by
  rcases h.2 with ⟨rfl, h1⟩ | ⟨g, cap, cur, rfl, _⟩
  · omega
  · exact ⟨g, cap, rfl⟩
/-- The box stays while the row is made. -/
theorem mk_cell {w2 w3 : World} {o : Obj} {B : Nat} {cs : Array Value} {t : TypeId} {v3 : Value} {n c : Nat} (hg : (w2.alloc o).grownBy w3 (Value.slice (some ⟨w2.heap.size, 0, none⟩) n c).ownBlock) (_ha : v3.ownBlock = (Value.slice (some ⟨w2.heap.size, 0, none⟩) n c).ownBlock ∨ v3.ownBlock = some (w2.alloc o).heap.size) (hB : (w2.alloc o).heap[B]? = some (.cells cs t (0, 0))) (hlt : B < w2.heap.size) :
    w3.heap[B]? = some (.cells cs t (0, 0)) ∧ True :=
  ⟨(hg.block B (blk_lt hB) (fun e => by
    have e' : w2.heap.size = B := by simpa [Value.ownBlock] using e.symm
    omega)).trans hB, trivial⟩
/-- What a round of the document's Mark keeps: the box B, the result's R, the row. -/
structure MkIn (w : World) (g2 cap T N : Nat) (age : Int) (D : Nat → Nat → Nat) (W : World) : Prop where
  row : ∃ l, W.ownsRow w.heap.size 3 1 (.slice (some ⟨g2, 0, none⟩) T cap) T (ints l) ∧ CntIs l N D
  box : W.heap[w.heap.size]? = some (.cells (rkC N age (.slice (some ⟨g2, 0, none⟩) T cap)) 30 (0, 0))
  res : W.heap[w.heap.size + 1]? = some (.cells (rkC 0 0 (.slice none 0 0)) 30 (0, 0))
  below : Below w.heap.size w W
set_option maxRecDepth 100000 in
set_option maxHeartbeats 4000000 in
theorem rmark_any {n₀ : Nat} {w : World} {a : Option Addr} {c N : Nat} {l : List Int} {C : Nat → Nat → Nat} (hR : RfIs n₀ w a c N l C) (hn₀ : n₀ ≤ w.heap.size) {age : Nat} (ha : age < 10 * N) (h : BitVec 64) :
    Calls Try.prog 18 #[.agg #[.int .i64 (N : Int), .int .i64 (age : Int), .slice a (4 * N) c], .int .u64 (U h)] w (RkDid N (mrkA N age : Nat) (mrkC C N h age) w) := by
  obtain ⟨i0, hi, hz0, hz1, hz2⟩ := info_partsI infoInt
  have hle := hR.wide.le
  have hlen := hR.cnt.len
  have HR := Lib.hid hR
  have HGS := Lib.hid (fun (V : World) (hb : Below w.heap.size w V) => rguess_any (hR.below (hb.mono hn₀)) (Nat.le_trans hn₀ hb.size) (age : Int) h)
  have HROW := Lib.hid (fun (V : World) (hb : Below w.heap.size w V) => hR.row.below (hb.mono hn₀))
  have HPC := Lib.hid (fun (V : World) (b : Option Addr) (n d r : Nat) (hr : r < 4) => rplace_any hR.wide (age : Int) b n d h hr V)
  have HPL := Lib.hid (fun r => plc_lt (N := N) (by omega) h r)
  have hgle := gss_le C N h
  unfold RkDid
  obtain ⟨T, hT⟩ : ∃ T, 4 * N = T := ⟨_, rfl⟩
  rw [hT] at HROW hlen HGS ⊢
  have HT := Lib.hid hT
  have HLEN := Lib.hid hlen
  have HLE := Lib.hid hle
  have HN0 := Lib.hid hn₀
  have HAG := Lib.hid ha
  obtain ⟨w1, hw1⟩ : ∃ w1, (w.alloc (.cells #[.int .i64 (N : Int), .int .i64 (age : Int), .slice a T c] 30)).alloc (.cells (rkC 0 0 (.slice none 0 0)) 30) = w1 := ⟨_, rfl⟩
  have hb1 : Below w.heap.size w w1 := by rw [← hw1]; exact ((Below.refl _ w).alloc (Nat.le_refl _) _).alloc (by simp) _
  have hk1 : w1.heap[w.heap.size]? = some (.cells (rkC N (age : Int) (.slice a T c)) 30 (0, 0)) := by rw [← hw1]; exact blk_alloc (heap_alloc_new _ _) _
  have hk2 : w1.heap[w.heap.size + 1]? = some (.cells (rkC 0 0 (.slice none 0 0)) 30 (0, 0)) := by
    rw [← hw1]
    have := heap_alloc_new (w.alloc (.cells #[.int .i64 (N : Int), .int .i64 (age : Int), .slice a T c] 30)) (.cells (rkC 0 0 (.slice none 0 0)) 30)
    rwa [World.size_alloc] at this
  have hz1 : w1.heap.size = w.heap.size + 2 := by rw [← hw1]; simp
  have HW1 := Lib.hid hw1
  have HB1 := Lib.hid hb1
  have HK1 := Lib.hid hk1
  have HK2 := Lib.hid hk2
  have HZ1 := Lib.hid hz1
  have q0 : w1.cell? ⟨w.heap.size, 0, none⟩ = some (.int .i64 (N : Int)) := blk_cell hk1 0
  have q1 : w1.cell? ⟨w.heap.size, 1, none⟩ = some (.int .i64 (age : Int)) := blk_cell hk1 1
  have q2 : w1.cell? ⟨w.heap.size, 2, none⟩ = some (.slice a T c) := blk_cell hk1 2
  clear hw1 hb1 hk1 hk2 hz1 hle hlen hT hn₀ hR ha
  obtain ⟨m, hm⟩ : ∃ m, gss C N h = m := ⟨_, rfl⟩
  rw [hm] at HGS hgle
  have HM := Lib.hid hm
  clear hm
  have HGL := Lib.hid hgle
  clear hgle
  go_enter Try.func18, Try.ntmps18
  go_upto_region 1 with fail
  change Code.wp _ _ _ _ ((w.alloc (.cells #[.int .i64 (N : Int), .int .i64 (age : Int), .slice a T c] 30)).alloc (.cells (rkC 0 0 (.slice none 0 0)) 30))
  rw [HW1.out]
  clear HW1
  go_upto_region 2 with (go_at_call 20; (with_reducible refine (HGS.out _ HB1.out).mono ?_); rintro e w2 ⟨rfl, hb2⟩)
  have hk1' := (hb2.block _ (blk_lt HK1.out)).trans HK1.out
  have HB2 := Lib.hid (HB1.out.trans (hb2.mono HB1.out.size))
  have HK2' := Lib.hid ((hb2.block _ (blk_lt HK2.out)).trans HK2.out)
  have HK3 := Lib.hid hk1'
  have hsz2 := hb2.size
  have HZ2 := Lib.hid (show w.heap.size + 2 ≤ w2.heap.size by have := HZ1.out; omega)
  have q2 : (w2.alloc (.cells #[] 3)).cell? ⟨w.heap.size, 2, none⟩ = some (.slice a T c) := blk_cell (blk_alloc hk1' _) 2
  clear hb2 q0 q1 hk1' hsz2
  go_upto_region 3 with (at_builtin; go_must (refine wpList_append_ints rfl (.tmp 11) (.tmp 13) rfl rfl w.heap.size i0 hi hz0 hz1 hz2 _ rfl [] (own_emptyI w2 w.heap.size HB2.out.size) _ rfl w.heap.size l ((HROW.out _ (HB2.out.alloc HB2.out.size _)).mono HN0.out) (by have := HLEN.out; have := HT.out; have := HLE.out; simp; omega) (by have := HB2.out.size; simp; omega) ?_); intro v3 w3 n3 HN3 hown3 hgrow3 hat3; have en3 : n3 = T := (by have h9 := HN3.out; have h8 := HLEN.out; rw [h9]; simpa using h8); have HG3 := Lib.hid hgrow3; have q3 := (mk_cell hgrow3 hat3 (blk_alloc HK3.out _) (blk_lt HK3.out)).1; have c3 : w3.cell? ⟨w.heap.size, 2, none⟩ = some (.slice a T c) := blk_cell q3 2; have f3 := blk_frozen q3 2; have r3 := (mk_cell hgrow3 hat3 (blk_alloc HK2'.out _) (blk_lt HK2'.out)).1; have Q3 := Lib.hid q3; have R3 := Lib.hid r3; have HB3 := Lib.hid ((HB2.out.alloc HB2.out.size _).grown hgrow3 (by have := HB2.out.size; simp; omega) (fun k e => (own_emptyI w2 w.heap.size HB2.out.size).lt k e |>.1)); obtain ⟨g3, cap3, rfl⟩ := own_slice1 hown3 (by have := HT.out; have := HLE.out; omega); have HO3 := Lib.hid hown3; have HA3 := Lib.hid hat3; have en4 := en3.symm; subst en4; clear HN3 hown3 hgrow3 hat3 q3 r3)
  obtain ⟨w4, hw4⟩ : ∃ w4, w3.setCell ⟨w.heap.size, 2, none⟩ (.slice (some ⟨g3, 0, none⟩) T cap3) = w4 := ⟨_, rfl⟩
  have hge := (HO3.out.lt g3 rfl).1
  have hgl := (HO3.out.lt g3 rfl).2
  have hneg : (Value.slice (some ⟨g3, 0, none⟩) T cap3).ownBlock ≠ some w.heap.size := own_ne HO3.out Q3.out (by decide)
  have H4 : Hid (MkIn w g3 cap3 T N (age : Int) C w4) := by
    rw [← hw4]
    refine ⟨⟨l, ownsRow_setCell_other (a := ⟨w.heap.size, 2, none⟩) HO3.out hneg _, HR.out.cnt⟩, blk_set Q3.out 2 _, (Below.heap_setCell _ _ _ _ (by show w.heap.size + 1 ≠ w.heap.size; omega)).trans R3.out, HB3.out.setCell (p := ⟨w.heap.size, 2, none⟩) (Nat.le_refl _) _⟩
  rw [hw4]
  have HG0 : Hid (gwK C N h m 0 = C) := rfl
  rw [← HG0.out] at H4
  clear hw4 c3 f3 q2 hge hgl hneg HG3 HO3 HA3 Q3 R3 HB3 HROW HGS HG0
  go_wp2
  go_loopw [6, 7] (fun v _ W => ∃ i : Nat, i ≤ 4 ∧ v = .int .i64 (i : Int) ∧ MkIn w g3 cap3 T N (age : Int) (gwK C N h m i) W) (fun v _ _ => 4 - (intOf v).toNat)
  case atStart => exact ⟨0, Nat.zero_le _, rfl, H4.out⟩
  case round =>
    obtain ⟨i, hi4, rfl, hmk⟩ := hrel
    have HMK := Lib.hid hmk
    have d0 : wr.cell? ⟨w.heap.size, 0, none⟩ = some (.int .i64 (N : Int)) := blk_cell hmk.box 0
    have d1 : wr.cell? ⟨w.heap.size, 1, none⟩ = some (.int .i64 (age : Int)) := blk_cell hmk.box 1
    have d2 : wr.cell? ⟨w.heap.size, 2, none⟩ = some (.slice (some ⟨g3, 0, none⟩) T cap3) := blk_cell hmk.box 2
    by_cases hlt : i < 4
    · obtain ⟨li, ho, hc⟩ := hmk.row
      have hpl := HPL.out i
      have hK := rowI_lt hlt hpl
      have hget := own_get ho (i := i * N + plc N h i) (by rw [hc.len]; exact hK)
      rw [hc.eq i _ hlt hpl] at hget
      have HGW : Hid (gwK C N h m (i + 1) = grow1 (gwK C N h m i) N h m i) := rfl
      unfold grow1 at HGW
      have HPI := Lib.hid (fun V => HPC.out V (some ⟨g3, 0, none⟩) T cap3 i hlt)
      have HGG := Lib.hid (fun v => cnt_grow hc (r := i) (p := plc N h i) (v := v) hlt hpl)
      have HOS := Lib.hid (fun (V : World) (x : Int) (h9 : V.ownsRow w.heap.size 3 1 (.slice (some ⟨g3, 0, none⟩) T cap3) T (ints li)) => own_setI (i := i * N + plc N h i) h9 x)
      have hx15 := gwK_le HR.out.small N h m i i (plc N h i)
      obtain ⟨p, hp⟩ : ∃ p, plc N h i = p := ⟨_, rfl⟩
      rw [hp] at hK hget HGW HPI HGG HOS hx15
      obtain ⟨K, hKK⟩ : ∃ K, i * N + p = K := ⟨_, rfl⟩
      rw [hKK] at hK hget HPI HGG HOS
      obtain ⟨D, hD⟩ : ∃ D, gwK C N h m i = D := ⟨_, rfl⟩
      rw [hD] at hget HGW HGG hx15 hmk HMK hc
      obtain ⟨x, hx⟩ : ∃ x, D i p = x := ⟨_, rfl⟩
      rw [hx] at hget HGW hx15
      have k1 : (K : Int) < (T : Int) := by have := HT.out; omega
      have HLT := Lib.hid hlt
      have HBK : Hid (∀ V, Below wr.heap.size wr V → MkIn w g3 cap3 T N (age : Int) D V ∧ V.ownsRow w.heap.size 3 1 (.slice (some ⟨g3, 0, none⟩) T cap3) T (ints li) ∧ (V.cell? ⟨g3, K, none⟩ = some (.int .i64 (x : Int)) ∧ V.frozen? ⟨g3, K, none⟩ = false) ∧ V.cell? ⟨w.heap.size, 2, none⟩ = some (.slice (some ⟨g3, 0, none⟩) T cap3)) := fun V hb => by
        have hbox := (hb.block _ (blk_lt HMK.out.box)).trans HMK.out.box
        have ho' := ownsRow_below ho hb
        have h9 := own_get ho' (i := K) (by rw [hc.len]; exact hK)
        have h8 : li[K]?.getD 0 = (x : Int) := by have h7 := own_get ho (i := K) (by rw [hc.len]; exact hK); have h6 := h7.1.symm.trans hget.1; simpa using h6
        rw [h8] at h9
        exact ⟨⟨⟨li, ho', hc⟩, hbox, (hb.block _ (blk_lt HMK.out.res)).trans HMK.out.res, HMK.out.below.trans (hb.mono HMK.out.below.size)⟩, ho', h9, blk_cell hbox 2⟩
      have HN9 : Hid ((Value.slice (some ⟨g3, 0, none⟩) T cap3).ownBlock ≠ some w.heap.size ∧ (Value.slice (some ⟨g3, 0, none⟩) T cap3).ownBlock ≠ some (w.heap.size + 1)) := ⟨own_ne ho hmk.box (by decide), own_ne ho hmk.res (by decide)⟩
      have HGE := Lib.hid (ho.lt g3 rfl).1
      have i4 : (i : Int) < 4 := by omega
      clear hpl hK hget ho hc hp hKK hD hx hmk hi4 hlt
      by_cases h1 : x = m
      · by_cases h2 : m < 15
        · have e1 : ((x : Int) == (m : Int)) = true := by rw [h1]; exact beq_self_eq_true _
          have e2 : (m : Int) < 15 := by omega
          have e3 : wrap64 ((x : Int) + 1) = ((x + 1 : Nat) : Int) := by rw [IntWalk.wrap64_in _ ⟨by omega, by omega⟩]; omega
          rw [if_pos ⟨h1, by omega⟩] at HGW
          clear h1 h2 hx15
          go_wp2_with (go_at_call 30; (with_reducible refine (HPI.out _).mono ?_); rintro e w8 ⟨rfl, hb8⟩; obtain ⟨m8, o8, ⟨c8, f8⟩, b8⟩ := HBK.out _ hb8; have M8 := Lib.hid m8; have O8 := Lib.hid o8; clear hb8 m8 o8 d0 d1 d2)
          have hF : MkIn w g3 cap3 T N (age : Int) (gwK C N h m (i + 1)) (w8.setCell ⟨g3, K, none⟩ (.int .i64 ((x + 1 : Nat) : Int))) := by
            rw [HGW.out]
            refine ⟨⟨_, HOS.out _ _ O8.out, HGG.out (x + 1)⟩, (Below.heap_setCell w8 ⟨g3, K, none⟩ _ _ (fun e => HN9.out.1 (congrArg some e.symm))).trans M8.out.box, (Below.heap_setCell w8 ⟨g3, K, none⟩ _ _ (fun e => HN9.out.2 (congrArg some e.symm))).trans M8.out.res, M8.out.below.setCell (p := ⟨g3, K, none⟩) HGE.out _⟩
          have HFF := Lib.hid hF
          clear hF
          go_roundw
          case rel => exact ⟨i + 1, HLT.out, by go_num, HFF.out⟩
          case measure => have := HLT.out; simp [intOf]; omega
        · have e1 : ((x : Int) == (m : Int)) = true := by rw [h1]; exact beq_self_eq_true _
          have e2 : ¬ (m : Int) < 15 := by omega
          rw [if_neg (fun e => h2 (by have := e.2; omega))] at HGW
          clear h1 h2 hx15
          go_wp2_with (go_at_call 30; (with_reducible refine (HPI.out _).mono ?_); rintro e w8 ⟨rfl, hb8⟩; obtain ⟨m8, o8, ⟨c8, f8⟩, b8⟩ := HBK.out _ hb8; have M8 := Lib.hid m8; clear hb8 m8 o8 d0 d1 d2)
          go_roundw
          case rel => exact ⟨i + 1, HLT.out, by go_num, by rw [HGW.out]; exact M8.out⟩
          case measure => have := HLT.out; simp [intOf]; omega
      · have e1 : ((x : Int) == (m : Int)) = false := beq_eq_false_iff_ne.2 (by omega)
        rw [if_neg (fun e => h1 e.1)] at HGW
        clear h1 hx15
        go_wp2_with (go_at_call 30; (with_reducible refine (HPI.out _).mono ?_); rintro e w8 ⟨rfl, hb8⟩; obtain ⟨m8, o8, ⟨c8, f8⟩, b8⟩ := HBK.out _ hb8; have M8 := Lib.hid m8; clear hb8 m8 o8 d0 d1 d2)
        go_roundw
        case rel => exact ⟨i + 1, HLT.out, by go_num, by rw [HGW.out]; exact M8.out⟩
        case measure => have := HLT.out; simp [intOf]; omega
    · obtain rfl : i = 4 := by omega
      rw [gwK_all] at HMK
      have f1 : wr.frozen? ⟨w.heap.size, 1, none⟩ = false := blk_frozen hmk.box 1
      have e1 : wrap64 ((age : Int) + 1) = ((age + 1 : Nat) : Int) := by have := HAG.out; have := HLE.out; rw [IntWalk.wrap64_in _ ⟨by omega, by omega⟩]; omega
      have e2 : wrap64 (10 * (N : Int)) = ((10 * N : Nat) : Int) := by have := HLE.out; rw [IntWalk.wrap64_in _ ⟨by omega, by omega⟩]; omega
      have HBX := Lib.hid hmk.box
      clear hmk
      go_upto_region 10 with fail
      have hbx2 := blk_set HBX.out 1 (.int .i64 ((age + 1 : Nat) : Int))
      have hd : (wr.setCell ⟨w.heap.size, 1, none⟩ (.int .i64 ((age + 1 : Nat) : Int))).cell? ⟨w.heap.size, 0, none⟩ = some (.int .i64 (N : Int)) ∧ (wr.setCell ⟨w.heap.size, 1, none⟩ (.int .i64 ((age + 1 : Nat) : Int))).cell? ⟨w.heap.size, 1, none⟩ = some (.int .i64 ((age + 1 : Nat) : Int)) ∧ (wr.setCell ⟨w.heap.size, 1, none⟩ (.int .i64 ((age + 1 : Nat) : Int))).cell? ⟨w.heap.size, 2, none⟩ = some (.slice (some ⟨g3, 0, none⟩) T cap3) := ⟨blk_cell hbx2 0, blk_cell hbx2 1, blk_cell hbx2 2⟩
      obtain ⟨l4, ho4, hc4⟩ := HMK.out.row
      have hneb : (Value.slice (some ⟨g3, 0, none⟩) T cap3).ownBlock ≠ some w.heap.size := own_ne ho4 HBX.out (by decide)
      have ho5 := ownsRow_setCell_other (a := ⟨w.heap.size, 1, none⟩) ho4 hneb (.int .i64 ((age + 1 : Nat) : Int))
      have hr5 : (wr.setCell ⟨w.heap.size, 1, none⟩ (.int .i64 ((age + 1 : Nat) : Int))).heap[w.heap.size + 1]? = some (.cells (rkC 0 0 (.slice none 0 0)) 30 (0, 0)) := (Below.heap_setCell _ _ _ _ (by show w.heap.size + 1 ≠ w.heap.size; omega)).trans HMK.out.res
      have hb5 : Below w.heap.size w (wr.setCell ⟨w.heap.size, 1, none⟩ (.int .i64 ((age + 1 : Nat) : Int))) := HMK.out.below.setCell (p := ⟨w.heap.size, 1, none⟩) (Nat.le_refl _) _
      obtain ⟨w5, hw5⟩ : ∃ w5, wr.setCell ⟨w.heap.size, 1, none⟩ (.int .i64 ((age + 1 : Nat) : Int)) = w5 := ⟨_, rfl⟩
      change Code.wp _ _ _ _ (wr.setCell ⟨w.heap.size, 1, none⟩ (.int .i64 ((age + 1 : Nat) : Int)))
      rw [hw5] at hd ho5 hr5 hb5 ⊢
      obtain ⟨s0, s1, s2⟩ := hd
      have hrf : RfIs w5.heap.size w5 (some ⟨g3, 0, none⟩) cap3 N l4 (growL N h m rows4 C) := by
        refine ⟨HR.out.wide, fun r j => by rw [← gwK_all]; exact gwK_le HR.out.small N h m 4 r j, ?_, hc4, fun g off e => ?_⟩
        · have := IntsAt.of_owns ho5 (by rw [hc4.len, HT.out])
          rw [HT.out]; exact this
        · cases e
          rcases ho5.2 with ⟨e, _⟩ | ⟨g', c', cur, e, _, hh, _⟩
          · cases e
          · cases e; exact ⟨_, _, hh⟩
      have HRF := Lib.hid hrf
      have HRB := Lib.hid hr5
      have HB5 := Lib.hid hb5
      have HHV := Lib.hid (rhalve_any hrf (Nat.le_refl _) ((age : Int) + 1))
      unfold RkDid at HHV
      rw [HT.out] at HHV
      clear hw5 hbx2 ho4 hc4 hneb ho5 hr5 hb5 hrf d0 d1 d2 f1 hi4 hlt e1
      have s5 : w5.cell? ⟨w.heap.size + 1, 0, none⟩ = some (.int .i64 0) := blk_cell HRB.out 0
      by_cases hq : age + 1 = 10 * N
      · have e5 : (((age + 1 : Nat) : Int) == ((10 * N : Nat) : Int)) = true := by rw [hq]; exact beq_self_eq_true _
        have hA : mrkA N age = 0 := if_pos hq
        have hC : mrkC C N h age = hlv (growL N h m rows4 C) := by unfold mrkC; rw [if_pos hq, HM.out]
        have HAC := Lib.hid (And.intro hA hC)
        clear hA hC hq
        go_wp2_with (first
          | (go_at_call 14; go_loud (with_reducible refine HHV.out.mono ?_); rintro e w6 ⟨a6, c6, l6, rfl, hf6, hb6⟩; have HF6 := Lib.hid hf6; have HB6 := Lib.hid hb6; have HR6 := Lib.hid ((hb6.block _ (blk_lt HRB.out)).trans HRB.out); clear hf6 hb6 s0 s1 s2 s5)
          | (refine wpList_store_row (o := ⟨none, _, _, _, _, _⟩) rfl 30 (.tmp 4) (.tmp 53) rfl (w.heap.size + 1) (rkC N 0 (.slice a6 T c6)) rfl rfl 30 (rkC 0 0 (.slice none 0 0)) HR6.out (rkC_sz _ _ _) rfl ?_ ?_; exact rkC_one _ _ _ _ _))
        refine bodyPost_ret (rmark_res _ (w.heap.size + 1) N 0 _ _ rfl (setRow_heap1 _ _ _ _ _ _ HR6.out)) rfl ?_
        rw [HAC.out.1, HAC.out.2]
        refine ⟨a6, c6, l6, rfl, HF6.out.moved ?_ fun g off e hg => ?_, below_setRow1 (HB5.out.trans (HB6.out.mono HB5.out.size)) (Nat.le_succ _) _⟩
        · simp [World.setRow]
        · subst e
          obtain ⟨cs, z, hcs⟩ := HF6.out.typ g off rfl
          exact setRow_other1 _ _ _ _ (fun e => by rw [e, HR6.out] at hcs; cases hcs)
      · have e5 : (((age + 1 : Nat) : Int) == ((10 * N : Nat) : Int)) = false := beq_eq_false_iff_ne.2 (by omega)
        have hA : mrkA N age = age + 1 := if_neg hq
        have hC : mrkC C N h age = growL N h m rows4 C := by unfold mrkC; rw [if_neg hq, HM.out]
        have HAC := Lib.hid (And.intro hA hC)
        clear hA hC hq HHV
        go_wp2_with (refine wpList_store_row (o := ⟨none, _, _, _, _, _⟩) rfl 30 (.tmp 4) (.tmp 54) rfl (w.heap.size + 1) (rkC N ((age + 1 : Nat) : Int) (.slice (some ⟨g3, 0, none⟩) T cap3)) rfl rfl 30 (rkC 0 0 (.slice none 0 0)) HRB.out (rkC_sz _ _ _) rfl ?_ ?_; exact rkC_one _ _ _ _ _)
        refine bodyPost_ret (rmark_res _ (w.heap.size + 1) N ((age + 1 : Nat) : Int) _ _ rfl (setRow_heap1 _ _ _ _ _ _ HRB.out)) rfl ?_
        rw [HAC.out.1, HAC.out.2]
        refine ⟨some ⟨g3, 0, none⟩, cap3, l4, rfl, HRF.out.moved ?_ fun g off e hg => ?_, below_setRow1 HB5.out (Nat.le_succ _) _⟩
        · simp [World.setRow]
        · cases e
          obtain ⟨cs, z, hcs⟩ := HRF.out.typ g3 0 rfl
          exact setRow_other1 _ _ _ _ (fun e => by rw [e, HRB.out] at hcs; cases hcs)
end Go.Proofs.Ytalgkiagdjckiaa

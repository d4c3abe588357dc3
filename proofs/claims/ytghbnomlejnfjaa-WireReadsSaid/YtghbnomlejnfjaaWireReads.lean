/-
  Proved: what any calls of a reader read of any bytes is what the document says. Whatever comes in, the law WireReads answers true and the arguments read as they did.
  Conditions: none.
-/
import Derived.Test.YtghbnomlejnfjaaActs03
import Derived.Test.YtghbnomlejnfjaaRef03b
import Derived.Test.YtghbnomlejnfjaaWireLimits
import Derived.Deep.CutBlock
namespace Go.Proofs.Ytghbnomlejnfjaa
open Go.ChangeShapes Go.WideShapes Go.ChangeAt Go.RowKit

/-- The reader and the reference, each with what it has. -/
structure Pair (w : World) (R X : Nat) (left : List (BitVec 8)) (bad : Bool) (left' : List (BitVec 8)) (bad' : Bool) (wr : World) : Prop where
  reader : ∃ v, ReaderAt wr R v left bad
  ref : ∃ u, wr.heap[X]? = some (.cells #[u, .bool bad'] 49 (0, 0)) ∧ BytesAt w.heap.size wr u left'
  below : Below w.heap.size w wr
  far : w.heap.size ≤ R ∧ w.heap.size ≤ X ∧ R ≠ X
section
variable {w wr w2 : World} {R X : Nat} {left left' l1 : List (BitVec 8)} {bad bad' b1 : Bool}
theorem Pair.Rlt (h : Pair w R X left bad left' bad' wr) : R < wr.heap.size := by obtain ⟨v, hv⟩ := h.reader; exact blk_lt hv.blk
theorem Pair.Xlt (h : Pair w R X left bad left' bad' wr) : X < wr.heap.size := by obtain ⟨u, hu, _⟩ := h.ref; exact blk_lt hu
theorem Pair.on (h : Pair w R X left bad left' bad' wr) (hb : Below wr.heap.size wr w2) : Pair w R X left bad left' bad' w2 := by
  obtain ⟨v, hv⟩ := h.reader
  obtain ⟨u, hu, hub⟩ := h.ref
  exact ⟨⟨v, hv.below hb⟩, ⟨u, (hb.block X (blk_lt hu)).trans hu, hub.below (hb.mono h.below.size)⟩, h.below.trans (hb.mono h.below.size), h.far⟩
theorem Pair.refStep (h : Pair w R X left bad left' bad' wr) (hb : Below wr.heap.size wr w2) {u' : Value} (hu : BytesAt w.heap.size wr u' l1) : Pair w R X left bad l1 b1 ((w2.setCell ⟨X, 0, none⟩ u').setCell ⟨X, 1, none⟩ (.bool b1)) := by
  have h2 := h.on hb
  obtain ⟨v, hv⟩ := h2.reader
  obtain ⟨u, hX, _⟩ := h2.ref
  have hm : Moves (fun k => k = X) w2 ((w2.setCell ⟨X, 0, none⟩ u').setCell ⟨X, 1, none⟩ (.bool b1)) := ((Moves.refl (fun k => k = X) w2).setCell (p := ⟨X, 0, none⟩) (fun _ => rfl) _).setCell (p := ⟨X, 1, none⟩) (fun _ => rfl) _
  have hB : Below w.heap.size w2 ((w2.setCell ⟨X, 0, none⟩ u').setCell ⟨X, 1, none⟩ (.bool b1)) := hm.below (fun i hi => by subst hi; exact h.far.2.1) h2.below.size
  refine ⟨⟨v, (hm.block R (blk_lt hv.blk) h.far.2.2).trans hv.blk, ?_⟩, ⟨u', blk_set (blk_set hX 0 _) 1 _, (hu.below (hb.mono h.below.size)).below hB⟩, h2.below.trans hB, h.far⟩
  refine (hv.bytes.keep fun hne p hp hlt => hm.cell hlt fun hpX => ?_).mono hm.size
  have hpX : p.block = X := hpX
  obtain ⟨a, cap, rfl, _, _, hc⟩ := hv.bytes
  rcases hc with hc | ⟨g, off, rfl, _, hc⟩
  · exact hne hc
  · have hg : g = X := by
      have : g = p.block := by simpa [Value.ownBlock] using hp
      omega
    subst hg
    have h1 := hc 0 (List.length_pos_iff.2 hne)
    rw [blk_cell hX] at h1
    match off with
    | 0 => 
      have : u = .int .u8 (U (left[0]?.getD 0)) := by simpa using h1
      obtain ⟨u2, hX2, hub2⟩ := h2.ref
      rw [hX] at hX2
      have hX2 : u = u2 := by simpa using hX2
      obtain ⟨_, _, e, _⟩ := hub2
      rw [← hX2, this] at e
      cases e
    | 1 => simp at h1
    | k + 2 => simp at h1
theorem Pair.refBelow (h : Pair w R X left bad left' bad' wr) (hb : Below wr.heap.size wr w2) (u' : Value) (b1 : Bool) : Below w.heap.size wr ((w2.setCell ⟨X, 0, none⟩ u').setCell ⟨X, 1, none⟩ (.bool b1)) :=
  ((hb.mono h.below.size).setCell (p := ⟨X, 0, none⟩) h.far.2.1 _).setCell (p := ⟨X, 1, none⟩) h.far.2.1 _
theorem Pair.readStep (h : Pair w R X left bad left' bad' wr) {v' : Value} (hr : ReaderAt w2 R v' l1 b1) (hm : Moves (rS R) wr w2) : Pair w R X l1 b1 left' bad' w2 := by
  obtain ⟨u, hX, hu⟩ := h.ref
  have hB : Below w.heap.size wr w2 := hm.below (fun i hi => by have hi : i = R := hi; subst hi; exact h.far.1) h.below.size
  exact ⟨⟨v', hr⟩, ⟨u, (hm.block X (blk_lt hX) (fun e => h.far.2.2 (show X = R from e).symm)).trans hX, hu.below hB⟩, h.below.trans hB, h.far⟩
end
theorem readBelow {w wr w2 : World} {R : Nat} (hR : w.heap.size ≤ R) (hs : w.heap.size ≤ wr.heap.size) (hm : Moves (rS R) wr w2) : Below w.heap.size wr w2 := hm.below (fun i hi => by have hi : i = R := hi; subst hi; exact hR) hs
theorem takenB_len (left : List (BitVec 8)) (n : Option Nat) : (takenB left n).length ≤ left.length := by
  cases n <;> simp [takenB]
  omega

set_option maxRecDepth 100000 in
set_option maxHeartbeats 4000000 in
theorem wireReads_walk (bs : List (BitVec 8)) (v0 : Value) (l : List Act3) (v : Value) (w : World) (hv0 : BytesAt w.heap.size w v0 bs) (hm0 : bs.length ≤ maxLen) (hv : ActsAt w.heap.size w v l) (hm : l.length ≤ maxLen) : Calls Try.prog 6 #[v0, v] w (Good w) := by
  have HL := Lib.hid (light_any l v w hv hm)
  unfold maxLen at hm hm0
  have hv1 := hv0
  obtain ⟨a0, cap0, rfl, _, _, _⟩ := hv1
  obtain ⟨a, cap, rfl, hcap, hwf, hv⟩ := hv
  cases hlight : lightB l with
  | false =>
    rw [hlight] at HL
    clear hlight hwf hv hv0
    go_enter Try.func6, Try.ntmps6
    go_wp2_with (go_at_call 18; refine HL.out.mono ?_; rintro e w' ⟨rfl, rfl⟩)
    go_ret
    exact ⟨rfl, Below.refl _ _⟩
  | true =>
    rw [hlight] at HL
    have hl40 : l.length ≤ 40 := by simp [lightB] at hlight; exact hlight.1
    have b1 : (l.length : Int) ≤ 40 := by omega
    clear hlight
    by_cases hbig : 2000 < bs.length
    · have b2 : (2000 : Int) < bs.length := by omega
      clear hwf hv hv0 hbig
      go_enter Try.func6, Try.ntmps6
      go_wp2_with (go_at_call 18; refine HL.out.mono ?_; rintro e w' ⟨rfl, rfl⟩)
      go_ret
      exact ⟨rfl, Below.refl _ _⟩
    have b2 : (bs.length : Int) ≤ 2000 := by omega
    have HNR := Lib.hid (newReader_any _ bs w hv0 (by omega))
    have HV0 := Lib.hid hv0
    have HW := Lib.hid hwf
    clear hv0 hwf
    go_enter Try.func6, Try.ntmps6
    go_wp2_with (first
      | (go_at_call 18; refine HL.out.mono ?_; rintro e w' ⟨rfl, rfl⟩)
      | (go_at_call 28; refine HNR.out.mono ?_; rintro e w1 ⟨R, vr, rfl, hR, hr, hb, hown⟩; have HR := Lib.hid hr; have HB := Lib.hid hb; clear hr hb hown))
    go_loopw [7] (fun iv wr => ∃ (k : Nat) (left : List (BitVec 8)) (bad : Bool), k ≤ l.length ∧ iv = .int .i64 k ∧ left.length ≤ 2000 ∧ Pair w R w1.heap.size left bad left bad wr) (fun iv _ => l.length - (intOf iv).toNat)
    case atStart =>
      refine ⟨0, bs, false, Nat.zero_le _, rfl, by omega, ⟨vr, HR.out.below ((Below.refl _ _).alloc (Nat.le_refl _) _)⟩, ⟨_, heap_alloc_new _ _, (HV0.out.below HB.out).below ((Below.refl _ _).alloc HB.out.size _)⟩, HB.out.alloc HB.out.size _, hR, HB.out.size, ?_⟩
      have := blk_lt HR.out.blk
      omega
    case round =>
      obtain ⟨k, left, bad, hk, rfl, hl2, hA⟩ := hrel
      by_cases hlt : k < l.length
      · rcases hv with h | ⟨g, off, rfl, hg, hc⟩
        · subst h; simp at hlt
        have HAct := Lib.hid ((hc k hlt).below hA.below hg)
        have k0 : (0 : Int) ≤ k := by omega
        have k1 : (k : Int) < l.length := by omega
        generalize l[k]?.getD default = x at HAct
        clear hc
        obtain ⟨c0, c1, c2, u, c3, hu⟩ := HAct.out
        clear hu c3
        have HA := Lib.hid hA
        clear hA
        go_upto_region 9 with (fail)
        go_cut [9] (fun s9 wx => s9 = .bool (mayB x.len) ∧ wr = wx)
        case first =>
          by_cases h1 : x.len = 1
          · have HM : Hid (Value.bool true = .bool (mayB x.len)) := by simp [mayB, h1, Hid]
            have e1 : (x.len == 1) = true := by simpa using h1
            clear h1
            go_wp2_with fail
            go_meet
            exact ⟨HM.out, rfl⟩
          have e1 : (x.len == 1) = false := by simpa using h1
          by_cases h2 : x.len = 2
          · have HM : Hid (Value.bool true = .bool (mayB x.len)) := by simp [mayB, h2, Hid]
            have e2 : (x.len == 2) = true := by simpa using h2
            clear h1 h2
            go_wp2_with fail
            go_meet
            exact ⟨HM.out, rfl⟩
          have e2 : (x.len == 2) = false := by simpa using h2
          by_cases h4 : x.len = 4
          · have HM : Hid (Value.bool true = .bool (mayB x.len)) := by simp [mayB, h4, Hid]
            have e4 : (x.len == 4) = true := by simpa using h4
            clear h1 h2 h4
            go_wp2_with fail
            go_meet
            exact ⟨HM.out, rfl⟩
          have e4 : (x.len == 4) = false := by simpa using h4
          have HM : Hid (Value.bool (x.len == 8) = .bool (mayB x.len)) := by simp [mayB, h1, h2, h4, Hid]; rfl
          clear h1 h2 h4
          go_wp2_with fail
          go_meet
          exact ⟨HM.out, rfl⟩
        case rest =>
          obtain ⟨rfl, rfl⟩ := hcut
          go_upto_block 2 with (fail)
          go_cut [9, 10] (fun _s9 _s10 wx => ∃ (left' : List (BitVec 8)) (bad' : Bool), left'.length ≤ 2000 ∧ Pair w R w1.heap.size left' bad' left' bad' wx)
          case first =>
            obtain ⟨u, hX, hub⟩ := HA.out.ref
            obtain ⟨vr1, hr1⟩ := HA.out.reader
            have hgX : g ≠ w1.heap.size := by have := HB.out.size; omega
            have hXg : w1.heap.size ≠ g := fun e => hgX e.symm
            have x0 : wr.cell? ⟨w1.heap.size, 0, none⟩ = some u := blk_cell hX 0
            have x1 : wr.cell? ⟨w1.heap.size, 1, none⟩ = some (.bool bad) := blk_cell hX 1
            have hub1 := hub
            obtain ⟨au, cu, rfl, _⟩ := hub1
            cases hk0 : ((wrap64 (x.kind.tmod 3 + 3)).tmod 3 == 0) with
            | true =>
              cases hmay : mayB x.len with
              | true =>
                have ht := refTake_any _ left bad x.len w.heap.size wr hub (by omega)
                have hn := fun W v (h : ReaderAt W R v left bad) => rnumber_any R v left bad x.len W h (by omega)
                rw [hmay] at hn
                have h8 : (takenB left (tookN left true x.len)).length ≤ 8 := by
                  have : x.len = 1 ∨ x.len = 2 ∨ x.len = 4 ∨ x.len = 8 := by simpa [mayB] using hmay
                  unfold tookN
                  split
                  · simp [takenB]; omega
                  · simp [takenB]
                have hl3 := leftB_len left (tookN left true x.len)
                unfold RefTook at ht
                generalize tookN left true x.len = tn at ht hn h8 hl3
                have he := refOf_eq (takenB left tn) h8
                generalize takenB left tn = tk at ht hn h8 he
                generalize leftB left tn = lf at ht hn hl3
                generalize badB bad tn = bd at ht hn
                have HE := Lib.hid he
                have HT := Lib.hid ht
                have HN := Lib.hid hn
                have HX := Lib.hid hX
                clear ht hn hX hub he hr1
                go_wp2_with (first
                  | (go_at_call 29; refine HT.out.mono ?_; rintro e w2 ⟨u2, uw, rfl, hu2, huw, hb2⟩; obtain ⟨a2, cp2, rfl, _, _, _⟩ := id hu2; have hX2 := (hb2.block _ (blk_lt HX.out)).trans HX.out; have y0 := blk_cell hX2 0; have y1 := blk_cell hX2 1; have yf := blk_frozen hX2; have d1 := (HAct.out.below (hb2.mono HA.out.below.size) hg).2.1; have HP2 := Lib.hid (HA.out.refStep (b1 := bd) hb2 hu2); have HW2 := Lib.hid (huw.below (HA.out.refBelow hb2 (.slice a2 lf.length cp2) bd)); obtain ⟨aw, cw, rfl, _, _, _⟩ := id huw; clear hu2 huw hb2 hX2)
                  | (go_at_call 30; obtain ⟨vr3, hr3⟩ := HP2.out.reader; refine (HN.out _ vr3 hr3).mono ?_; rintro e w4 ⟨rfl, v4, hr4, hm4⟩; have HP4 := Lib.hid (HP2.out.readStep hr4 hm4); have HW4 := Lib.hid (HW2.out.below (readBelow HA.out.far.1 HP2.out.below.size hm4)); clear hr3 hr4 hm4)
                  | (go_at_call 31; refine (refOf_any w.heap.size tk _ w4 HW4.out (by omega)).mono ?_; rintro e w5 ⟨rfl, rfl⟩; rw [HE.out]))
                go_meet
                exact ⟨lf, bd, by omega, HP4.out⟩
              | false =>
                have ht := refTake_any _ left bad (-1) w.heap.size wr hub (by omega)
                have hn := fun W v (h : ReaderAt W R v left bad) => rnumber_any R v left bad x.len W h (by omega)
                rw [hmay] at hn
                rw [show tookN left false x.len = tookN left true (-1) by simp [tookN]] at hn
                have h8 : (takenB left (tookN left true (-1))).length ≤ 8 := by simp [tookN, takenB]
                have hl3 := leftB_len left (tookN left true (-1))
                unfold RefTook at ht
                generalize tookN left true (-1) = tn at ht hn h8 hl3
                have he := refOf_eq (takenB left tn) h8
                generalize takenB left tn = tk at ht hn h8 he
                generalize leftB left tn = lf at ht hn hl3
                generalize badB bad tn = bd at ht hn
                have HE := Lib.hid he
                have HT := Lib.hid ht
                have HN := Lib.hid hn
                have HX := Lib.hid hX
                clear ht hn hX hub he hr1
                go_wp2_with (first
                  | (go_at_call 29; refine HT.out.mono ?_; rintro e w2 ⟨u2, uw, rfl, hu2, huw, hb2⟩; obtain ⟨a2, cp2, rfl, _, _, _⟩ := id hu2; have hX2 := (hb2.block _ (blk_lt HX.out)).trans HX.out; have y0 := blk_cell hX2 0; have y1 := blk_cell hX2 1; have yf := blk_frozen hX2; have d1 := (HAct.out.below (hb2.mono HA.out.below.size) hg).2.1; have HP2 := Lib.hid (HA.out.refStep (b1 := bd) hb2 hu2); have HW2 := Lib.hid (huw.below (HA.out.refBelow hb2 (.slice a2 lf.length cp2) bd)); obtain ⟨aw, cw, rfl, _, _, _⟩ := id huw; clear hu2 huw hb2 hX2)
                  | (go_at_call 30; obtain ⟨vr3, hr3⟩ := HP2.out.reader; refine (HN.out _ vr3 hr3).mono ?_; rintro e w4 ⟨rfl, v4, hr4, hm4⟩; have HP4 := Lib.hid (HP2.out.readStep hr4 hm4); have HW4 := Lib.hid (HW2.out.below (readBelow HA.out.far.1 HP2.out.below.size hm4)); clear hr3 hr4 hm4)
                  | (go_at_call 31; refine (refOf_any w.heap.size tk _ w4 HW4.out (by omega)).mono ?_; rintro e w5 ⟨rfl, rfl⟩; rw [HE.out]))
                go_meet
                exact ⟨lf, bd, by omega, HP4.out⟩
            | false =>
              cases hk1 : ((wrap64 (x.kind.tmod 3 + 3)).tmod 3 == 1) with
              | true =>
                have ht := refTake_any _ left bad 2 w.heap.size wr hub (by omega)
                have hn := fun W v (h : ReaderAt W R v left bad) => rtext_any R v left bad W h (by omega)
                have h8 : (takenB left (tookN left true 2)).length ≤ 2 := by
                  unfold tookN
                  split
                  · simp [takenB]; omega
                  · simp [takenB]
                have hlt := leOf_lt _ h8
                have hl3 := leftB_len left (tookN left true 2)
                unfold RefTook at ht
                unfold RText textLen at hn
                have he := refOf_eq (takenB left (tookN left true 2)) (by omega)
                generalize tookN left true 2 = t2 at ht hn h8 hl3 he hlt
                generalize takenB left t2 = tk at ht hn h8 he hlt
                generalize leftB left t2 = lf at ht hn hl3
                generalize badB bad t2 = bd at ht hn
                have hge := U_nonneg (leOf tk)
                have HE := Lib.hid he
                generalize leOf tk = q at hn hlt hge HE
                have hl4 := takenB_len lf (tookN lf true (U q))
                have hl5 := leftB_len lf (tookN lf true (U q))
                have ht2 := fun W u3 (h : BytesAt w.heap.size W u3 lf) => refTake_any u3 lf bd (U q) w.heap.size W h (by omega)
                unfold RefTook at ht2
                generalize tookN lf true (U q) = t3 at ht2 hn hl4 hl5
                generalize takenB lf t3 = tk3 at ht2 hn hl4
                generalize leftB lf t3 = lf3 at ht2 hn hl5
                generalize badB bd t3 = bd3 at ht2 hn
                have hwr : IntKind.i64.wrap (U q) = U q := IntWalk.i64_in _ (by omega)
                clear hlt hge
                have HTT := Lib.hid ht2
                have HT := Lib.hid ht
                have HN := Lib.hid hn
                have HX := Lib.hid hX
                clear ht hn hX hub he hr1 ht2
                go_upto_region 23 with (first
                  | (go_at_call 29; refine HT.out.mono ?_; rintro e w2 ⟨u2, uw, rfl, hu2, huw, hb2⟩; obtain ⟨a2, cp2, rfl, _, _, _⟩ := id hu2; have hX2 := (hb2.block _ (blk_lt HX.out)).trans HX.out; have y0 := blk_cell hX2 0; have y1 := blk_cell hX2 1; have yf := blk_frozen hX2; have d1 := (HAct.out.below (hb2.mono HA.out.below.size) hg).2.1; have HP2 := Lib.hid (HA.out.refStep (b1 := bd) hb2 hu2); have HW2 := Lib.hid (huw.below (HA.out.refBelow hb2 (.slice a2 lf.length cp2) bd)); obtain ⟨aw, cw, rfl, _, _, _⟩ := id huw; clear hu2 huw hb2 hX2))
                obtain ⟨W3, hW3⟩ : ∃ W3, (w2.setCell ⟨w1.heap.size, 0, none⟩ (.slice a2 lf.length cp2)).setCell ⟨w1.heap.size, 1, none⟩ (.bool bd) = W3 := ⟨_, rfl⟩
                rw [hW3] at HP2 HW2 ⊢
                obtain ⟨u3, hX3, hub3⟩ := HP2.out.ref
                have z0 : W3.cell? ⟨w1.heap.size, 0, none⟩ = some u3 := blk_cell hX3 0
                have z1 : W3.cell? ⟨w1.heap.size, 1, none⟩ = some (.bool bd) := blk_cell hX3 1
                obtain ⟨a3, cu3, rfl, _⟩ := id hub3
                have HX3 := Lib.hid hX3
                have HU3 := Lib.hid hub3
                clear hX3 hub3 hW3 y0 y1 yf d1
                go_cut [10] (fun s10 wx => Pair w R w1.heap.size left bad lf3 bd3 wx ∧ BytesAt w.heap.size wx s10 tk3)
                case first =>
                  have HT2 := Lib.hid (HTT.out W3.drew _ HU3.out)
                  have HOf := Lib.hid (refOf_any w.heap.size tk _ W3.drew (show BytesAt _ W3.drew _ _ from HW2.out) (by omega))
                  go_region_with (first
                    | (go_at_call 31; (with_reducible refine HOf.out.mono ?_); rintro e w5 ⟨rfl, rfl⟩; rw [HE.out])
                    | (go_at_call 29; (with_reducible refine HT2.out.mono ?_); rintro e w4 ⟨u4, uw4, rfl, hu4, huw4, hb4⟩; obtain ⟨a4, cp4, rfl, _, _, _⟩ := id hu4; have hX4 := (hb4.block _ (show _ < W3.drew.heap.size from blk_lt HX3.out)).trans (show W3.drew.heap[_]? = _ from HX3.out); have y0 := blk_cell hX4 0; have y1 := blk_cell hX4 1; have yf := blk_frozen hX4; have HP5 := Lib.hid ((HP2.out.on (Below.refl _ _).drew).refStep (b1 := bd3) hb4 hu4); have HW5 := Lib.hid (huw4.below ((HP2.out.on (Below.refl _ _).drew).refBelow hb4 (.slice a4 lf3.length cp4) bd3)); obtain ⟨aw4, cw4, rfl, _, _, _⟩ := id huw4; clear hu4 huw4 hb4 hX4))
                  all_goals (go_wp2_with fail; go_meet; first | exact ⟨HP5.out, HW5.out⟩ | exact ⟨HP5.out.on (Below.refl _ _).drew, HW5.out⟩)
                case rest =>
                  obtain ⟨hP5, hW5⟩ := hcut
                  obtain ⟨vr5, hr5⟩ := hP5.reader
                  obtain ⟨a5, cp5, rfl, _⟩ := id hW5
                  have hcv0 := conv_str (show BytesAt w.heap.size wc.drew _ _ from hW5)
                  have HN5 := Lib.hid (HN.out wc.drew vr5 ⟨hr5.blk, hr5.bytes⟩)
                  have HP5 := Lib.hid hP5
                  have HW5 := Lib.hid hW5
                  clear hP5 hW5 hr5
                  go_upto_region 24 with (fail)
                  go_region_with (first
                    | (go_at_call 32; (with_reducible refine HN5.out.mono ?_); rintro e w6 ⟨u6, rfl, hu6, v6, hr6, hm6⟩; have hcv1 := conv_str hu6; have hcv2 := conv_str (HW5.out.below (readBelow HA.out.far.1 HP5.out.below.size ⟨hm6.os, hm6.tape, hm6.output, hm6.size, hm6.block⟩)); have HP6 := Lib.hid ((HP5.out.on (Below.refl _ _).drew).readStep hr6 hm6); clear hu6 hr6 hm6))
                  all_goals (go_wp2_with fail)
                  all_goals go_meet
                  all_goals exact ⟨lf3, bd3, by omega, HP6.out⟩
              | false =>
                have ht := refTake_any _ left bad x.len w.heap.size wr hub (by omega)
                have hn := fun W v (h : ReaderAt W R v left bad) => rraw_any R v left bad x.len W h (by omega)
                have hl3 := leftB_len left (tookN left true x.len)
                unfold RefTook at ht
                unfold RRead at hn
                generalize tookN left true x.len = tn at ht hn hl3
                generalize takenB left tn = tk at ht hn
                generalize leftB left tn = lf at ht hn hl3
                generalize badB bad tn = bd at ht hn
                have HT := Lib.hid ht
                have HN := Lib.hid hn
                have HX := Lib.hid hX
                clear ht hn hX hub hr1
                go_upto_region 13 with (first
                  | (go_at_call 29; refine HT.out.mono ?_; rintro e w2 ⟨u2, uw, rfl, hu2, huw, hb2⟩; obtain ⟨a2, cp2, rfl, _, _, _⟩ := id hu2; have hX2 := (hb2.block _ (blk_lt HX.out)).trans HX.out; have y0 := blk_cell hX2 0; have y1 := blk_cell hX2 1; have yf := blk_frozen hX2; have d1 := (HAct.out.below (hb2.mono HA.out.below.size) hg).2.1; have HP2 := Lib.hid (HA.out.refStep (b1 := bd) hb2 hu2); have HW2 := Lib.hid (huw.below (HA.out.refBelow hb2 (.slice a2 lf.length cp2) bd)); obtain ⟨aw, cw, rfl, _, _, _⟩ := id huw; clear hu2 huw hb2 hX2))
                obtain ⟨W3, hW3⟩ : ∃ W3, (w2.setCell ⟨w1.heap.size, 0, none⟩ (.slice a2 lf.length cp2)).setCell ⟨w1.heap.size, 1, none⟩ (.bool bd) = W3 := ⟨_, rfl⟩
                rw [hW3] at HP2 HW2 ⊢
                obtain ⟨vr5, hr5⟩ := HP2.out.reader
                have hcv0 := conv_str (show BytesAt w.heap.size W3.drew _ _ from HW2.out)
                have HN5 := Lib.hid (HN.out W3.drew vr5 ⟨hr5.blk, hr5.bytes⟩)
                clear hr5 hW3 y0 y1 yf d1
                go_region_with (first
                  | (go_at_call 33; (with_reducible refine HN5.out.mono ?_); rintro e w6 ⟨u6, rfl, hu6, v6, hr6, hm6⟩; have hcv1 := conv_str hu6; have hcv2 := conv_str (HW2.out.below (readBelow HA.out.far.1 HP2.out.below.size ⟨hm6.os, hm6.tape, hm6.output, hm6.size, hm6.block⟩)); have HP6 := Lib.hid ((HP2.out.on (Below.refl _ _).drew).readStep hr6 hm6); clear hu6 hr6 hm6))
                all_goals (go_wp2_with fail)
                all_goals go_meet
                all_goals exact ⟨lf, bd, by omega, HP6.out⟩
          case rest =>
            obtain ⟨left', bad', hl', hP⟩ := hcut
            obtain ⟨vr6, hr6⟩ := hP.reader
            obtain ⟨u6, hX6, hub6⟩ := hP.ref
            obtain ⟨au6, cu6, rfl, _⟩ := id hub6
            have x0 : wc.cell? ⟨w1.heap.size, 0, none⟩ = some (.slice au6 left'.length cu6) := blk_cell hX6 0
            have x1 : wc.cell? ⟨w1.heap.size, 1, none⟩ = some (.bool bad') := blk_cell hX6 1
            have hcv0 := conv_str (show BytesAt w.heap.size wc.drew _ _ from hub6)
            have HBad := Lib.hid (bad_any R vr6 left' bad' wc.drew ⟨hr6.blk, hr6.bytes⟩)
            have HRest := Lib.hid (rest_any R vr6 left' bad' wc.drew ⟨hr6.blk, hr6.bytes⟩ (by omega))
            have HP := Lib.hid hP
            have HX6 := Lib.hid hX6
            have HU6 := Lib.hid hub6
            clear hP hr6 hX6 hub6
            go_upto_region 26 with (fail)
            go_cut [123] (fun s wx => s = .bool false ∧ Pair w R w1.heap.size left' bad' left' bad' wx)
            case first =>
              go_region_with (first
                | (go_at_call 34; (with_reducible refine HBad.out.mono ?_); rintro e w7 ⟨rfl, rfl⟩)
                | (go_at_call 35; (with_reducible refine HRest.out.mono ?_); rintro e w7 ⟨u7, rfl, hu7, hb7d⟩; have hb7 : Below wc.heap.size wc w7 := ⟨hb7d.os, hb7d.tape, hb7d.output, hb7d.size, hb7d.block⟩; have hcv1 := conv_str hu7; have hcv2 := conv_str (HU6.out.below (Below.mono hb7 HP.out.below.size)); have hX7 := (hb7.block _ (blk_lt HX6.out)).trans HX6.out; have y0 := blk_cell hX7 0; have HP7 := Lib.hid (HP.out.on hb7); clear hu7 hb7d hb7 hX7))
              all_goals (go_wp2_with fail)
              all_goals go_meet
              all_goals exact ⟨rfl, HP7.out⟩
            case rest =>
              obtain ⟨rfl, hP7⟩ := hcut
              go_wp2
              go_roundw
              case rel => exact ⟨k + 1, left', bad', by omega, by go_num, hl', hP7⟩
              case measure => simp [intOf]; omega
      · obtain rfl : k = l.length := by omega
        have hB := hA.below
        clear hA
        go_wp2_with (go_at_call 27; refine (awake03 _).mono ?_; rintro e w4 ⟨rfl, hb4⟩)
        go_ret
        exact ⟨rfl, hB.trans (hb4.mono hB.size)⟩

set_option maxRecDepth 100000 in
theorem wireReads_lifted (os : Os) (started : os.Started) (H : Type) (enc : TypeId × Value → H) :
    ReturnsInHanded {} Try.checked os 6 .any (Rows.wireReadsSpec.pre6 enc Try.prog Try.f6 Rows.wireReadsRow.domain false) (Rows.wireReadsSpec.post enc Try.prog Try.f6 false true false false) :=
  law_lifted 6 Try.f6 Rows.wireReadsSpec Try.func6 (by kernel_rfl) rfl rfl
    (fun ds h => by match ds, h with | [_, _], _ => rfl) (by kernel_rfl) os started
    (ChangeSpec.witness6 (enc := enc) (C := Try.checked) false ⟨#[], #[.slice none 0 0, .slice none 0 0], []⟩ 8 (by kernel_rfl) (by kernel_rfl) (by kernel_rfl) (by kernel_rfl))
    fun W args ds ps hval hA => by
      rw [Try.params6] at hA hval
      obtain ⟨v0, vs0, d0, ds0, p0, q0, hargs, rfl, rfl, h0, r0⟩ := trodAll_cons hA
      obtain ⟨v1, vs1, d1, ds1, p1, q1, rfl, rfl, rfl, h1, r1⟩ := trodAll_cons r0
      obtain ⟨rfl, rfl, rfl⟩ := trodAll_nil r1
      obtain rfl : args = #[v0, v1] := by cases args; simp_all
      obtain ⟨b0, o0⟩ := hval 0 _ v0 rfl rfl
      obtain ⟨b1, o1⟩ := hval 1 _ v1 rfl rfl
      obtain ⟨bs0, hb0, hm0⟩ := open_bytes o0 h0
      obtain ⟨l1, hb1, hm1⟩ := open_acts o1 h1
      exact wireReads_walk bs0 v0 l1 v1 W hb0 hm0 hb1 hm1

/-- The statement. -/
theorem wireReads_holds : Rows.WireReadsSaid :=
  OpenClaim.holds_of_wide 6 Try.f6 rfl rfl rfl rfl rfl rfl rfl ⟨rfl, rfl, rfl, rfl, rfl⟩ rfl rfl rfl rfl rfl (by kernel_rfl) Try.func6 (by kernel_rfl)
    (of_decide_eq_true (by kernel_rfl)) (by unfold Func.isWrapper; first | (rw [if_pos (by decide +kernel)]; kernel_rfl) | (rw [if_neg (by decide +kernel)]; exact ⟨rfl, rfl⟩))
    (fun os started H enc _ => wireReads_lifted os started H enc)
#print axioms wireReads_holds
end Go.Proofs.Ytghbnomlejnfjaa

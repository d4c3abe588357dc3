/-
  The document's Unpack.
  Conditions: none.
-/
import Derived.Test.YtgaabclgoolalaaJD
import Derived.Test.YtgaabclgoolalaaScr12
import Derived.Test.YtgaabclgoolalaaScr12r
import Derived.Test.YtgaabclgoolalaaJU
namespace Go.Proofs.Ytgaabclgoolalaa
open Go.RowKit
attribute [local go_sem] Oper.semAt_some

/-- What an act's kind asks to be read. -/
def KC (kd : Int) (k v u m : Bool) (L : Nat) (e7 e8 : Bool) : Prop := wk (kn kd) = k ∧ wv (kn kd) = v ∧ wu (kn kd) = u ∧ decide (wl (kn kd) < wm (kn kd)) = m ∧ (wl (kn kd)).toNat = L ∧ (kd == 7) = e7 ∧ (kd == 8) = e8
theorem kd_class (kd : Int) : KC kd true false false false 0 false false ∨ KC kd true true true false 0 false false ∨ KC kd false false false false 0 false false ∨ KC kd false false true false 0 false false ∨ KC kd false false false true 0 true false ∨ KC kd false false false false 3 false true := by
  by_cases h : 0 ≤ kd ∧ kd < 10
  · have h9 : kd = 0 ∨ kd = 1 ∨ kd = 2 ∨ kd = 3 ∨ kd = 4 ∨ kd = 5 ∨ kd = 6 ∨ kd = 7 ∨ kd = 8 ∨ kd = 9 := by omega
    rcases h9 with rfl | rfl | rfl | rfl | rfl | rfl | rfl | rfl | rfl | rfl
    · exact .inl ⟨by decide, by decide, by decide, by decide, by decide, by decide, by decide⟩
    · exact .inr (.inl ⟨by decide, by decide, by decide, by decide, by decide, by decide, by decide⟩)
    · exact .inl ⟨by decide, by decide, by decide, by decide, by decide, by decide, by decide⟩
    · exact .inr (.inr (.inl ⟨by decide, by decide, by decide, by decide, by decide, by decide, by decide⟩))
    · exact .inr (.inr (.inl ⟨by decide, by decide, by decide, by decide, by decide, by decide, by decide⟩))
    · exact .inr (.inr (.inr (.inl ⟨by decide, by decide, by decide, by decide, by decide, by decide, by decide⟩)))
    · exact .inr (.inr (.inr (.inl ⟨by decide, by decide, by decide, by decide, by decide, by decide, by decide⟩)))
    · exact .inr (.inr (.inr (.inr (.inl ⟨by decide, by decide, by decide, by decide, by decide, by decide, by decide⟩))))
    · exact .inr (.inr (.inr (.inr (.inr ⟨by decide, by decide, by decide, by decide, by decide, by decide, by decide⟩))))
    · exact .inr (.inr (.inl ⟨by decide, by decide, by decide, by decide, by decide, by decide, by decide⟩))
  · have hk : kn kd = 10 := by unfold kn; rw [if_neg h]
    have h7 : (kd == 7) = false := beq_eq_false_iff_ne.2 (by omega)
    have h8 : (kd == 8) = false := beq_eq_false_iff_ne.2 (by omega)
    refine .inr (.inr (.inl ?_))
    unfold KC
    rw [hk]
    exact ⟨rfl, rfl, rfl, by decide, rfl, h7, h8⟩
theorem rNums_atB {b : List (BitVec 8)} {s : RSt} (h : AtB b s) : ∀ n, AtB b (rNums n s).2
  | 0 => h
  | n + 1 => rNum_atB 8 rfl (by omega) (rNums_atB h n)
theorem posOf_nat {b : List (BitVec 8)} {s : RSt} (h : AtB b s) (hs : s.2 = false) : ∃ p : Nat, posOf b s = p ∧ p ≤ b.length ∧ s.1.length = b.length - p := by
  rcases h with rfl | ⟨a, ha, rfl⟩
  · cases hs
  · exact ⟨a, posOf_at b a ha, ha, List.length_drop⟩
theorem posOf_neg {b : List (BitVec 8)} {s : RSt} (hs : s.2 = true) : posOf b s = -1 := by unfold posOf; rw [if_pos hs]
theorem num1_lt (s : RSt) : U (rNum s 1).1 < 65536 := num_lt s
/-- What the document's Unpack answers. -/
def RefUnp (b : List (BitVec 8)) (w : World) (e : Ending) (w' : World) : Prop := ∃ a c, e = .returned (.tuple #[.slice a (unpS b).1.length c, .int .i64 (unpS b).2]) ∧ DocsAt w'.heap.size w' (.slice a (unpS b).1.length c) (unpS b).1 ∧ Below w.heap.size w w'
theorem RefUnp.none {b : List (BitVec 8)} {w w' : World} {k : Int} (h : unpS b = ([], k)) (hb : Below w.heap.size w w') : RefUnp b w (.returned (.tuple #[.slice none 0 0, .int .i64 k])) w' := by
  refine ⟨Option.none, 0, by rw [h]; rfl, ?_, hb⟩
  rw [h]
  exact ⟨_, _, rfl, Nat.zero_le _, .inl rfl⟩
theorem doc_one (x : SAct) (a3 : Option Addr) (c3 : Nat) : ∀ u ∈ (docC x a3 c3).toList, u.oneCell' = true := by
  intro u hu
  simp [docC] at hu
  rcases hu with rfl | rfl | rfl | rfl | rfl <;> rfl
set_option maxRecDepth 100000 in
set_option maxHeartbeats 40000000 in
theorem refUnpack20_any (v : Value) (b : List (BitVec 8)) (w : World) (hv : BytesAt w.heap.size w v b) (hn : b.length ≤ 1099511627776) : Calls Try.prog 7 #[v] w (RefUnp b w) := by
  have HTK := Lib.hid (fun W (hb : Below w.heap.size w W) (s : RSt) (h : AtB b s) k hm hk hk8 => refTake20 (v := v) (hv.below hb) hn h k hm hk hk8)
  have HTX := Lib.hid (fun W (hb : Below w.heap.size w W) (s : RSt) (h : AtB b s) => refText20_any (v := v) (hv.below hb) hn h)
  obtain ⟨i1, hi1, hz10, hz11, hz12⟩ := info_partsI infoInt
  obtain ⟨a, c, rfl, hc, _⟩ := id hv
  have hb0 : AtB b (b, false) := .inr ⟨0, Nat.zero_le _, by rw [List.drop_zero]⟩
  have hp0 : posOf b (b, false) = 0 := posOf_at b 0 (Nat.zero_le _)
  have HT4 : Hid (Calls Try.prog 18 #[.slice a b.length c, .int .i64 0, .int .i64 4] w fun e w' => e = .returned (.tuple #[.int .u64 (U (rNum (b, false) 4).1), .int .i64 (posOf b (rNum (b, false) 4).2)]) ∧ w = w') := by
    have := HTK.out w (Below.refl _ _) (b, false) hb0 4 rfl (by omega) (by omega)
    rw [hp0] at this
    exact this
  have hA2 : AtB b (rNum (b, false) 4).2 := rNum_atB 4 rfl (by omega) hb0
  have hbad0 : (rNum (b, false) 4).2.2 = true → U (rNum (b, false) 4).1 = 0 := fun e => by
    by_cases hl : 4 ≤ b.length
    · rw [show rNum (b, false) 4 = _ from rNum_of_yes 4 rfl b hl] at e; cases e
    · rw [show rNum (b, false) 4 = _ from rNum_of_short 4 b (by omega)]; rfl
  have HUS : Hid (unpS b = if 65536 < U (rNum (b, false) 4).1 then (([], 9) : List SAct × Int) else if (rNum (b, false) 4).2.2 then (([], 5) : List SAct × Int) else match actsR (U (rNum (b, false) 4).1).toNat (rNum (b, false) 4).2 with
    | none => (([], 5) : List SAct × Int)
    | some (l, s) => if s.1.length = 0 then (l, 0) else ([], 5)) := rfl
  generalize (rNum (b, false) 4).1 = q at HT4 HUS hbad0
  generalize (rNum (b, false) 4).2 = s2 at HT4 HUS hA2 hbad0
  have hq0 := U_nonneg q
  obtain ⟨C, hC⟩ : ∃ C : Nat, U q = C := ⟨(U q).toNat, by omega⟩
  rw [hC] at HT4 HUS hbad0
  rw [Int.toNat_natCast] at HUS
  clear hv hC hq0 hb0 hp0
  have HN := Lib.hid hn
  have HCC := Lib.hid hc
  clear hn hc
  cases hbad : s2.2 with
  | true =>
    have hc0 : C = 0 := by have := hbad0 hbad; omega
    subst hc0
    rw [posOf_neg hbad] at HT4
    have HU5 : Hid (unpS b = ([], 5)) := by
      unfold Hid
      rw [HUS.out, if_neg (by decide), if_pos hbad]
    clear HUS hA2 hbad0 hbad
    go_enter Try.func7, Try.ntmps7
    go_wp2_with (go_at_call 18; (with_reducible refine HT4.out.mono ?_); rintro e w1 ⟨rfl, rfl⟩)
    go_ret2
    exact RefUnp.none HU5.out (Below.refl _ _)
  | false =>
    obtain ⟨p2, hp2, hp3, hp4⟩ := posOf_nat hA2 hbad
    have HP2 := Lib.hid hp2
    rw [hp2] at HT4
    by_cases hbig : 65536 < C
    · have HU9 : Hid (unpS b = ([], 9)) := by
        unfold Hid
        rw [HUS.out, if_pos (by omega)]
      have c1 : (65536 : Int) < C := by omega
      clear HUS hA2 hbad0 hbad hp2 hp3 hp4 hbig HP2
      go_enter Try.func7, Try.ntmps7
      go_wp2_with (go_at_call 18; (with_reducible refine HT4.out.mono ?_); rintro e w1 ⟨rfl, rfl⟩)
      go_ret2
      exact RefUnp.none HU9.out (Below.refl _ _)
    · have HUS : Hid (unpS b = match actsR C s2 with
        | none => (([], 5) : List SAct × Int)
        | some (l, s) => if s.1.length = 0 then (l, 0) else ([], 5)) := by
        unfold Hid
        rw [HUS.out, if_neg (by omega), if_neg (by rw [hbad]; decide)]
      have c1 : (C : Int) ≤ 65536 := by omega
      have hwr : wrap64 (C : Int) = C := IntWalk.wrap64_in _ (by omega)
      have HCB : Hid (C ≤ 65536) := by unfold Hid; omega
      have HA2 := Lib.hid hA2
      have HBD := Lib.hid hbad
      have HO0 := Lib.hid (DOfAt.nil w.heap.size w)
      clear hA2 hbad0 hbad hp2 hp3 hp4 hbig
      go_enter Try.func7, Try.ntmps7
      go_wp2_with (go_at_call 18; (with_reducible refine HT4.out.mono ?_); rintro e w1 ⟨rfl, rfl⟩)
      go_loopw [5, 6, 7] (fun p ov i wr => ∃ (j : Nat) (xs : List SAct) (s : RSt), j ≤ C ∧ i = .int .i64 j ∧ p = .int .i64 (posOf b s) ∧ actsR j s2 = some (xs, s) ∧ s.2 = false ∧ AtB b s ∧ DOfAt w.heap.size wr ov xs ∧ Below w.heap.size w wr) (fun _ _ i _ => C - (intOf i).toNat)
      case atStart => exact ⟨0, [], s2, Nat.zero_le _, rfl, by rw [HP2.out]; try rfl, actsR_zero s2, HBD.out, HA2.out, HO0.out, Below.refl _ _⟩
      case round =>
        obtain ⟨j, xs, s, hj, rfl, rfl, hrun, hbs, hA, hO, hB⟩ := hrel
        obtain ⟨wo, rfl⟩ : ∃ wo, wo = wr := ⟨_, rfl⟩
        by_cases hlt : j < C
        · have j1 : (j : Int) < C := by omega
          have HLT := Lib.hid hlt
          have HRUN := Lib.hid hrun
          have HO := Lib.hid hO
          have HB := Lib.hid hB
          have HJS : Hid ((j : Int) ≤ 65536) := by unfold Hid; omega
          have HXL : Hid (xs.length ≤ 65536) := by unfold Hid; have := actsR_len _ _ _ _ hrun; omega
          have HAR : Hid (actR s = readK (wrap64 (U (rNum s 1).1)) (rNum s 1).2) := rfl
          have HT1 : Hid (∀ W, Below w.heap.size w W → Calls Try.prog 18 #[.slice a b.length c, .int .i64 (posOf b s), .int .i64 1] W fun e w' => e = .returned (.tuple #[.int .u64 (U (rNum s 1).1), .int .i64 (posOf b (rNum s 1).2)]) ∧ W = w') := fun W hb => HTK.out W hb s hA 1 rfl (by omega) (by omega)
          have hA1 : AtB b (rNum s 1).2 := rNum_atB 1 rfl (by omega) hA
          generalize (rNum s 1).1 = q1 at HAR HT1
          generalize (rNum s 1).2 = s1 at HAR HT1 hA1
          have HA1 := Lib.hid hA1
          obtain ⟨kd, hkd⟩ : ∃ kd, wrap64 (U q1) = kd := ⟨_, rfl⟩
          rw [hkd] at HAR
          obtain ⟨pS, hpS⟩ : ∃ pS, posOf b s = pS := ⟨_, rfl⟩
          rw [hpS] at HT1 ⊢
          obtain ⟨p1, hp1⟩ : ∃ p1, posOf b s1 = p1 := ⟨_, rfl⟩
          rw [hp1] at HT1
          have HP1 := Lib.hid hp1
          clear hrun hbs hA hO hB hlt hj hA1 hpS hp1
          go_upto_region 13 with (go_at_call 18; (with_reducible refine (HT1.out _ (HB.out.alloc HB.out.size _)).mono ?_); rintro e w1 ⟨rfl, rfl⟩)
          obtain ⟨w6, hw6⟩ : ∃ w6, wo.alloc (.cells #[.int .i64 0, .string ⟨#[]⟩, .string ⟨#[]⟩, .int .i64 0, .slice none 0 0] 54) = w6 := ⟨_, rfl⟩
          have hb6 : Below wo.heap.size wo w6 := by rw [← hw6]; exact (Below.refl _ _).alloc (Nat.le_refl _) _
          have hg6 : w6.heap[wo.heap.size]? = some (.cells #[.int .i64 0, .string ⟨#[]⟩, .string ⟨#[]⟩, .int .i64 0, .slice none 0 0] 54 (0, 0)) := by rw [← hw6]; exact heap_alloc_new _ _
          change Code.wp _ _ _ _ (wo.alloc (.cells #[.int .i64 0, .string ⟨#[]⟩, .string ⟨#[]⟩, .int .i64 0, .slice none 0 0] 54))
          rw [hw6]
          clear hw6
          have z0 := blk_cell hg6 0
          have r0 := blk_frozen hg6 0
          have hb7 : Below wo.heap.size wo (w6.setCell ⟨wo.heap.size, 0, none⟩ (.int .i64 kd)) := hb6.setCell (p := ⟨wo.heap.size, 0, none⟩) (Nat.le_refl _) _
          have hg7 : (w6.setCell ⟨wo.heap.size, 0, none⟩ (.int .i64 kd)).heap[wo.heap.size]? = some (.cells (docC ⟨kd, [], [], 0, []⟩ none 0) 54 (0, 0)) := blk_set hg6 0 _
          go_upto_region 14 with (fail)
          obtain ⟨w7, hw7⟩ : ∃ w7, w6.setCell ⟨wo.heap.size, 0, none⟩ (.int .i64 kd) = w7 := ⟨_, rfl⟩
          change Code.wp _ _ _ _ (w6.setCell ⟨wo.heap.size, 0, none⟩ (.int .i64 kd))
          rw [hw7] at hb7 hg7 ⊢
          clear hw7 hb6 hg6 z0 r0
          have HB7 := Lib.hid hb7
          have HG7 := Lib.hid hg7
          have z0 : w7.cell? ⟨wo.heap.size, 0, none⟩ = some (.int .i64 kd) := blk_cell hg7 0
          have HH := Lib.hid (has_any kd w7)
          have HNX : Hid (∀ (xr : SAct) (sE : RSt), actR s = (xr, sE) → (actOk s = (!sE.2 && rightA xr))) := fun xr sE h => by unfold actOk; rw [h]
          clear hb7 hg7
          rcases kd_class kd with hK | hK | hK | hK | hK | hK
          · obtain ⟨f1, f2, f3, f4, f5, e7, e8⟩ := hK
            rw [f1, f2, f3] at HH
            have HRK : Hid (actR s = readS true false false false 0 kd s1) := by unfold Hid; rw [HAR.out]; unfold readK; rw [f1, f2, f3, f4, f5]
            clear f1 f2 f3 f4 f5
            go_upto_region 15 with (go_at_call 19; (with_reducible refine HH.out.mono ?_); rintro e w8 ⟨rfl, hb⟩; have HB8 := Lib.hid (HB7.out.trans (hb.mono HB7.out.size)); have HG8 := Lib.hid ((hb.block _ (blk_lt HG7.out)).trans HG7.out); clear hb z0)
            obtain ⟨w9, hw9⟩ : ∃ w9, w8.alloc (.cells #[.bool true, .bool false, .bool false] 55) = w9 := ⟨_, rfl⟩
            change Code.wp _ _ _ _ (w8.alloc (.cells #[.bool true, .bool false, .bool false] 55))
            rw [hw9]
            have hb9 : Below w8.heap.size w8 w9 := by rw [← hw9]; exact (Below.refl _ _).alloc (Nat.le_refl _) _
            have hg9 : w9.heap[w8.heap.size]? = some (.cells #[.bool true, .bool false, .bool false] 55 (0, 0)) := by rw [← hw9]; exact heap_alloc_new _ _
            clear hw9
            have HD9 : Hid (DB wo true false false w8.heap.size ⟨kd, [], [], 0, []⟩ none 0 w9) := ⟨HB8.out.trans (hb9.mono HB8.out.size), (hb9.block _ (blk_lt HG8.out)).trans HG8.out, hg9, World.ownsRow_nil _ _ _ _⟩
            clear hb9 hg9
            obtain ⟨⟨z0, z1, z2, z3, z4⟩, ⟨y0, y1, y2⟩, ⟨r0, r1, r2, r3, r4⟩⟩ := HD9.out.cells
            have HX10 : Hid (∀ W, Below w.heap.size w W → Calls Try.prog 20 #[.slice a b.length c, .int .i64 p1] W fun e w' => e = .returned (.tuple #[.string (strB (rTxt s1).1), .int .i64 (posOf b (rTxt s1).2)]) ∧ W = w') := fun W hb => by have := HTX.out W hb s1 HA1.out; rw [HP1.out] at this; exact this
            have HA10 : Hid (AtB b (rTxt s1).2) := rTxt_atB HA1.out
            obtain ⟨t10, ht10⟩ : ∃ t, (rTxt s1).1 = t := ⟨_, rfl⟩
            obtain ⟨s10, hs10⟩ : ∃ t, (rTxt s1).2 = t := ⟨_, rfl⟩
            have HRT10 : Hid (rTxt s1 = (t10, s10)) := by unfold Hid; rw [← ht10, ← hs10]
            rw [ht10, hs10] at HX10
            rw [hs10] at HA10
            clear ht10 hs10
            obtain ⟨p10, hp10⟩ : ∃ p, posOf b s10 = p := ⟨_, rfl⟩
            rw [hp10] at HX10
            have HP10 := Lib.hid hp10
            clear hp10
            go_upto_region 17 with (go_at_call 20; (with_reducible refine (HX10.out _ (HB.out.trans (HD9.out.bel.mono HB.out.size))).mono ?_); rintro e wt ⟨rfl, rfl⟩)
            obtain ⟨w10, hw10⟩ : ∃ w10, w9.setCell ⟨wo.heap.size, 1, none⟩ (.string (strB t10)) = w10 := ⟨_, rfl⟩
            change Code.wp _ _ _ _ (w9.setCell ⟨wo.heap.size, 1, none⟩ (.string (strB t10)))
            have hd10 := HD9.out.set 1 (.string (strB t10)) (x' := ⟨kd, t10, [], 0, []⟩) rfl rfl
            rw [hw10] at hd10 ⊢
            have HD10 := Lib.hid hd10
            clear hw10 hd10
            clear z0 z1 z2 z3 z4 y0 y1 y2 r0 r1 r2 r3 r4
            obtain ⟨⟨z0, z1, z2, z3, z4⟩, ⟨y0, y1, y2⟩, ⟨r0, r1, r2, r3, r4⟩⟩ := HD10.out.cells
            have hcw : wrap64 (0 : Int) = 0 := IntWalk.wrap64_in _ (by omega)
            have HCL : Hid ((0 : Nat) ≤ 65536) := by unfold Hid; omega
            go_wp2
            clear z0 z1 z2 z3 z4 y0 y1 y2 r0 r1 r2 r3 r4
            have HAD := Lib.hid (rNums_atB HA10.out)
            have HPD : Hid (posOf b s10 = p10) := HP10.out
            have HT8 : Hid (∀ W, Below w.heap.size w W → ∀ n, Calls Try.prog 18 #[.slice a b.length c, .int .i64 (posOf b (rNums n s10).2), .int .i64 8] W fun e w' => e = .returned (.tuple #[.int .u64 (U (rNum (rNums n s10).2 8).1), .int .i64 (posOf b (rNum (rNums n s10).2 8).2)]) ∧ W = w') := fun W hb n => HTK.out W hb _ (HAD.out n) 8 rfl (by omega) (by omega)
            have HRX : Hid (actR s = (⟨kd, t10, [], 0, (rNums 0 s10).1⟩, (rNums 0 s10).2)) := by
              unfold Hid
              rw [HRK.out]
              unfold readS
              simp only [if_true, if_false, Bool.false_eq_true]
              rw [HRT10.out]
            clear HRK
            have HLP : Hid (∀ n, (rNums n s10).1.length = n) := fun n => rNums_size _ n
            obtain ⟨sD, hsD⟩ : ∃ sD, s10 = sD := ⟨_, rfl⟩
            rw [hsD] at HAD HPD HT8 HRX HLP
            clear hsD
            go_loopw [5, 9, 12] (fun p n i wr => ∃ (m : Nat) (q9 : BitVec 64), m ≤ 0 ∧ i = .int .i64 m ∧ p = .int .i64 (posOf b (rNums m sD).2) ∧ n = .int .u64 (U q9) ∧ ∃ a3 c3, DB wo true false false w8.heap.size ⟨kd, t10, [], 0, (rNums m sD).1⟩ a3 c3 wr) (fun _ _ i _ => 0 - (intOf i).toNat)
            case atStart => exact ⟨0, q1, Nat.zero_le _, rfl, by show Value.int _ _ = Value.int _ (posOf b sD); rw [HPD.out], rfl, none, 0, HD10.out⟩
            case round =>
              obtain ⟨m, q9, hm, rfl, rfl, rfl, a3, c3, hD⟩ := hrel
              by_cases hlm : m < 0
              · exact absurd hlm (by omega)
              · obtain rfl : m = 0 := by omega
                have m1 : ¬ ((0 : Nat) : Int) < (0 : Nat) := by omega
                clear hlm hm HLP HT8
                have HAE := Lib.hid (HAD.out 0)
                generalize (rNums 0 sD).1 = Lm at hD HRX
                generalize (rNums 0 sD).2 = sE at HRX HAE ⊢
                have HDM := Lib.hid hD
                have HBQ : Hid (Below w.heap.size w wr) := HB.out.trans (hD.bel.mono HB.out.size)
                obtain ⟨x, hx⟩ : ∃ x : SAct, ⟨kd, t10, [], 0, Lm⟩ = x := ⟨_, rfl⟩
                rw [hx] at HRX HDM
                have HNO : Hid (actOk s = false → unpS b = ([], 5)) := fun h => by
                  rw [HUS.out, actsR_stop j s2 xs s HRUN.out h C HLT.out]
                have HOK : Hid (actOk s = (!sE.2 && rightA x)) := HNX.out x sE HRX.out
                clear hD hx
                cases hsE : sE.2 with
                | true =>
                  have HU5 : Hid (unpS b = ([], 5)) := HNO.out (by rw [HOK.out, hsE]; rfl)
                  rw [posOf_neg hsE]
                  clear hsE
                  go_wp2
                  go_ret2
                  exact RefUnp.none HU5.out HBQ.out
                | false =>
                  obtain ⟨pe, hpe, _, _⟩ := posOf_nat HAE.out hsE
                  have HPE := Lib.hid hpe
                  rw [hpe]
                  have HRG := Lib.hid (refRight20_any x a3 c3 wr)
                  have hx0 := HDM.out.act
                  obtain ⟨z0, z1, z2, z3, z4⟩ := HDM.out.cells.1
                  cases hrx : rightA x with
                  | false =>
                    have HU5 : Hid (unpS b = ([], 5)) := HNO.out (by rw [HOK.out, hsE, hrx]; rfl)
                    rw [hrx] at HRG
                    clear hsE hrx hx0 hpe
                    go_wp2_with (go_at_call 21; (with_reducible refine HRG.out.mono ?_); rintro e wg ⟨rfl, hb⟩; have HBG := Lib.hid (HBQ.out.trans (hb.mono HBQ.out.size)); clear hb)
                    go_ret2
                    exact RefUnp.none HU5.out HBG.out
                  | true =>
                    rw [hrx] at HRG
                    have HAK : Hid (actOk s = true) := by unfold Hid; rw [HOK.out, hsE, hrx]; rfl
                    have HSN : Hid (actsR (j + 1) s2 = some (xs ++ [x], sE)) := by
                      have := actsR_snoc j s2 xs s HRUN.out HAK.out
                      rw [HRX.out] at this
                      exact this
                    have HSE := Lib.hid hsE
                    obtain ⟨i2, hi2, hy0, hy1, hy2⟩ := info_partsA infoDoc
                    have HOQ := Lib.hid (HO.out.on HDM.out.bel)
                    obtain ⟨ao, co, rfl⟩ := HO.out.slice
                    have hxl : (xs.length : Int) ≤ 65536 := by have := HXL.out; omega
                    clear hsE hrx hx0 hpe
                    go_wp2_with (first
                      | (go_at_call 21; (with_reducible refine HRG.out.mono ?_); rintro e wg ⟨rfl, hb⟩; have hdg := HDM.out.on hb; have HDG := Lib.hid hdg; have HOG := Lib.hid (HOQ.out.on hb); clear z0 z1 z2 z3 z4; obtain ⟨z0, z1, z2, z3, z4⟩ := hdg.cells.1; clear hdg hb)
                      | (at_builtin; (have hba := (Below.refl wg.heap.size wg).alloc (Nat.le_refl _) (.cells (docC x a3 c3) 54)); (have HDA := Lib.hid (HDG.out.on hba)); (have HOA := Lib.hid (HOG.out.on hba)); obtain ⟨cs, hown, hel⟩ := HOA.out; (have HOW := Lib.hid hown); (have HEL := Lib.hid hel); (refine wpList_append_lies _ rfl (.tmp 107) (.tmp 109) 27 rfl w.heap.size 54 i2 _ 5 72 Try.underlying27 hi2 hy0 hy1 hy2 rfl (by decide) _ xs.length cs rfl HOW.out ⟨wg.heap.size, 0, none⟩ 1 1 (docC x a3 c3).toList rfl rfl (World.news_of_block (heap_alloc_new wg (.cells (docC x a3 c3) 54))) (doc_one _ _ _) (by decide) (by have := HXL.out; unfold maxLen; omega) (by have := HXL.out; omega) (HB.out.trans (HDA.out.bel.mono HB.out.size)).size _ rfl ?_); intro g9 c9 w9' hown9 hg9 _ _; have HON := Lib.hid (DOfAt.app HOW.out HEL.out ⟨IntsAt.of_owns HDA.out.row rfl, own_type HDA.out.row⟩ hg9 hown9); have HBN := Lib.hid ((HB.out.trans (HDA.out.bel.mono HB.out.size)).trans ((Below.refl w.heap.size _).grown hg9 (HB.out.trans (HDA.out.bel.mono HB.out.size)).size (fun q e => (HOW.out.lt q e).1))); clear hown9 hg9 hown hel hba))
                    go_roundw
                    case rel => exact ⟨j + 1, xs ++ [x], sE, HLT.out, by go_num, by rw [HPE.out], HSN.out, HSE.out, HAE.out, HON.out, HBN.out⟩
                    case measure => have := HLT.out; have := HJS.out; simp [intOf]; omega
          · obtain ⟨f1, f2, f3, f4, f5, e7, e8⟩ := hK
            rw [f1, f2, f3] at HH
            have HRK : Hid (actR s = readS true true true false 0 kd s1) := by unfold Hid; rw [HAR.out]; unfold readK; rw [f1, f2, f3, f4, f5]
            clear f1 f2 f3 f4 f5
            go_upto_region 15 with (go_at_call 19; (with_reducible refine HH.out.mono ?_); rintro e w8 ⟨rfl, hb⟩; have HB8 := Lib.hid (HB7.out.trans (hb.mono HB7.out.size)); have HG8 := Lib.hid ((hb.block _ (blk_lt HG7.out)).trans HG7.out); clear hb z0)
            obtain ⟨w9, hw9⟩ : ∃ w9, w8.alloc (.cells #[.bool true, .bool true, .bool true] 55) = w9 := ⟨_, rfl⟩
            change Code.wp _ _ _ _ (w8.alloc (.cells #[.bool true, .bool true, .bool true] 55))
            rw [hw9]
            have hb9 : Below w8.heap.size w8 w9 := by rw [← hw9]; exact (Below.refl _ _).alloc (Nat.le_refl _) _
            have hg9 : w9.heap[w8.heap.size]? = some (.cells #[.bool true, .bool true, .bool true] 55 (0, 0)) := by rw [← hw9]; exact heap_alloc_new _ _
            clear hw9
            have HD9 : Hid (DB wo true true true w8.heap.size ⟨kd, [], [], 0, []⟩ none 0 w9) := ⟨HB8.out.trans (hb9.mono HB8.out.size), (hb9.block _ (blk_lt HG8.out)).trans HG8.out, hg9, World.ownsRow_nil _ _ _ _⟩
            clear hb9 hg9
            obtain ⟨⟨z0, z1, z2, z3, z4⟩, ⟨y0, y1, y2⟩, ⟨r0, r1, r2, r3, r4⟩⟩ := HD9.out.cells
            have HX10 : Hid (∀ W, Below w.heap.size w W → Calls Try.prog 20 #[.slice a b.length c, .int .i64 p1] W fun e w' => e = .returned (.tuple #[.string (strB (rTxt s1).1), .int .i64 (posOf b (rTxt s1).2)]) ∧ W = w') := fun W hb => by have := HTX.out W hb s1 HA1.out; rw [HP1.out] at this; exact this
            have HA10 : Hid (AtB b (rTxt s1).2) := rTxt_atB HA1.out
            obtain ⟨t10, ht10⟩ : ∃ t, (rTxt s1).1 = t := ⟨_, rfl⟩
            obtain ⟨s10, hs10⟩ : ∃ t, (rTxt s1).2 = t := ⟨_, rfl⟩
            have HRT10 : Hid (rTxt s1 = (t10, s10)) := by unfold Hid; rw [← ht10, ← hs10]
            rw [ht10, hs10] at HX10
            rw [hs10] at HA10
            clear ht10 hs10
            obtain ⟨p10, hp10⟩ : ∃ p, posOf b s10 = p := ⟨_, rfl⟩
            rw [hp10] at HX10
            have HP10 := Lib.hid hp10
            clear hp10
            go_upto_region 17 with (go_at_call 20; (with_reducible refine (HX10.out _ (HB.out.trans (HD9.out.bel.mono HB.out.size))).mono ?_); rintro e wt ⟨rfl, rfl⟩)
            obtain ⟨w10, hw10⟩ : ∃ w10, w9.setCell ⟨wo.heap.size, 1, none⟩ (.string (strB t10)) = w10 := ⟨_, rfl⟩
            change Code.wp _ _ _ _ (w9.setCell ⟨wo.heap.size, 1, none⟩ (.string (strB t10)))
            have hd10 := HD9.out.set 1 (.string (strB t10)) (x' := ⟨kd, t10, [], 0, []⟩) rfl rfl
            rw [hw10] at hd10 ⊢
            have HD10 := Lib.hid hd10
            clear hw10 hd10
            clear z0 z1 z2 z3 z4 y0 y1 y2 r0 r1 r2 r3 r4
            obtain ⟨⟨z0, z1, z2, z3, z4⟩, ⟨y0, y1, y2⟩, ⟨r0, r1, r2, r3, r4⟩⟩ := HD10.out.cells
            have HX11 : Hid (∀ W, Below w.heap.size w W → Calls Try.prog 20 #[.slice a b.length c, .int .i64 p10] W fun e w' => e = .returned (.tuple #[.string (strB (rTxt s10).1), .int .i64 (posOf b (rTxt s10).2)]) ∧ W = w') := fun W hb => by have := HTX.out W hb s10 HA10.out; rw [HP10.out] at this; exact this
            have HA11 : Hid (AtB b (rTxt s10).2) := rTxt_atB HA10.out
            obtain ⟨t11, ht11⟩ : ∃ t, (rTxt s10).1 = t := ⟨_, rfl⟩
            obtain ⟨s11, hs11⟩ : ∃ t, (rTxt s10).2 = t := ⟨_, rfl⟩
            have HRT11 : Hid (rTxt s10 = (t11, s11)) := by unfold Hid; rw [← ht11, ← hs11]
            rw [ht11, hs11] at HX11
            rw [hs11] at HA11
            clear ht11 hs11
            obtain ⟨p11, hp11⟩ : ∃ p, posOf b s11 = p := ⟨_, rfl⟩
            rw [hp11] at HX11
            have HP11 := Lib.hid hp11
            clear hp11
            go_upto_region 19 with (go_at_call 20; (with_reducible refine (HX11.out _ (HB.out.trans (HD10.out.bel.mono HB.out.size))).mono ?_); rintro e wt ⟨rfl, rfl⟩)
            obtain ⟨w11, hw11⟩ : ∃ w11, w10.setCell ⟨wo.heap.size, 2, none⟩ (.string (strB t11)) = w11 := ⟨_, rfl⟩
            change Code.wp _ _ _ _ (w10.setCell ⟨wo.heap.size, 2, none⟩ (.string (strB t11)))
            have hd11 := HD10.out.set 2 (.string (strB t11)) (x' := ⟨kd, t10, t11, 0, []⟩) rfl rfl
            rw [hw11] at hd11 ⊢
            have HD11 := Lib.hid hd11
            clear hw11 hd11
            clear z0 z1 z2 z3 z4 y0 y1 y2 r0 r1 r2 r3 r4
            obtain ⟨⟨z0, z1, z2, z3, z4⟩, ⟨y0, y1, y2⟩, ⟨r0, r1, r2, r3, r4⟩⟩ := HD11.out.cells
            have HX12 : Hid (∀ W, Below w.heap.size w W → Calls Try.prog 18 #[.slice a b.length c, .int .i64 p11, .int .i64 8] W fun e w' => e = .returned (.tuple #[.int .u64 (U (rNum s11 8).1), .int .i64 (posOf b (rNum s11 8).2)]) ∧ W = w') := fun W hb => by have := HTK.out W hb s11 HA11.out 8 rfl (by omega) (by omega); rw [HP11.out] at this; exact this
            have HA12 : Hid (AtB b (rNum s11 8).2) := rNum_atB 8 rfl (by omega) HA11.out
            obtain ⟨t12, ht12⟩ : ∃ t, (rNum s11 8).1 = t := ⟨_, rfl⟩
            obtain ⟨s12, hs12⟩ : ∃ t, (rNum s11 8).2 = t := ⟨_, rfl⟩
            have HRT12 : Hid (rNum s11 8 = (t12, s12)) := by unfold Hid; rw [← ht12, ← hs12]
            rw [ht12, hs12] at HX12
            rw [hs12] at HA12
            clear ht12 hs12
            obtain ⟨p12, hp12⟩ : ∃ p, posOf b s12 = p := ⟨_, rfl⟩
            rw [hp12] at HX12
            have HP12 := Lib.hid hp12
            clear hp12
            obtain ⟨nu, hnu⟩ : ∃ nu, wrap64 (U t12) = nu := ⟨_, rfl⟩
            have HNU : Hid (toI t12 = nu) := hnu
            go_upto_region 22 with (go_at_call 18; (with_reducible refine (HX12.out _ (HB.out.trans (HD11.out.bel.mono HB.out.size))).mono ?_); rintro e wt ⟨rfl, rfl⟩)
            obtain ⟨w12, hw12⟩ : ∃ w12, w11.setCell ⟨wo.heap.size, 3, none⟩ (.int .i64 nu) = w12 := ⟨_, rfl⟩
            change Code.wp _ _ _ _ (w11.setCell ⟨wo.heap.size, 3, none⟩ (.int .i64 nu))
            have hd12 := HD11.out.set 3 (.int .i64 nu) (x' := ⟨kd, t10, t11, nu, []⟩) rfl rfl
            rw [hw12] at hd12 ⊢
            have HD12 := Lib.hid hd12
            clear hw12 hd12
            clear z0 z1 z2 z3 z4 y0 y1 y2 r0 r1 r2 r3 r4
            obtain ⟨⟨z0, z1, z2, z3, z4⟩, ⟨y0, y1, y2⟩, ⟨r0, r1, r2, r3, r4⟩⟩ := HD12.out.cells
            have hcw : wrap64 (0 : Int) = 0 := IntWalk.wrap64_in _ (by omega)
            have HCL : Hid ((0 : Nat) ≤ 65536) := by unfold Hid; omega
            go_wp2
            clear z0 z1 z2 z3 z4 y0 y1 y2 r0 r1 r2 r3 r4
            have HAD := Lib.hid (rNums_atB HA12.out)
            have HPD : Hid (posOf b s12 = p12) := HP12.out
            have HT8 : Hid (∀ W, Below w.heap.size w W → ∀ n, Calls Try.prog 18 #[.slice a b.length c, .int .i64 (posOf b (rNums n s12).2), .int .i64 8] W fun e w' => e = .returned (.tuple #[.int .u64 (U (rNum (rNums n s12).2 8).1), .int .i64 (posOf b (rNum (rNums n s12).2 8).2)]) ∧ W = w') := fun W hb n => HTK.out W hb _ (HAD.out n) 8 rfl (by omega) (by omega)
            have HRX : Hid (actR s = (⟨kd, t10, t11, nu, (rNums 0 s12).1⟩, (rNums 0 s12).2)) := by
              unfold Hid
              rw [HRK.out]
              unfold readS
              simp only [if_true, if_false, Bool.false_eq_true]
              rw [HRT10.out]
              rw [HRT11.out]
              rw [HRT12.out]
              rw [HNU.out]
            clear HRK
            have HLP : Hid (∀ n, (rNums n s12).1.length = n) := fun n => rNums_size _ n
            obtain ⟨sD, hsD⟩ : ∃ sD, s12 = sD := ⟨_, rfl⟩
            rw [hsD] at HAD HPD HT8 HRX HLP
            clear hsD
            go_loopw [5, 9, 12] (fun p n i wr => ∃ (m : Nat) (q9 : BitVec 64), m ≤ 0 ∧ i = .int .i64 m ∧ p = .int .i64 (posOf b (rNums m sD).2) ∧ n = .int .u64 (U q9) ∧ ∃ a3 c3, DB wo true true true w8.heap.size ⟨kd, t10, t11, nu, (rNums m sD).1⟩ a3 c3 wr) (fun _ _ i _ => 0 - (intOf i).toNat)
            case atStart => exact ⟨0, t12, Nat.zero_le _, rfl, by show Value.int _ _ = Value.int _ (posOf b sD); rw [HPD.out], rfl, none, 0, HD12.out⟩
            case round =>
              obtain ⟨m, q9, hm, rfl, rfl, rfl, a3, c3, hD⟩ := hrel
              by_cases hlm : m < 0
              · exact absurd hlm (by omega)
              · obtain rfl : m = 0 := by omega
                have m1 : ¬ ((0 : Nat) : Int) < (0 : Nat) := by omega
                clear hlm hm HLP HT8
                have HAE := Lib.hid (HAD.out 0)
                generalize (rNums 0 sD).1 = Lm at hD HRX
                generalize (rNums 0 sD).2 = sE at HRX HAE ⊢
                have HDM := Lib.hid hD
                have HBQ : Hid (Below w.heap.size w wr) := HB.out.trans (hD.bel.mono HB.out.size)
                obtain ⟨x, hx⟩ : ∃ x : SAct, ⟨kd, t10, t11, nu, Lm⟩ = x := ⟨_, rfl⟩
                rw [hx] at HRX HDM
                have HNO : Hid (actOk s = false → unpS b = ([], 5)) := fun h => by
                  rw [HUS.out, actsR_stop j s2 xs s HRUN.out h C HLT.out]
                have HOK : Hid (actOk s = (!sE.2 && rightA x)) := HNX.out x sE HRX.out
                clear hD hx
                cases hsE : sE.2 with
                | true =>
                  have HU5 : Hid (unpS b = ([], 5)) := HNO.out (by rw [HOK.out, hsE]; rfl)
                  rw [posOf_neg hsE]
                  clear hsE
                  go_wp2
                  go_ret2
                  exact RefUnp.none HU5.out HBQ.out
                | false =>
                  obtain ⟨pe, hpe, _, _⟩ := posOf_nat HAE.out hsE
                  have HPE := Lib.hid hpe
                  rw [hpe]
                  have HRG := Lib.hid (refRight20_any x a3 c3 wr)
                  have hx0 := HDM.out.act
                  obtain ⟨z0, z1, z2, z3, z4⟩ := HDM.out.cells.1
                  cases hrx : rightA x with
                  | false =>
                    have HU5 : Hid (unpS b = ([], 5)) := HNO.out (by rw [HOK.out, hsE, hrx]; rfl)
                    rw [hrx] at HRG
                    clear hsE hrx hx0 hpe
                    go_wp2_with (go_at_call 21; (with_reducible refine HRG.out.mono ?_); rintro e wg ⟨rfl, hb⟩; have HBG := Lib.hid (HBQ.out.trans (hb.mono HBQ.out.size)); clear hb)
                    go_ret2
                    exact RefUnp.none HU5.out HBG.out
                  | true =>
                    rw [hrx] at HRG
                    have HAK : Hid (actOk s = true) := by unfold Hid; rw [HOK.out, hsE, hrx]; rfl
                    have HSN : Hid (actsR (j + 1) s2 = some (xs ++ [x], sE)) := by
                      have := actsR_snoc j s2 xs s HRUN.out HAK.out
                      rw [HRX.out] at this
                      exact this
                    have HSE := Lib.hid hsE
                    obtain ⟨i2, hi2, hy0, hy1, hy2⟩ := info_partsA infoDoc
                    have HOQ := Lib.hid (HO.out.on HDM.out.bel)
                    obtain ⟨ao, co, rfl⟩ := HO.out.slice
                    have hxl : (xs.length : Int) ≤ 65536 := by have := HXL.out; omega
                    clear hsE hrx hx0 hpe
                    go_wp2_with (first
                      | (go_at_call 21; (with_reducible refine HRG.out.mono ?_); rintro e wg ⟨rfl, hb⟩; have hdg := HDM.out.on hb; have HDG := Lib.hid hdg; have HOG := Lib.hid (HOQ.out.on hb); clear z0 z1 z2 z3 z4; obtain ⟨z0, z1, z2, z3, z4⟩ := hdg.cells.1; clear hdg hb)
                      | (at_builtin; (have hba := (Below.refl wg.heap.size wg).alloc (Nat.le_refl _) (.cells (docC x a3 c3) 54)); (have HDA := Lib.hid (HDG.out.on hba)); (have HOA := Lib.hid (HOG.out.on hba)); obtain ⟨cs, hown, hel⟩ := HOA.out; (have HOW := Lib.hid hown); (have HEL := Lib.hid hel); (refine wpList_append_lies _ rfl (.tmp 107) (.tmp 109) 27 rfl w.heap.size 54 i2 _ 5 72 Try.underlying27 hi2 hy0 hy1 hy2 rfl (by decide) _ xs.length cs rfl HOW.out ⟨wg.heap.size, 0, none⟩ 1 1 (docC x a3 c3).toList rfl rfl (World.news_of_block (heap_alloc_new wg (.cells (docC x a3 c3) 54))) (doc_one _ _ _) (by decide) (by have := HXL.out; unfold maxLen; omega) (by have := HXL.out; omega) (HB.out.trans (HDA.out.bel.mono HB.out.size)).size _ rfl ?_); intro g9 c9 w9' hown9 hg9 _ _; have HON := Lib.hid (DOfAt.app HOW.out HEL.out ⟨IntsAt.of_owns HDA.out.row rfl, own_type HDA.out.row⟩ hg9 hown9); have HBN := Lib.hid ((HB.out.trans (HDA.out.bel.mono HB.out.size)).trans ((Below.refl w.heap.size _).grown hg9 (HB.out.trans (HDA.out.bel.mono HB.out.size)).size (fun q e => (HOW.out.lt q e).1))); clear hown9 hg9 hown hel hba))
                    go_roundw
                    case rel => exact ⟨j + 1, xs ++ [x], sE, HLT.out, by go_num, by rw [HPE.out], HSN.out, HSE.out, HAE.out, HON.out, HBN.out⟩
                    case measure => have := HLT.out; have := HJS.out; simp [intOf]; omega
          · obtain ⟨f1, f2, f3, f4, f5, e7, e8⟩ := hK
            rw [f1, f2, f3] at HH
            have HRK : Hid (actR s = readS false false false false 0 kd s1) := by unfold Hid; rw [HAR.out]; unfold readK; rw [f1, f2, f3, f4, f5]
            clear f1 f2 f3 f4 f5
            go_upto_region 15 with (go_at_call 19; (with_reducible refine HH.out.mono ?_); rintro e w8 ⟨rfl, hb⟩; have HB8 := Lib.hid (HB7.out.trans (hb.mono HB7.out.size)); have HG8 := Lib.hid ((hb.block _ (blk_lt HG7.out)).trans HG7.out); clear hb z0)
            obtain ⟨w9, hw9⟩ : ∃ w9, w8.alloc (.cells #[.bool false, .bool false, .bool false] 55) = w9 := ⟨_, rfl⟩
            change Code.wp _ _ _ _ (w8.alloc (.cells #[.bool false, .bool false, .bool false] 55))
            rw [hw9]
            have hb9 : Below w8.heap.size w8 w9 := by rw [← hw9]; exact (Below.refl _ _).alloc (Nat.le_refl _) _
            have hg9 : w9.heap[w8.heap.size]? = some (.cells #[.bool false, .bool false, .bool false] 55 (0, 0)) := by rw [← hw9]; exact heap_alloc_new _ _
            clear hw9
            have HD9 : Hid (DB wo false false false w8.heap.size ⟨kd, [], [], 0, []⟩ none 0 w9) := ⟨HB8.out.trans (hb9.mono HB8.out.size), (hb9.block _ (blk_lt HG8.out)).trans HG8.out, hg9, World.ownsRow_nil _ _ _ _⟩
            clear hb9 hg9
            obtain ⟨⟨z0, z1, z2, z3, z4⟩, ⟨y0, y1, y2⟩, ⟨r0, r1, r2, r3, r4⟩⟩ := HD9.out.cells
            have hcw : wrap64 (0 : Int) = 0 := IntWalk.wrap64_in _ (by omega)
            have HCL : Hid ((0 : Nat) ≤ 65536) := by unfold Hid; omega
            go_wp2
            clear z0 z1 z2 z3 z4 y0 y1 y2 r0 r1 r2 r3 r4
            have HAD := Lib.hid (rNums_atB HA1.out)
            have HPD : Hid (posOf b s1 = p1) := HP1.out
            have HT8 : Hid (∀ W, Below w.heap.size w W → ∀ n, Calls Try.prog 18 #[.slice a b.length c, .int .i64 (posOf b (rNums n s1).2), .int .i64 8] W fun e w' => e = .returned (.tuple #[.int .u64 (U (rNum (rNums n s1).2 8).1), .int .i64 (posOf b (rNum (rNums n s1).2 8).2)]) ∧ W = w') := fun W hb n => HTK.out W hb _ (HAD.out n) 8 rfl (by omega) (by omega)
            have HRX : Hid (actR s = (⟨kd, [], [], 0, (rNums 0 s1).1⟩, (rNums 0 s1).2)) := by
              unfold Hid
              rw [HRK.out]
              unfold readS
              simp only [if_false, Bool.false_eq_true]
            clear HRK
            have HLP : Hid (∀ n, (rNums n s1).1.length = n) := fun n => rNums_size _ n
            obtain ⟨sD, hsD⟩ : ∃ sD, s1 = sD := ⟨_, rfl⟩
            rw [hsD] at HAD HPD HT8 HRX HLP
            clear hsD
            go_loopw [5, 9, 12] (fun p n i wr => ∃ (m : Nat) (q9 : BitVec 64), m ≤ 0 ∧ i = .int .i64 m ∧ p = .int .i64 (posOf b (rNums m sD).2) ∧ n = .int .u64 (U q9) ∧ ∃ a3 c3, DB wo false false false w8.heap.size ⟨kd, [], [], 0, (rNums m sD).1⟩ a3 c3 wr) (fun _ _ i _ => 0 - (intOf i).toNat)
            case atStart => exact ⟨0, q1, Nat.zero_le _, rfl, by show Value.int _ _ = Value.int _ (posOf b sD); rw [HPD.out], rfl, none, 0, HD9.out⟩
            case round =>
              obtain ⟨m, q9, hm, rfl, rfl, rfl, a3, c3, hD⟩ := hrel
              by_cases hlm : m < 0
              · exact absurd hlm (by omega)
              · obtain rfl : m = 0 := by omega
                have m1 : ¬ ((0 : Nat) : Int) < (0 : Nat) := by omega
                clear hlm hm HLP HT8
                have HAE := Lib.hid (HAD.out 0)
                generalize (rNums 0 sD).1 = Lm at hD HRX
                generalize (rNums 0 sD).2 = sE at HRX HAE ⊢
                have HDM := Lib.hid hD
                have HBQ : Hid (Below w.heap.size w wr) := HB.out.trans (hD.bel.mono HB.out.size)
                obtain ⟨x, hx⟩ : ∃ x : SAct, ⟨kd, [], [], 0, Lm⟩ = x := ⟨_, rfl⟩
                rw [hx] at HRX HDM
                have HNO : Hid (actOk s = false → unpS b = ([], 5)) := fun h => by
                  rw [HUS.out, actsR_stop j s2 xs s HRUN.out h C HLT.out]
                have HOK : Hid (actOk s = (!sE.2 && rightA x)) := HNX.out x sE HRX.out
                clear hD hx
                cases hsE : sE.2 with
                | true =>
                  have HU5 : Hid (unpS b = ([], 5)) := HNO.out (by rw [HOK.out, hsE]; rfl)
                  rw [posOf_neg hsE]
                  clear hsE
                  go_wp2
                  go_ret2
                  exact RefUnp.none HU5.out HBQ.out
                | false =>
                  obtain ⟨pe, hpe, _, _⟩ := posOf_nat HAE.out hsE
                  have HPE := Lib.hid hpe
                  rw [hpe]
                  have HRG := Lib.hid (refRight20_any x a3 c3 wr)
                  have hx0 := HDM.out.act
                  obtain ⟨z0, z1, z2, z3, z4⟩ := HDM.out.cells.1
                  cases hrx : rightA x with
                  | false =>
                    have HU5 : Hid (unpS b = ([], 5)) := HNO.out (by rw [HOK.out, hsE, hrx]; rfl)
                    rw [hrx] at HRG
                    clear hsE hrx hx0 hpe
                    go_wp2_with (go_at_call 21; (with_reducible refine HRG.out.mono ?_); rintro e wg ⟨rfl, hb⟩; have HBG := Lib.hid (HBQ.out.trans (hb.mono HBQ.out.size)); clear hb)
                    go_ret2
                    exact RefUnp.none HU5.out HBG.out
                  | true =>
                    rw [hrx] at HRG
                    have HAK : Hid (actOk s = true) := by unfold Hid; rw [HOK.out, hsE, hrx]; rfl
                    have HSN : Hid (actsR (j + 1) s2 = some (xs ++ [x], sE)) := by
                      have := actsR_snoc j s2 xs s HRUN.out HAK.out
                      rw [HRX.out] at this
                      exact this
                    have HSE := Lib.hid hsE
                    obtain ⟨i2, hi2, hy0, hy1, hy2⟩ := info_partsA infoDoc
                    have HOQ := Lib.hid (HO.out.on HDM.out.bel)
                    obtain ⟨ao, co, rfl⟩ := HO.out.slice
                    have hxl : (xs.length : Int) ≤ 65536 := by have := HXL.out; omega
                    clear hsE hrx hx0 hpe
                    go_wp2_with (first
                      | (go_at_call 21; (with_reducible refine HRG.out.mono ?_); rintro e wg ⟨rfl, hb⟩; have hdg := HDM.out.on hb; have HDG := Lib.hid hdg; have HOG := Lib.hid (HOQ.out.on hb); clear z0 z1 z2 z3 z4; obtain ⟨z0, z1, z2, z3, z4⟩ := hdg.cells.1; clear hdg hb)
                      | (at_builtin; (have hba := (Below.refl wg.heap.size wg).alloc (Nat.le_refl _) (.cells (docC x a3 c3) 54)); (have HDA := Lib.hid (HDG.out.on hba)); (have HOA := Lib.hid (HOG.out.on hba)); obtain ⟨cs, hown, hel⟩ := HOA.out; (have HOW := Lib.hid hown); (have HEL := Lib.hid hel); (refine wpList_append_lies _ rfl (.tmp 107) (.tmp 109) 27 rfl w.heap.size 54 i2 _ 5 72 Try.underlying27 hi2 hy0 hy1 hy2 rfl (by decide) _ xs.length cs rfl HOW.out ⟨wg.heap.size, 0, none⟩ 1 1 (docC x a3 c3).toList rfl rfl (World.news_of_block (heap_alloc_new wg (.cells (docC x a3 c3) 54))) (doc_one _ _ _) (by decide) (by have := HXL.out; unfold maxLen; omega) (by have := HXL.out; omega) (HB.out.trans (HDA.out.bel.mono HB.out.size)).size _ rfl ?_); intro g9 c9 w9' hown9 hg9 _ _; have HON := Lib.hid (DOfAt.app HOW.out HEL.out ⟨IntsAt.of_owns HDA.out.row rfl, own_type HDA.out.row⟩ hg9 hown9); have HBN := Lib.hid ((HB.out.trans (HDA.out.bel.mono HB.out.size)).trans ((Below.refl w.heap.size _).grown hg9 (HB.out.trans (HDA.out.bel.mono HB.out.size)).size (fun q e => (HOW.out.lt q e).1))); clear hown9 hg9 hown hel hba))
                    go_roundw
                    case rel => exact ⟨j + 1, xs ++ [x], sE, HLT.out, by go_num, by rw [HPE.out], HSN.out, HSE.out, HAE.out, HON.out, HBN.out⟩
                    case measure => have := HLT.out; have := HJS.out; simp [intOf]; omega
          · obtain ⟨f1, f2, f3, f4, f5, e7, e8⟩ := hK
            rw [f1, f2, f3] at HH
            have HRK : Hid (actR s = readS false false true false 0 kd s1) := by unfold Hid; rw [HAR.out]; unfold readK; rw [f1, f2, f3, f4, f5]
            clear f1 f2 f3 f4 f5
            go_upto_region 15 with (go_at_call 19; (with_reducible refine HH.out.mono ?_); rintro e w8 ⟨rfl, hb⟩; have HB8 := Lib.hid (HB7.out.trans (hb.mono HB7.out.size)); have HG8 := Lib.hid ((hb.block _ (blk_lt HG7.out)).trans HG7.out); clear hb z0)
            obtain ⟨w9, hw9⟩ : ∃ w9, w8.alloc (.cells #[.bool false, .bool false, .bool true] 55) = w9 := ⟨_, rfl⟩
            change Code.wp _ _ _ _ (w8.alloc (.cells #[.bool false, .bool false, .bool true] 55))
            rw [hw9]
            have hb9 : Below w8.heap.size w8 w9 := by rw [← hw9]; exact (Below.refl _ _).alloc (Nat.le_refl _) _
            have hg9 : w9.heap[w8.heap.size]? = some (.cells #[.bool false, .bool false, .bool true] 55 (0, 0)) := by rw [← hw9]; exact heap_alloc_new _ _
            clear hw9
            have HD9 : Hid (DB wo false false true w8.heap.size ⟨kd, [], [], 0, []⟩ none 0 w9) := ⟨HB8.out.trans (hb9.mono HB8.out.size), (hb9.block _ (blk_lt HG8.out)).trans HG8.out, hg9, World.ownsRow_nil _ _ _ _⟩
            clear hb9 hg9
            obtain ⟨⟨z0, z1, z2, z3, z4⟩, ⟨y0, y1, y2⟩, ⟨r0, r1, r2, r3, r4⟩⟩ := HD9.out.cells
            have HX10 : Hid (∀ W, Below w.heap.size w W → Calls Try.prog 18 #[.slice a b.length c, .int .i64 p1, .int .i64 8] W fun e w' => e = .returned (.tuple #[.int .u64 (U (rNum s1 8).1), .int .i64 (posOf b (rNum s1 8).2)]) ∧ W = w') := fun W hb => by have := HTK.out W hb s1 HA1.out 8 rfl (by omega) (by omega); rw [HP1.out] at this; exact this
            have HA10 : Hid (AtB b (rNum s1 8).2) := rNum_atB 8 rfl (by omega) HA1.out
            obtain ⟨t10, ht10⟩ : ∃ t, (rNum s1 8).1 = t := ⟨_, rfl⟩
            obtain ⟨s10, hs10⟩ : ∃ t, (rNum s1 8).2 = t := ⟨_, rfl⟩
            have HRT10 : Hid (rNum s1 8 = (t10, s10)) := by unfold Hid; rw [← ht10, ← hs10]
            rw [ht10, hs10] at HX10
            rw [hs10] at HA10
            clear ht10 hs10
            obtain ⟨p10, hp10⟩ : ∃ p, posOf b s10 = p := ⟨_, rfl⟩
            rw [hp10] at HX10
            have HP10 := Lib.hid hp10
            clear hp10
            obtain ⟨nu, hnu⟩ : ∃ nu, wrap64 (U t10) = nu := ⟨_, rfl⟩
            have HNU : Hid (toI t10 = nu) := hnu
            go_upto_region 22 with (go_at_call 18; (with_reducible refine (HX10.out _ (HB.out.trans (HD9.out.bel.mono HB.out.size))).mono ?_); rintro e wt ⟨rfl, rfl⟩)
            obtain ⟨w10, hw10⟩ : ∃ w10, w9.setCell ⟨wo.heap.size, 3, none⟩ (.int .i64 nu) = w10 := ⟨_, rfl⟩
            change Code.wp _ _ _ _ (w9.setCell ⟨wo.heap.size, 3, none⟩ (.int .i64 nu))
            have hd10 := HD9.out.set 3 (.int .i64 nu) (x' := ⟨kd, [], [], nu, []⟩) rfl rfl
            rw [hw10] at hd10 ⊢
            have HD10 := Lib.hid hd10
            clear hw10 hd10
            clear z0 z1 z2 z3 z4 y0 y1 y2 r0 r1 r2 r3 r4
            obtain ⟨⟨z0, z1, z2, z3, z4⟩, ⟨y0, y1, y2⟩, ⟨r0, r1, r2, r3, r4⟩⟩ := HD10.out.cells
            have hcw : wrap64 (0 : Int) = 0 := IntWalk.wrap64_in _ (by omega)
            have HCL : Hid ((0 : Nat) ≤ 65536) := by unfold Hid; omega
            go_wp2
            clear z0 z1 z2 z3 z4 y0 y1 y2 r0 r1 r2 r3 r4
            have HAD := Lib.hid (rNums_atB HA10.out)
            have HPD : Hid (posOf b s10 = p10) := HP10.out
            have HT8 : Hid (∀ W, Below w.heap.size w W → ∀ n, Calls Try.prog 18 #[.slice a b.length c, .int .i64 (posOf b (rNums n s10).2), .int .i64 8] W fun e w' => e = .returned (.tuple #[.int .u64 (U (rNum (rNums n s10).2 8).1), .int .i64 (posOf b (rNum (rNums n s10).2 8).2)]) ∧ W = w') := fun W hb n => HTK.out W hb _ (HAD.out n) 8 rfl (by omega) (by omega)
            have HRX : Hid (actR s = (⟨kd, [], [], nu, (rNums 0 s10).1⟩, (rNums 0 s10).2)) := by
              unfold Hid
              rw [HRK.out]
              unfold readS
              simp only [if_true, if_false, Bool.false_eq_true]
              rw [HRT10.out]
              rw [HNU.out]
            clear HRK
            have HLP : Hid (∀ n, (rNums n s10).1.length = n) := fun n => rNums_size _ n
            obtain ⟨sD, hsD⟩ : ∃ sD, s10 = sD := ⟨_, rfl⟩
            rw [hsD] at HAD HPD HT8 HRX HLP
            clear hsD
            go_loopw [5, 9, 12] (fun p n i wr => ∃ (m : Nat) (q9 : BitVec 64), m ≤ 0 ∧ i = .int .i64 m ∧ p = .int .i64 (posOf b (rNums m sD).2) ∧ n = .int .u64 (U q9) ∧ ∃ a3 c3, DB wo false false true w8.heap.size ⟨kd, [], [], nu, (rNums m sD).1⟩ a3 c3 wr) (fun _ _ i _ => 0 - (intOf i).toNat)
            case atStart => exact ⟨0, t10, Nat.zero_le _, rfl, by show Value.int _ _ = Value.int _ (posOf b sD); rw [HPD.out], rfl, none, 0, HD10.out⟩
            case round =>
              obtain ⟨m, q9, hm, rfl, rfl, rfl, a3, c3, hD⟩ := hrel
              by_cases hlm : m < 0
              · exact absurd hlm (by omega)
              · obtain rfl : m = 0 := by omega
                have m1 : ¬ ((0 : Nat) : Int) < (0 : Nat) := by omega
                clear hlm hm HLP HT8
                have HAE := Lib.hid (HAD.out 0)
                generalize (rNums 0 sD).1 = Lm at hD HRX
                generalize (rNums 0 sD).2 = sE at HRX HAE ⊢
                have HDM := Lib.hid hD
                have HBQ : Hid (Below w.heap.size w wr) := HB.out.trans (hD.bel.mono HB.out.size)
                obtain ⟨x, hx⟩ : ∃ x : SAct, ⟨kd, [], [], nu, Lm⟩ = x := ⟨_, rfl⟩
                rw [hx] at HRX HDM
                have HNO : Hid (actOk s = false → unpS b = ([], 5)) := fun h => by
                  rw [HUS.out, actsR_stop j s2 xs s HRUN.out h C HLT.out]
                have HOK : Hid (actOk s = (!sE.2 && rightA x)) := HNX.out x sE HRX.out
                clear hD hx
                cases hsE : sE.2 with
                | true =>
                  have HU5 : Hid (unpS b = ([], 5)) := HNO.out (by rw [HOK.out, hsE]; rfl)
                  rw [posOf_neg hsE]
                  clear hsE
                  go_wp2
                  go_ret2
                  exact RefUnp.none HU5.out HBQ.out
                | false =>
                  obtain ⟨pe, hpe, _, _⟩ := posOf_nat HAE.out hsE
                  have HPE := Lib.hid hpe
                  rw [hpe]
                  have HRG := Lib.hid (refRight20_any x a3 c3 wr)
                  have hx0 := HDM.out.act
                  obtain ⟨z0, z1, z2, z3, z4⟩ := HDM.out.cells.1
                  cases hrx : rightA x with
                  | false =>
                    have HU5 : Hid (unpS b = ([], 5)) := HNO.out (by rw [HOK.out, hsE, hrx]; rfl)
                    rw [hrx] at HRG
                    clear hsE hrx hx0 hpe
                    go_wp2_with (go_at_call 21; (with_reducible refine HRG.out.mono ?_); rintro e wg ⟨rfl, hb⟩; have HBG := Lib.hid (HBQ.out.trans (hb.mono HBQ.out.size)); clear hb)
                    go_ret2
                    exact RefUnp.none HU5.out HBG.out
                  | true =>
                    rw [hrx] at HRG
                    have HAK : Hid (actOk s = true) := by unfold Hid; rw [HOK.out, hsE, hrx]; rfl
                    have HSN : Hid (actsR (j + 1) s2 = some (xs ++ [x], sE)) := by
                      have := actsR_snoc j s2 xs s HRUN.out HAK.out
                      rw [HRX.out] at this
                      exact this
                    have HSE := Lib.hid hsE
                    obtain ⟨i2, hi2, hy0, hy1, hy2⟩ := info_partsA infoDoc
                    have HOQ := Lib.hid (HO.out.on HDM.out.bel)
                    obtain ⟨ao, co, rfl⟩ := HO.out.slice
                    have hxl : (xs.length : Int) ≤ 65536 := by have := HXL.out; omega
                    clear hsE hrx hx0 hpe
                    go_wp2_with (first
                      | (go_at_call 21; (with_reducible refine HRG.out.mono ?_); rintro e wg ⟨rfl, hb⟩; have hdg := HDM.out.on hb; have HDG := Lib.hid hdg; have HOG := Lib.hid (HOQ.out.on hb); clear z0 z1 z2 z3 z4; obtain ⟨z0, z1, z2, z3, z4⟩ := hdg.cells.1; clear hdg hb)
                      | (at_builtin; (have hba := (Below.refl wg.heap.size wg).alloc (Nat.le_refl _) (.cells (docC x a3 c3) 54)); (have HDA := Lib.hid (HDG.out.on hba)); (have HOA := Lib.hid (HOG.out.on hba)); obtain ⟨cs, hown, hel⟩ := HOA.out; (have HOW := Lib.hid hown); (have HEL := Lib.hid hel); (refine wpList_append_lies _ rfl (.tmp 107) (.tmp 109) 27 rfl w.heap.size 54 i2 _ 5 72 Try.underlying27 hi2 hy0 hy1 hy2 rfl (by decide) _ xs.length cs rfl HOW.out ⟨wg.heap.size, 0, none⟩ 1 1 (docC x a3 c3).toList rfl rfl (World.news_of_block (heap_alloc_new wg (.cells (docC x a3 c3) 54))) (doc_one _ _ _) (by decide) (by have := HXL.out; unfold maxLen; omega) (by have := HXL.out; omega) (HB.out.trans (HDA.out.bel.mono HB.out.size)).size _ rfl ?_); intro g9 c9 w9' hown9 hg9 _ _; have HON := Lib.hid (DOfAt.app HOW.out HEL.out ⟨IntsAt.of_owns HDA.out.row rfl, own_type HDA.out.row⟩ hg9 hown9); have HBN := Lib.hid ((HB.out.trans (HDA.out.bel.mono HB.out.size)).trans ((Below.refl w.heap.size _).grown hg9 (HB.out.trans (HDA.out.bel.mono HB.out.size)).size (fun q e => (HOW.out.lt q e).1))); clear hown9 hg9 hown hel hba))
                    go_roundw
                    case rel => exact ⟨j + 1, xs ++ [x], sE, HLT.out, by go_num, by rw [HPE.out], HSN.out, HSE.out, HAE.out, HON.out, HBN.out⟩
                    case measure => have := HLT.out; have := HJS.out; simp [intOf]; omega
          · obtain ⟨f1, f2, f3, f4, f5, e7, e8⟩ := hK
            rw [f1, f2, f3] at HH
            have HRK : Hid (actR s = readS false false false true 0 kd s1) := by unfold Hid; rw [HAR.out]; unfold readK; rw [f1, f2, f3, f4, f5]
            clear f1 f2 f3 f4 f5
            go_upto_region 15 with (go_at_call 19; (with_reducible refine HH.out.mono ?_); rintro e w8 ⟨rfl, hb⟩; have HB8 := Lib.hid (HB7.out.trans (hb.mono HB7.out.size)); have HG8 := Lib.hid ((hb.block _ (blk_lt HG7.out)).trans HG7.out); clear hb z0)
            obtain ⟨w9, hw9⟩ : ∃ w9, w8.alloc (.cells #[.bool false, .bool false, .bool false] 55) = w9 := ⟨_, rfl⟩
            change Code.wp _ _ _ _ (w8.alloc (.cells #[.bool false, .bool false, .bool false] 55))
            rw [hw9]
            have hb9 : Below w8.heap.size w8 w9 := by rw [← hw9]; exact (Below.refl _ _).alloc (Nat.le_refl _) _
            have hg9 : w9.heap[w8.heap.size]? = some (.cells #[.bool false, .bool false, .bool false] 55 (0, 0)) := by rw [← hw9]; exact heap_alloc_new _ _
            clear hw9
            have HD9 : Hid (DB wo false false false w8.heap.size ⟨kd, [], [], 0, []⟩ none 0 w9) := ⟨HB8.out.trans (hb9.mono HB8.out.size), (hb9.block _ (blk_lt HG8.out)).trans HG8.out, hg9, World.ownsRow_nil _ _ _ _⟩
            clear hb9 hg9
            obtain ⟨⟨z0, z1, z2, z3, z4⟩, ⟨y0, y1, y2⟩, ⟨r0, r1, r2, r3, r4⟩⟩ := HD9.out.cells
            have HX10 : Hid (∀ W, Below w.heap.size w W → Calls Try.prog 18 #[.slice a b.length c, .int .i64 p1, .int .i64 1] W fun e w' => e = .returned (.tuple #[.int .u64 (U (rNum s1 1).1), .int .i64 (posOf b (rNum s1 1).2)]) ∧ W = w') := fun W hb => by have := HTK.out W hb s1 HA1.out 1 rfl (by omega) (by omega); rw [HP1.out] at this; exact this
            have HA10 : Hid (AtB b (rNum s1 1).2) := rNum_atB 1 rfl (by omega) HA1.out
            have hlt1 := num1_lt s1
            have hge1 := U_nonneg (rNum s1 1).1
            obtain ⟨t10, ht10⟩ : ∃ t, (rNum s1 1).1 = t := ⟨_, rfl⟩
            obtain ⟨s10, hs10⟩ : ∃ t, (rNum s1 1).2 = t := ⟨_, rfl⟩
            have HRT10 : Hid (rNum s1 1 = (t10, s10)) := by unfold Hid; rw [← ht10, ← hs10]
            rw [ht10, hs10] at HX10
            rw [hs10] at HA10
            rw [ht10] at hlt1 hge1
            clear ht10 hs10
            obtain ⟨Cn, hCn⟩ : ∃ Cn : Nat, U t10 = Cn := ⟨(U t10).toNat, by omega⟩
            rw [hCn] at HX10 hlt1
            have HCN : Hid ((U t10).toNat = Cn) := by unfold Hid; rw [hCn]; exact Int.toNat_natCast Cn
            obtain ⟨p10, hp10⟩ : ∃ p, posOf b s10 = p := ⟨_, rfl⟩
            rw [hp10] at HX10
            have HP10 := Lib.hid hp10
            clear hp10
            have HCL : Hid (Cn ≤ 65536) := Nat.le_of_lt (Int.ofNat_lt.1 (show ((Cn : Nat) : Int) < ((65536 : Nat) : Int) from hlt1))
            have hcw : wrap64 (Cn : Int) = Cn := IntWalk.wrap64_in _ ⟨Int.le_trans (by decide) (Int.natCast_nonneg Cn), Int.le_trans (Int.le_of_lt hlt1) (by decide)⟩
            clear hlt1 hge1 hCn
            go_wp2_with (go_at_call 18; (with_reducible refine (HX10.out _ (HB.out.trans (HD9.out.bel.mono HB.out.size))).mono ?_); rintro e wt ⟨rfl, rfl⟩)
            clear z0 z1 z2 z3 z4 y0 y1 y2 r0 r1 r2 r3 r4
            have HAD := Lib.hid (rNums_atB HA10.out)
            have HPD : Hid (posOf b s10 = p10) := HP10.out
            have HT8 : Hid (∀ W, Below w.heap.size w W → ∀ n, Calls Try.prog 18 #[.slice a b.length c, .int .i64 (posOf b (rNums n s10).2), .int .i64 8] W fun e w' => e = .returned (.tuple #[.int .u64 (U (rNum (rNums n s10).2 8).1), .int .i64 (posOf b (rNum (rNums n s10).2 8).2)]) ∧ W = w') := fun W hb n => HTK.out W hb _ (HAD.out n) 8 rfl (by omega) (by omega)
            have HRX : Hid (actR s = (⟨kd, [], [], 0, (rNums Cn s10).1⟩, (rNums Cn s10).2)) := by
              unfold Hid
              rw [HRK.out]
              unfold readS
              simp only [if_true, if_false, Bool.false_eq_true]
              rw [HRT10.out]
              rw [HCN.out]
            clear HRK
            have HLP : Hid (∀ n, (rNums n s10).1.length = n) := fun n => rNums_size _ n
            obtain ⟨sD, hsD⟩ : ∃ sD, s10 = sD := ⟨_, rfl⟩
            rw [hsD] at HAD HPD HT8 HRX HLP
            clear hsD
            go_loopw [5, 9, 12] (fun p n i wr => ∃ (m : Nat) (q9 : BitVec 64), m ≤ Cn ∧ i = .int .i64 m ∧ p = .int .i64 (posOf b (rNums m sD).2) ∧ n = .int .u64 (U q9) ∧ ∃ a3 c3, DB wo false false false w8.heap.size ⟨kd, [], [], 0, (rNums m sD).1⟩ a3 c3 wr) (fun _ _ i _ => Cn - (intOf i).toNat)
            case atStart => exact ⟨0, q1, Nat.zero_le _, rfl, by show Value.int _ _ = Value.int _ (posOf b sD); rw [HPD.out], rfl, none, 0, HD9.out⟩
            case round =>
              obtain ⟨m, q9, hm, rfl, rfl, rfl, a3, c3, hD⟩ := hrel
              by_cases hlm : m < Cn
              · have m1 : (m : Int) < Cn := by omega
                have HLM := Lib.hid hlm
                have hms : (m : Int) ≤ 65536 := Int.ofNat_le.2 (Nat.le_trans (Nat.le_of_lt hlm) HCL.out)
                have HMS : Hid ((m : Int) ≤ 65536) := hms
                have HSUC : Hid (rNums (m + 1) sD = ((rNums m sD).1 ++ [toI (rNum (rNums m sD).2 8).1], (rNum (rNums m sD).2 8).2)) := rfl
                have HTN := Lib.hid (fun W hb => HT8.out W hb m)
                have HLL := Lib.hid (HLP.out m)
                generalize (rNums m sD).1 = Lm at hD HSUC HLL
                generalize (rNums m sD).2 = sm at HSUC HTN ⊢
                generalize (rNum sm 8).1 = y at HSUC HTN
                generalize (rNum sm 8).2 = sm2 at HSUC HTN
                obtain ⟨pm, hpm⟩ : ∃ p, posOf b sm = p := ⟨_, rfl⟩
                obtain ⟨pn, hpn⟩ : ∃ p, posOf b sm2 = p := ⟨_, rfl⟩
                rw [hpm] at HTN ⊢
                rw [hpn] at HTN
                have HPN := Lib.hid hpn
                obtain ⟨yi, hyi⟩ : ∃ yi, wrap64 (U y) = yi := ⟨_, rfl⟩
                have HYI : Hid (toI y = yi) := hyi
                have HDM := Lib.hid hD
                obtain ⟨lm, hlm2⟩ : ∃ lm, Lm.length = lm := ⟨_, rfl⟩
                have HLM2 := Lib.hid hlm2
                have z4 : wr.cell? ⟨wo.heap.size, 4, none⟩ = some (.slice a3 lm c3) := by rw [← hlm2]; exact blk_cell hD.act 4
                obtain ⟨⟨z0, z1, z2, z3, _⟩, _, ⟨r0, r1, r2, r3, r4⟩⟩ := hD.cells
                clear hD hlm hm hpm hpn hlm2
                go_wp2_with (first
                  | (go_at_call 18; (with_reducible refine (HTN.out _ (HB.out.trans (HDM.out.bel.mono HB.out.size))).mono ?_); rintro e wt ⟨rfl, rfl⟩)
                  | (at_builtin; (have hba := (Below.refl wr.heap.size wr).alloc (Nat.le_refl _) (.cells #[.int .i64 yi] 3)); (have HDA := Lib.hid (HDM.out.on hba)); (have HRW := Lib.hid (show (wr.alloc (.cells #[.int .i64 yi] 3)).ownsRow wo.heap.size 3 1 (.slice a3 lm c3) Lm.length (ints Lm) from by rw [← HLM2.out]; exact HDA.out.row)); (have HUI := Lib.hid (IntsAt.of_blk (l := [yi]) (heap_alloc_new wr (.cells (ints [yi]).toArray 3)))); (refine wpList_append_ints rfl (.tmp 94) (.tmp 97) rfl rfl wo.heap.size i1 hi1 hz10 hz11 hz12 (.slice a3 lm c3) rfl Lm HRW.out _ rfl _ [yi] HUI.out (by have := HLL.out; have := HMS.out; simp; omega) HDA.out.bel.size ?_); intro v5 w5 n5 hn hown hg _; obtain ⟨a5, c5, rfl⟩ := owns_slice hown; have hx5 := blk_keep HDA.out.act hg (own_ne HRW.out HDA.out.act (by decide)); clear z0 z1 z2 z3 z4 r0 r1 r2 r3 r4; have z4 := blk_cell hx5 4; have r4 := blk_frozen hx5 4; have z0 := blk_cell hx5 0; have z1 := blk_cell hx5 1; have z2 := blk_cell hx5 2; have z3 := blk_cell hx5 3; have HDN := Lib.hid (HDA.out.grown (b3 := a5) (d3 := c5) hn.out (show (wr.alloc (.cells #[.int .i64 yi] 3)).grownBy w5 (Value.slice a3 Lm.length c3).ownBlock from by rw [HLM2.out]; exact hg) hown); clear hba hn hown hg hx5))
                go_roundw
                case rel =>
                  clear hcw
                  exact ⟨m + 1, y, HLM.out, by go_num, by rw [HSUC.out, HPN.out]; try rfl, rfl, a5, c5, by rw [HSUC.out, HYI.out]; exact HDN.out⟩
                case measure =>
                  clear hcw
                  have := HLM.out
                  have := HMS.out
                  simp [intOf]
                  omega
              · obtain rfl : m = Cn := by omega
                have m1 : ¬ ((m : Nat) : Int) < (m : Nat) := by omega
                clear hlm hm HLP HT8
                have HAE := Lib.hid (HAD.out m)
                generalize (rNums m sD).1 = Lm at hD HRX
                generalize (rNums m sD).2 = sE at HRX HAE ⊢
                have HDM := Lib.hid hD
                have HBQ : Hid (Below w.heap.size w wr) := HB.out.trans (hD.bel.mono HB.out.size)
                obtain ⟨x, hx⟩ : ∃ x : SAct, ⟨kd, [], [], 0, Lm⟩ = x := ⟨_, rfl⟩
                rw [hx] at HRX HDM
                have HNO : Hid (actOk s = false → unpS b = ([], 5)) := fun h => by
                  rw [HUS.out, actsR_stop j s2 xs s HRUN.out h C HLT.out]
                have HOK : Hid (actOk s = (!sE.2 && rightA x)) := HNX.out x sE HRX.out
                clear hD hx
                cases hsE : sE.2 with
                | true =>
                  have HU5 : Hid (unpS b = ([], 5)) := HNO.out (by rw [HOK.out, hsE]; rfl)
                  rw [posOf_neg hsE]
                  clear hsE
                  go_wp2
                  go_ret2
                  exact RefUnp.none HU5.out HBQ.out
                | false =>
                  obtain ⟨pe, hpe, _, _⟩ := posOf_nat HAE.out hsE
                  have HPE := Lib.hid hpe
                  rw [hpe]
                  have HRG := Lib.hid (refRight20_any x a3 c3 wr)
                  have hx0 := HDM.out.act
                  obtain ⟨z0, z1, z2, z3, z4⟩ := HDM.out.cells.1
                  cases hrx : rightA x with
                  | false =>
                    have HU5 : Hid (unpS b = ([], 5)) := HNO.out (by rw [HOK.out, hsE, hrx]; rfl)
                    rw [hrx] at HRG
                    clear hsE hrx hx0 hpe
                    go_wp2_with (go_at_call 21; (with_reducible refine HRG.out.mono ?_); rintro e wg ⟨rfl, hb⟩; have HBG := Lib.hid (HBQ.out.trans (hb.mono HBQ.out.size)); clear hb)
                    go_ret2
                    exact RefUnp.none HU5.out HBG.out
                  | true =>
                    rw [hrx] at HRG
                    have HAK : Hid (actOk s = true) := by unfold Hid; rw [HOK.out, hsE, hrx]; rfl
                    have HSN : Hid (actsR (j + 1) s2 = some (xs ++ [x], sE)) := by
                      have := actsR_snoc j s2 xs s HRUN.out HAK.out
                      rw [HRX.out] at this
                      exact this
                    have HSE := Lib.hid hsE
                    obtain ⟨i2, hi2, hy0, hy1, hy2⟩ := info_partsA infoDoc
                    have HOQ := Lib.hid (HO.out.on HDM.out.bel)
                    obtain ⟨ao, co, rfl⟩ := HO.out.slice
                    have hxl : (xs.length : Int) ≤ 65536 := by have := HXL.out; omega
                    clear hsE hrx hx0 hpe
                    go_wp2_with (first
                      | (go_at_call 21; (with_reducible refine HRG.out.mono ?_); rintro e wg ⟨rfl, hb⟩; have hdg := HDM.out.on hb; have HDG := Lib.hid hdg; have HOG := Lib.hid (HOQ.out.on hb); clear z0 z1 z2 z3 z4; obtain ⟨z0, z1, z2, z3, z4⟩ := hdg.cells.1; clear hdg hb)
                      | (at_builtin; (have hba := (Below.refl wg.heap.size wg).alloc (Nat.le_refl _) (.cells (docC x a3 c3) 54)); (have HDA := Lib.hid (HDG.out.on hba)); (have HOA := Lib.hid (HOG.out.on hba)); obtain ⟨cs, hown, hel⟩ := HOA.out; (have HOW := Lib.hid hown); (have HEL := Lib.hid hel); (refine wpList_append_lies _ rfl (.tmp 107) (.tmp 109) 27 rfl w.heap.size 54 i2 _ 5 72 Try.underlying27 hi2 hy0 hy1 hy2 rfl (by decide) _ xs.length cs rfl HOW.out ⟨wg.heap.size, 0, none⟩ 1 1 (docC x a3 c3).toList rfl rfl (World.news_of_block (heap_alloc_new wg (.cells (docC x a3 c3) 54))) (doc_one _ _ _) (by decide) (by have := HXL.out; unfold maxLen; omega) (by have := HXL.out; omega) (HB.out.trans (HDA.out.bel.mono HB.out.size)).size _ rfl ?_); intro g9 c9 w9' hown9 hg9 _ _; have HON := Lib.hid (DOfAt.app HOW.out HEL.out ⟨IntsAt.of_owns HDA.out.row rfl, own_type HDA.out.row⟩ hg9 hown9); have HBN := Lib.hid ((HB.out.trans (HDA.out.bel.mono HB.out.size)).trans ((Below.refl w.heap.size _).grown hg9 (HB.out.trans (HDA.out.bel.mono HB.out.size)).size (fun q e => (HOW.out.lt q e).1))); clear hown9 hg9 hown hel hba))
                    go_roundw
                    case rel => exact ⟨j + 1, xs ++ [x], sE, HLT.out, by go_num, by rw [HPE.out], HSN.out, HSE.out, HAE.out, HON.out, HBN.out⟩
                    case measure => have := HLT.out; have := HJS.out; simp [intOf]; omega
          · obtain ⟨f1, f2, f3, f4, f5, e7, e8⟩ := hK
            rw [f1, f2, f3] at HH
            have HRK : Hid (actR s = readS false false false false 3 kd s1) := by unfold Hid; rw [HAR.out]; unfold readK; rw [f1, f2, f3, f4, f5]
            clear f1 f2 f3 f4 f5
            go_upto_region 15 with (go_at_call 19; (with_reducible refine HH.out.mono ?_); rintro e w8 ⟨rfl, hb⟩; have HB8 := Lib.hid (HB7.out.trans (hb.mono HB7.out.size)); have HG8 := Lib.hid ((hb.block _ (blk_lt HG7.out)).trans HG7.out); clear hb z0)
            obtain ⟨w9, hw9⟩ : ∃ w9, w8.alloc (.cells #[.bool false, .bool false, .bool false] 55) = w9 := ⟨_, rfl⟩
            change Code.wp _ _ _ _ (w8.alloc (.cells #[.bool false, .bool false, .bool false] 55))
            rw [hw9]
            have hb9 : Below w8.heap.size w8 w9 := by rw [← hw9]; exact (Below.refl _ _).alloc (Nat.le_refl _) _
            have hg9 : w9.heap[w8.heap.size]? = some (.cells #[.bool false, .bool false, .bool false] 55 (0, 0)) := by rw [← hw9]; exact heap_alloc_new _ _
            clear hw9
            have HD9 : Hid (DB wo false false false w8.heap.size ⟨kd, [], [], 0, []⟩ none 0 w9) := ⟨HB8.out.trans (hb9.mono HB8.out.size), (hb9.block _ (blk_lt HG8.out)).trans HG8.out, hg9, World.ownsRow_nil _ _ _ _⟩
            clear hb9 hg9
            obtain ⟨⟨z0, z1, z2, z3, z4⟩, ⟨y0, y1, y2⟩, ⟨r0, r1, r2, r3, r4⟩⟩ := HD9.out.cells
            have hcw : wrap64 (3 : Int) = 3 := IntWalk.wrap64_in _ (by omega)
            have HCL : Hid ((3 : Nat) ≤ 65536) := by unfold Hid; omega
            go_wp2
            clear z0 z1 z2 z3 z4 y0 y1 y2 r0 r1 r2 r3 r4
            have HAD := Lib.hid (rNums_atB HA1.out)
            have HPD : Hid (posOf b s1 = p1) := HP1.out
            have HT8 : Hid (∀ W, Below w.heap.size w W → ∀ n, Calls Try.prog 18 #[.slice a b.length c, .int .i64 (posOf b (rNums n s1).2), .int .i64 8] W fun e w' => e = .returned (.tuple #[.int .u64 (U (rNum (rNums n s1).2 8).1), .int .i64 (posOf b (rNum (rNums n s1).2 8).2)]) ∧ W = w') := fun W hb n => HTK.out W hb _ (HAD.out n) 8 rfl (by omega) (by omega)
            have HRX : Hid (actR s = (⟨kd, [], [], 0, (rNums 3 s1).1⟩, (rNums 3 s1).2)) := by
              unfold Hid
              rw [HRK.out]
              unfold readS
              simp only [if_false, Bool.false_eq_true]
            clear HRK
            have HLP : Hid (∀ n, (rNums n s1).1.length = n) := fun n => rNums_size _ n
            obtain ⟨sD, hsD⟩ : ∃ sD, s1 = sD := ⟨_, rfl⟩
            rw [hsD] at HAD HPD HT8 HRX HLP
            clear hsD
            go_loopw [5, 9, 12] (fun p n i wr => ∃ (m : Nat) (q9 : BitVec 64), m ≤ 3 ∧ i = .int .i64 m ∧ p = .int .i64 (posOf b (rNums m sD).2) ∧ n = .int .u64 (U q9) ∧ ∃ a3 c3, DB wo false false false w8.heap.size ⟨kd, [], [], 0, (rNums m sD).1⟩ a3 c3 wr) (fun _ _ i _ => 3 - (intOf i).toNat)
            case atStart => exact ⟨0, q1, Nat.zero_le _, rfl, by show Value.int _ _ = Value.int _ (posOf b sD); rw [HPD.out], rfl, none, 0, HD9.out⟩
            case round =>
              obtain ⟨m, q9, hm, rfl, rfl, rfl, a3, c3, hD⟩ := hrel
              by_cases hlm : m < 3
              · have m1 : (m : Int) < 3 := by omega
                have HLM := Lib.hid hlm
                have hms : (m : Int) ≤ 65536 := Int.ofNat_le.2 (Nat.le_trans (Nat.le_of_lt hlm) HCL.out)
                have HMS : Hid ((m : Int) ≤ 65536) := hms
                have HSUC : Hid (rNums (m + 1) sD = ((rNums m sD).1 ++ [toI (rNum (rNums m sD).2 8).1], (rNum (rNums m sD).2 8).2)) := rfl
                have HTN := Lib.hid (fun W hb => HT8.out W hb m)
                have HLL := Lib.hid (HLP.out m)
                generalize (rNums m sD).1 = Lm at hD HSUC HLL
                generalize (rNums m sD).2 = sm at HSUC HTN ⊢
                generalize (rNum sm 8).1 = y at HSUC HTN
                generalize (rNum sm 8).2 = sm2 at HSUC HTN
                obtain ⟨pm, hpm⟩ : ∃ p, posOf b sm = p := ⟨_, rfl⟩
                obtain ⟨pn, hpn⟩ : ∃ p, posOf b sm2 = p := ⟨_, rfl⟩
                rw [hpm] at HTN ⊢
                rw [hpn] at HTN
                have HPN := Lib.hid hpn
                obtain ⟨yi, hyi⟩ : ∃ yi, wrap64 (U y) = yi := ⟨_, rfl⟩
                have HYI : Hid (toI y = yi) := hyi
                have HDM := Lib.hid hD
                obtain ⟨lm, hlm2⟩ : ∃ lm, Lm.length = lm := ⟨_, rfl⟩
                have HLM2 := Lib.hid hlm2
                have z4 : wr.cell? ⟨wo.heap.size, 4, none⟩ = some (.slice a3 lm c3) := by rw [← hlm2]; exact blk_cell hD.act 4
                obtain ⟨⟨z0, z1, z2, z3, _⟩, _, ⟨r0, r1, r2, r3, r4⟩⟩ := hD.cells
                clear hD hlm hm hpm hpn hlm2
                go_wp2_with (first
                  | (go_at_call 18; (with_reducible refine (HTN.out _ (HB.out.trans (HDM.out.bel.mono HB.out.size))).mono ?_); rintro e wt ⟨rfl, rfl⟩)
                  | (at_builtin; (have hba := (Below.refl wr.heap.size wr).alloc (Nat.le_refl _) (.cells #[.int .i64 yi] 3)); (have HDA := Lib.hid (HDM.out.on hba)); (have HRW := Lib.hid (show (wr.alloc (.cells #[.int .i64 yi] 3)).ownsRow wo.heap.size 3 1 (.slice a3 lm c3) Lm.length (ints Lm) from by rw [← HLM2.out]; exact HDA.out.row)); (have HUI := Lib.hid (IntsAt.of_blk (l := [yi]) (heap_alloc_new wr (.cells (ints [yi]).toArray 3)))); (refine wpList_append_ints rfl (.tmp 94) (.tmp 97) rfl rfl wo.heap.size i1 hi1 hz10 hz11 hz12 (.slice a3 lm c3) rfl Lm HRW.out _ rfl _ [yi] HUI.out (by have := HLL.out; have := HMS.out; simp; omega) HDA.out.bel.size ?_); intro v5 w5 n5 hn hown hg _; obtain ⟨a5, c5, rfl⟩ := owns_slice hown; have hx5 := blk_keep HDA.out.act hg (own_ne HRW.out HDA.out.act (by decide)); clear z0 z1 z2 z3 z4 r0 r1 r2 r3 r4; have z4 := blk_cell hx5 4; have r4 := blk_frozen hx5 4; have z0 := blk_cell hx5 0; have z1 := blk_cell hx5 1; have z2 := blk_cell hx5 2; have z3 := blk_cell hx5 3; have HDN := Lib.hid (HDA.out.grown (b3 := a5) (d3 := c5) hn.out (show (wr.alloc (.cells #[.int .i64 yi] 3)).grownBy w5 (Value.slice a3 Lm.length c3).ownBlock from by rw [HLM2.out]; exact hg) hown); clear hba hn hown hg hx5))
                go_roundw
                case rel =>
                  clear hcw
                  exact ⟨m + 1, y, HLM.out, by go_num, by rw [HSUC.out, HPN.out]; try rfl, rfl, a5, c5, by rw [HSUC.out, HYI.out]; exact HDN.out⟩
                case measure =>
                  clear hcw
                  have := HLM.out
                  have := HMS.out
                  simp [intOf]
                  omega
              · obtain rfl : m = 3 := by omega
                have m1 : ¬ ((3 : Nat) : Int) < (3 : Nat) := by omega
                clear hlm hm HLP HT8
                have HAE := Lib.hid (HAD.out 3)
                generalize (rNums 3 sD).1 = Lm at hD HRX
                generalize (rNums 3 sD).2 = sE at HRX HAE ⊢
                have HDM := Lib.hid hD
                have HBQ : Hid (Below w.heap.size w wr) := HB.out.trans (hD.bel.mono HB.out.size)
                obtain ⟨x, hx⟩ : ∃ x : SAct, ⟨kd, [], [], 0, Lm⟩ = x := ⟨_, rfl⟩
                rw [hx] at HRX HDM
                have HNO : Hid (actOk s = false → unpS b = ([], 5)) := fun h => by
                  rw [HUS.out, actsR_stop j s2 xs s HRUN.out h C HLT.out]
                have HOK : Hid (actOk s = (!sE.2 && rightA x)) := HNX.out x sE HRX.out
                clear hD hx
                cases hsE : sE.2 with
                | true =>
                  have HU5 : Hid (unpS b = ([], 5)) := HNO.out (by rw [HOK.out, hsE]; rfl)
                  rw [posOf_neg hsE]
                  clear hsE
                  go_wp2
                  go_ret2
                  exact RefUnp.none HU5.out HBQ.out
                | false =>
                  obtain ⟨pe, hpe, _, _⟩ := posOf_nat HAE.out hsE
                  have HPE := Lib.hid hpe
                  rw [hpe]
                  have HRG := Lib.hid (refRight20_any x a3 c3 wr)
                  have hx0 := HDM.out.act
                  obtain ⟨z0, z1, z2, z3, z4⟩ := HDM.out.cells.1
                  cases hrx : rightA x with
                  | false =>
                    have HU5 : Hid (unpS b = ([], 5)) := HNO.out (by rw [HOK.out, hsE, hrx]; rfl)
                    rw [hrx] at HRG
                    clear hsE hrx hx0 hpe
                    go_wp2_with (go_at_call 21; (with_reducible refine HRG.out.mono ?_); rintro e wg ⟨rfl, hb⟩; have HBG := Lib.hid (HBQ.out.trans (hb.mono HBQ.out.size)); clear hb)
                    go_ret2
                    exact RefUnp.none HU5.out HBG.out
                  | true =>
                    rw [hrx] at HRG
                    have HAK : Hid (actOk s = true) := by unfold Hid; rw [HOK.out, hsE, hrx]; rfl
                    have HSN : Hid (actsR (j + 1) s2 = some (xs ++ [x], sE)) := by
                      have := actsR_snoc j s2 xs s HRUN.out HAK.out
                      rw [HRX.out] at this
                      exact this
                    have HSE := Lib.hid hsE
                    obtain ⟨i2, hi2, hy0, hy1, hy2⟩ := info_partsA infoDoc
                    have HOQ := Lib.hid (HO.out.on HDM.out.bel)
                    obtain ⟨ao, co, rfl⟩ := HO.out.slice
                    have hxl : (xs.length : Int) ≤ 65536 := by have := HXL.out; omega
                    clear hsE hrx hx0 hpe
                    go_wp2_with (first
                      | (go_at_call 21; (with_reducible refine HRG.out.mono ?_); rintro e wg ⟨rfl, hb⟩; have hdg := HDM.out.on hb; have HDG := Lib.hid hdg; have HOG := Lib.hid (HOQ.out.on hb); clear z0 z1 z2 z3 z4; obtain ⟨z0, z1, z2, z3, z4⟩ := hdg.cells.1; clear hdg hb)
                      | (at_builtin; (have hba := (Below.refl wg.heap.size wg).alloc (Nat.le_refl _) (.cells (docC x a3 c3) 54)); (have HDA := Lib.hid (HDG.out.on hba)); (have HOA := Lib.hid (HOG.out.on hba)); obtain ⟨cs, hown, hel⟩ := HOA.out; (have HOW := Lib.hid hown); (have HEL := Lib.hid hel); (refine wpList_append_lies _ rfl (.tmp 107) (.tmp 109) 27 rfl w.heap.size 54 i2 _ 5 72 Try.underlying27 hi2 hy0 hy1 hy2 rfl (by decide) _ xs.length cs rfl HOW.out ⟨wg.heap.size, 0, none⟩ 1 1 (docC x a3 c3).toList rfl rfl (World.news_of_block (heap_alloc_new wg (.cells (docC x a3 c3) 54))) (doc_one _ _ _) (by decide) (by have := HXL.out; unfold maxLen; omega) (by have := HXL.out; omega) (HB.out.trans (HDA.out.bel.mono HB.out.size)).size _ rfl ?_); intro g9 c9 w9' hown9 hg9 _ _; have HON := Lib.hid (DOfAt.app HOW.out HEL.out ⟨IntsAt.of_owns HDA.out.row rfl, own_type HDA.out.row⟩ hg9 hown9); have HBN := Lib.hid ((HB.out.trans (HDA.out.bel.mono HB.out.size)).trans ((Below.refl w.heap.size _).grown hg9 (HB.out.trans (HDA.out.bel.mono HB.out.size)).size (fun q e => (HOW.out.lt q e).1))); clear hown9 hg9 hown hel hba))
                    go_roundw
                    case rel => exact ⟨j + 1, xs ++ [x], sE, HLT.out, by go_num, by rw [HPE.out], HSN.out, HSE.out, HAE.out, HON.out, HBN.out⟩
                    case measure => have := HLT.out; have := HJS.out; simp [intOf]; omega
        · have jn : ¬ (j : Int) < C := by omega
          have hjC : j = C := by omega
          have hrun2 : actsR C s2 = some (xs, s) := by rw [← hjC]; exact hrun
          obtain ⟨p, hp, hpb, hpl⟩ := posOf_nat hA hbs
          rw [hp]
          have HR := Lib.hid hrun2
          obtain ⟨ao, co, rfl⟩ := hO.slice
          have HO := Lib.hid hO
          have HB := Lib.hid hB
          clear hrun hrun2 hbs hA hO hB hlt hj hjC hp
          by_cases hpe : p = b.length
          · have HU : Hid (unpS b = (xs, 0)) := by
              unfold Hid
              rw [HUS.out, HR.out]
              show (if s.1.length = 0 then (xs, (0 : Int)) else ([], 5)) = _
              rw [if_pos (by omega)]
            have h1 : ((p : Int) == (b.length : Int)) = true := by rw [beq_iff_eq]; omega
            clear hpb hpl hpe
            go_wp2
            go_ret2
            exact ⟨ao, co, by rw [HU.out]; try rfl, by rw [HU.out]; exact HO.out.docs, HB.out⟩
          · have HU : Hid (unpS b = ([], 5)) := by
              unfold Hid
              rw [HUS.out, HR.out]
              show (if s.1.length = 0 then (xs, (0 : Int)) else ([], 5)) = _
              rw [if_neg (by omega)]
            have h1 : ((p : Int) == (b.length : Int)) = false := beq_eq_false_iff_ne.2 (by omega)
            clear hpb hpl hpe
            go_wp2
            go_ret2
            exact RefUnp.none HU.out HB.out
end Go.Proofs.Ytgaabclgoolalaa

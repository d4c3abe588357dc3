/-
  Proved: the order in which things are counted does not matter, and what is counted since is what was counted since. Whatever things and cut come in, the law TallyOrders answers true and the arguments read as they did.
  Conditions: none.
-/
import Derived.Test.YtjcpiljgbomceaaOrdMath
import Derived.Test.YtjcpiljgbomceaaPairs
import Derived.Test.YtjcpiljgbomceaaQuietB
import Derived.Deep.RegionHeld3
namespace Go.Proofs.Ytjcpiljgbomceaa
open Go.ChangeShapes Go.WideShapes Go.ChangeAt Go.RowKit

theorem add_it {w : World} {T g : Nat} {ls : List (Int × Int)} (h : TalAt w T g (cntL ls)) (p : Int × Int) (hl : ls.length ≤ 1000) :
    Calls Try.prog 11 #[.pointer (some ⟨T, 0, none⟩), .int .i64 (kdP p : Nat), .int .i64 (nnP p)] w (AddDid T g (cntL (ls ++ [p])) w) := by
  have := add_any h (k := kdP p) (by rw [cntL_len]; exact kd_lt p) (nnP p) (nn_bd p).1 (by have := (nn_bd p).2; omega)
  rw [cntL_snoc _ _ hl] at this
  exact this
theorem TalAt.moved {w w' : World} {T g g' : Nat} {l : List Int} (h : TalAt w T g l) (hm : Moves (fun b => b = g') w w') (h1 : T ≠ g') (h2 : g ≠ g') : TalAt w' T g l :=
  ⟨h.ok, (hm.block T (blk_lt h.blk) h1).trans h.blk, (hm.block g (blk_lt h.row) h2).trans h.row⟩
/-- Where the three tallies stand. -/
structure Apart3 (n T1 g1 T2 g2 T3 g3 : Nat) : Prop where
  lo : n ≤ g1 ∧ n ≤ g2 ∧ n ≤ g3
  gg : g1 ≠ g2 ∧ g1 ≠ g3 ∧ g2 ≠ g3
  t1 : T1 ≠ g2 ∧ T1 ≠ g3
  t2 : T2 ≠ g1 ∧ T2 ≠ g3
  t3 : T3 ≠ g1 ∧ T3 ≠ g2
/-- Three tallies' contents. -/
structure Three (W : World) (T1 g1 T2 g2 T3 g3 : Nat) (a b c : List Int) : Prop where
  a : TalAt W T1 g1 a
  b : TalAt W T2 g2 b
  c : TalAt W T3 g3 c
section
variable {W W' : World} {n T1 g1 T2 g2 T3 g3 : Nat} {a b c d : List Int}
theorem Three.same (h : Three W T1 g1 T2 g2 T3 g3 a b c) (hb : Below W.heap.size W W') : Three W' T1 g1 T2 g2 T3 g3 a b c := ⟨h.a.same hb, h.b.same hb, h.c.same hb⟩
theorem Three.one (h : Three W T1 g1 T2 g2 T3 g3 a b c) (hA : Apart3 n T1 g1 T2 g2 T3 g3) (h' : TalAt W' T1 g1 d) (hm : Moves (fun b => b = g1) W W') : Three W' T1 g1 T2 g2 T3 g3 d b c := ⟨h', h.b.moved hm hA.t2.1 hA.gg.1.symm, h.c.moved hm hA.t3.1 hA.gg.2.1.symm⟩
theorem Three.two (h : Three W T1 g1 T2 g2 T3 g3 a b c) (hA : Apart3 n T1 g1 T2 g2 T3 g3) (h' : TalAt W' T2 g2 d) (hm : Moves (fun b => b = g2) W W') : Three W' T1 g1 T2 g2 T3 g3 a d c := ⟨h.a.moved hm hA.t1.1 hA.gg.1, h', h.c.moved hm hA.t3.2 hA.gg.2.2.symm⟩
theorem Three.three (h : Three W T1 g1 T2 g2 T3 g3 a b c) (hA : Apart3 n T1 g1 T2 g2 T3 g3) (h' : TalAt W' T3 g3 d) (hm : Moves (fun b => b = g3) W W') : Three W' T1 g1 T2 g2 T3 g3 a b d := ⟨h.a.moved hm hA.t1.2 hA.gg.2.1, h.b.moved hm hA.t2.2 hA.gg.2.2, h'⟩
end
theorem ints_moved {g : Nat} {w w' : World} {v : Value} {l : List Int} (h : IntsAt w.heap.size w v l) (hm : Moves (fun b => b = g) w w') (hv : ∀ b, v.ownBlock = some b → b ≠ g) : IntsAt w'.heap.size w' v l :=
  h.keep hm.size fun _ e hp => hm.cell hp (hv _ e)
/-- The row that was taken at the cut. -/
def WasAt (W : World) (g1 g2 g3 : Nat) (v : Value) (l : List Int) : Prop := IntsAt W.heap.size W v l ∧ ∀ b, v.ownBlock = some b → b ≠ g1 ∧ b ≠ g2 ∧ b ≠ g3
theorem WasAt.moved {W W' : World} {g g1 g2 g3 : Nat} {v : Value} {l : List Int} (h : WasAt W g1 g2 g3 v l) (hm : Moves (fun b => b = g) W W') (hg : g = g1 ∨ g = g2 ∨ g = g3) : WasAt W' g1 g2 g3 v l :=
  ⟨ints_moved h.1 hm (fun b e => by have := h.2 b e; omega), h.2⟩
theorem WasAt.same {W W' : World} {g1 g2 g3 : Nat} {v : Value} {l : List Int} (h : WasAt W g1 g2 g3 v l) (hb : Below W.heap.size W W') : WasAt W' g1 g2 g3 v l := ⟨h.1.next hb, h.2⟩
/-- What holds at a round's head. -/
def OrdAt (w W : World) (T1 g1 T2 g2 T3 g3 : Nat) (l : List (Int × Int)) (k i : Nat) (v : Value) : Prop :=
  Three W T1 g1 T2 g2 T3 g3 (cntL (l.take i)) (cntL (l.reverse.take i)) (cntL ((l.take i).drop k)) ∧ (k < i → WasAt W g1 g2 g3 v (cntL (l.take k))) ∧ Below w.heap.size w W ∧ ∃ a n c, v = .slice a n c
theorem len_dt (l : List (Int × Int)) (i k : Nat) : ((l.take i).drop k).length ≤ l.length := by rw [List.length_drop, List.length_take]; omega
theorem new8 (w : World) : Calls Try.prog 7 #[.int .i64 8] w fun e w' => e = .returned (.pointer (some ⟨w.heap.size + 1, 0, none⟩)) ∧ TalAt w' (w.heap.size + 1) w.heap.size (cntL []) ∧ Below w.heap.size w w' := by
  rw [cntL_nil]; exact new_any 8 (by decide) (by decide) w
theorem wrapU (x : Int) : IntKind.u64.wrap x = x % 18446744073709551616 := by simp [IntKind.wrap, IntKind.bits, IntKind.signed]
theorem kd_conv (p : Int × Int) : wrap64 ((IntKind.u64.wrap p.1).tmod 8) = (kdP p : Nat) := by
  have h0 : 0 ≤ p.1 % 18446744073709551616 := Int.emod_nonneg _ (by decide)
  rw [wrapU, Int.tmod_eq_emod_of_nonneg h0]
  unfold kdP
  generalize p.1 % 18446744073709551616 = y at *
  rw [IntWalk.wrap64_in _ ⟨by omega, by omega⟩]
  omega
theorem nn_conv (p : Int × Int) : wrap64 ((IntKind.u64.wrap p.2).tmod 1125899906842624) = nnP p := by
  have h0 : 0 ≤ p.2 % 18446744073709551616 := Int.emod_nonneg _ (by decide)
  rw [wrapU, Int.tmod_eq_emod_of_nonneg h0]
  unfold nnP
  generalize p.2 % 18446744073709551616 = y at *
  rw [IntWalk.wrap64_in _ ⟨by omega, by omega⟩]
set_option maxRecDepth 100000 in
set_option maxHeartbeats 8000000 in
theorem tallyOrders_walk (l : List (Int × Int)) (v : Value) (x : BitVec 8) (w : World) (hv : PairsAt w.heap.size w v l) (hm : l.length ≤ maxLen ∧ ∀ i, i < l.length → (Lit.int .i64 (l[i]?.getD default).1).wf = true ∧ (Lit.int .i64 (l[i]?.getD default).2).wf = true) :
    Calls Try.prog 5 #[v, .int .u8 (U x)] w (Good w) := by
  replace hm := hm.1
  unfold maxLen at hm
  obtain ⟨a, cap, rfl⟩ : ∃ a cap, v = .slice a l.length cap := by obtain ⟨a, cap, e, _⟩ := hv; exact ⟨a, cap, e⟩
  by_cases hbig : 100 < l.length
  · have b1 : (100 : Int) < l.length := by omega
    clear hv
    go_enter Try.func5, Try.ntmps5
    go_wp2
    go_ret
    exact ⟨rfl, Below.refl _ _⟩
  have b1 : (l.length : Int) ≤ 100 := by omega
  have hx := U_lt x
  have hx0 := U_nonneg x
  obtain ⟨k, hkk⟩ : ∃ k : Nat, U x % ((l.length : Int) + 1) = k := ⟨(U x % ((l.length : Int) + 1)).toNat, by have := Int.emod_nonneg (U x) (b := (l.length : Int) + 1) (by omega); omega⟩
  have hkl : k ≤ l.length := by have := Int.emod_lt_of_pos (U x) (b := (l.length : Int) + 1) (by omega); omega
  have HV := Lib.hid hv
  clear hv hbig
  go_enter Try.func5, Try.ntmps5
  go_upto_region 4 with (first
    | (go_at_call 7; have _t := HV; (with_reducible refine (new8 w).mono ?_); rintro e w1 ⟨rfl, h1, hb1⟩; have H1 := Lib.hid h1; have HB1 := Lib.hid hb1; clear h1 hb1)
    | (go_at_call 7; have _t := H1; (with_reducible refine (new8 w1).mono ?_); rintro e w2 ⟨rfl, h2, hb2⟩; have H2 := Lib.hid h2; have HB2 := Lib.hid hb2; clear h2 hb2)
    | (go_at_call 7; have _t := H2; (with_reducible refine (new8 w2).mono ?_); rintro e w3 ⟨rfl, h3, hb3⟩; have H3 := Lib.hid h3; have HB3 := Lib.hid hb3; clear h3 hb3))
  have h1 := H1.out
  have h2 := H2.out
  have h3 := H3.out
  have hb1 := HB1.out
  have hb2 := HB2.out
  have hb3 := HB3.out
  have z1 := blk_lt h1.row
  have z1' := blk_lt h1.blk
  have z2 := blk_lt h2.row
  have z2' := blk_lt h2.blk
  have HA : Hid (Apart3 w.heap.size (w.heap.size + 1) w.heap.size (w1.heap.size + 1) w1.heap.size (w2.heap.size + 1) w2.heap.size) := ⟨by omega, by omega, by omega, by omega, by omega⟩
  have hT : Three w3 (w.heap.size + 1) w.heap.size (w1.heap.size + 1) w1.heap.size (w2.heap.size + 1) w2.heap.size (cntL []) (cntL []) (cntL []) := ⟨(h1.same hb2).same hb3, h2.same hb3, h3⟩
  have hB3 : Below w.heap.size w w3 := (hb1.trans (hb2.mono hb1.size)).trans (hb3.mono (hb1.trans (hb2.mono hb1.size)).size)
  clear h1 h2 h3 hb1 hb2 hb3 z1 z1' z2 z2' H1 H2 H3 HB1 HB2 HB3
  generalize w.heap.size + 1 = T1 at *
  generalize w1.heap.size + 1 = T2 at *
  generalize w1.heap.size = g2 at *
  generalize w2.heap.size + 1 = T3 at *
  generalize w2.heap.size = g3 at *
  have HO : Hid (OrdAt w w3 T1 w.heap.size T2 g2 T3 g3 l k 0 (.slice none 0 0)) := ⟨by simpa using hT, fun h => by omega, hB3, _, _, _, rfl⟩
  clear hT hB3
  go_wp2
  rw [hkk]
  clear hkk hx hx0
  go_loopw [10, 9] (fun iv vv W => ∃ i : Nat, i ≤ l.length ∧ iv = .int .i64 i ∧ OrdAt w W T1 w.heap.size T2 g2 T3 g3 l k i vv) (fun iv _ _ => l.length - (intOf iv).toNat)
  case atStart => exact ⟨0, by omega, rfl, HO.out⟩
  case round =>
    obtain ⟨i, hi, rfl, hTH, hWAS, hB, wa, wn, wc, rfl⟩ := hrel
    clear HO
    by_cases hlt : i < l.length
    · have i1 : (i : Int) < l.length := by omega
      have kl : (k : Int) ≤ l.length := by omega
      obtain ⟨g, off, rfl, hg, c0, c1⟩ := (HV.out.below hB).get hlt
      have hp : l[i]?.getD default = l[i] := by rw [List.getElem?_eq_getElem hlt]; rfl
      have hgo : l.length - 1 - i < l.length := by omega
      have hp2 : l[l.length - 1 - i]?.getD default = l[l.length - 1 - i] := by rw [List.getElem?_eq_getElem hgo]; rfl
      obtain ⟨p, hpe⟩ : ∃ p, l[i] = p := ⟨_, rfl⟩
      obtain ⟨q, hqe⟩ : ∃ q, l[l.length - 1 - i] = q := ⟨_, rfl⟩
      have HL1 : Hid (l.take (i + 1) = l.take i ++ [p]) := by unfold Hid; rw [take_one l hlt, hpe]
      have HL2 : Hid (l.reverse.take (i + 1) = l.reverse.take i ++ [q]) := by unfold Hid; rw [rev_one l hlt, hqe]
      have HL3 : Hid (k ≤ i → (l.take (i + 1)).drop k = (l.take i).drop k ++ [p]) := fun h => by rw [drop_take_one l hlt h, hpe]
      have HL4 : Hid (i < k → (l.take (i + 1)).drop k = (l.take i).drop k) := fun h => by rw [drop_take_none l (i := i + 1) h, drop_take_none l (i := i) (by omega)]
      rw [hp, hpe] at c0 c1
      have HQ := Lib.hid (fun W (h : Below w.heap.size w W) => (show W.cell? ⟨g, off + i * 2, none⟩ = some (.int .i64 p.1) ∧ W.cell? ⟨g, off + i * 2 + 1, none⟩ = some (.int .i64 p.2) ∧ W.cell? ⟨g, off + (l.length - 1 - i) * 2, none⟩ = some (.int .i64 q.1) ∧ W.cell? ⟨g, off + (l.length - 1 - i) * 2 + 1, none⟩ = some (.int .i64 q.2) from by
        obtain ⟨g', off', e, _, d0, d1⟩ := (HV.out.below h).get hlt
        cases e
        obtain ⟨g'', off'', e', _, d2, d3⟩ := (HV.out.below h).get hgo
        cases e'
        rw [hp, hpe] at d0 d1
        rw [hp2, hqe] at d2 d3
        exact ⟨d0, d1, d2, d3⟩))
      clear hp hp2 hpe hqe hgo
      have HTH := Lib.hid hTH
      have HWAS := Lib.hid hWAS
      have HB := Lib.hid hB
      have HLT := Lib.hid hlt
      clear hTH hWAS hB hlt
      have eK1 := kd_conv p
      have eN1 := nn_conv p
      have eK2 := kd_conv q
      have eN2 := nn_conv q
      obtain ⟨j, hj⟩ : ∃ j, l.length - 1 - i = j := ⟨_, rfl⟩
      have ej : (l.length : Int) - 1 - (i : Int) = (j : Int) := by have := HLT.out; omega
      have jl : (j : Int) < l.length := by omega
      rw [hj] at HQ
      clear hj
      by_cases hik : i < k
      · have k1 : (i : Int) < k := by omega
        go_upto_region 11 with fail
        go_quiet (fail)
        obtain ⟨W1, hW1⟩ : ∃ W1, wr.drewN nq = W1 := ⟨_, rfl⟩
        have HT1 : Hid (Three W1 T1 w.heap.size T2 g2 T3 g3 (cntL (l.take i)) (cntL (l.reverse.take i)) (cntL ((l.take i).drop k))) := by rw [← hW1]; exact ⟨HTH.out.a.drewN _, HTH.out.b.drewN _, HTH.out.c.drewN _⟩
        have HB1 : Hid (Below w.heap.size w W1) := by rw [← hW1]; exact below_drewI HB.out _
        rw [hW1]
        clear hW1 HTH HB HWAS c0 c1
        have HA1 := Lib.hid (add_it HT1.out.a p (by have := List.length_take_le i l; omega))
        go_upto_region 16 with (go_at_call 11; (with_reducible refine HA1.out.mono ?_); rintro e w4 ⟨rfl, h4, m4⟩; have HT4 := Lib.hid (HT1.out.one HA.out h4 m4); have HB4 := Lib.hid (HB1.out.trans (m4.below (fun b h => by have := HA.out.lo; omega) HB1.out.size)); clear h4 m4)
        obtain ⟨_, _, d2, d3⟩ := HQ.out _ HB4.out
        have HAL : Hid (Below w4.heap.size w4 (w4.alloc (.cells #[.int .i64 q.1, .int .i64 q.2] 30))) := (Below.refl _ _).alloc (Nat.le_refl _) _
        have HA2 := Lib.hid (add_it (HT4.out.b.same HAL.out) q (by have := List.length_take_le i l.reverse; omega))
        go_wp2_with (go_at_call 11; (with_reducible refine HA2.out.mono ?_); rintro e w6 ⟨rfl, h6, m6⟩; have HT6 := Lib.hid ((HT4.out.same HAL.out).two HA.out h6 m6); have M6 := Lib.hid m6; clear h6 m6)
        go_roundw
        case rel =>
          have b6 := (HB4.out.trans (HAL.out.mono HB4.out.size)).trans (M6.out.below (fun b h => by have := HA.out.lo; omega) (HB4.out.trans (HAL.out.mono HB4.out.size)).size)
          refine ⟨i + 1, by have := HLT.out; omega, by go_num, ?_, fun h => (by omega), b6, _, _, _, rfl⟩
          rw [HL4.out hik, HL1.out, HL2.out]
          exact HT6.out
        case measure => have := HLT.out; simp [intOf]; omega
      · by_cases hki : i = k
        · obtain rfl := hki
          have HKI : Hid (i ≤ i) := Nat.le_refl _
          have HALL := Lib.hid (All_any (.inr ⟨_, _, rfl, HTH.out.a⟩))
          clear hik
          go_upto_region 11 with (go_at_call 8; (with_reducible refine HALL.out.mono ?_); rintro e w0 ⟨v9, rfl, hi9, hf9, hb9⟩; obtain ⟨a9, c9, rfl⟩ := hi9.slice)
          have HT0 := Lib.hid (HTH.out.same hb9)
          have HB0 := Lib.hid (HB.out.trans (hb9.mono HB.out.size))
          have HW0 : Hid (WasAt w0 w.heap.size g2 g3 (.slice a9 (cntL (l.take i)).length c9) (cntL (l.take i))) := ⟨hi9, fun b e => by
            have h1 := hf9 b e
            have h2 := blk_lt HTH.out.a.row
            have h3 := blk_lt HTH.out.b.row
            have h4 := blk_lt HTH.out.c.row
            omega⟩
          clear c0 c1
          obtain ⟨c0, c1, _, _⟩ := HQ.out _ HB0.out
          clear hi9 hf9 hb9 HTH HB HWAS HALL
          go_quiet (fail)
          obtain ⟨W1, hW1⟩ : ∃ W1, w0.drewN nq = W1 := ⟨_, rfl⟩
          have HT1 : Hid (Three W1 T1 w.heap.size T2 g2 T3 g3 (cntL (l.take i)) (cntL (l.reverse.take i)) (cntL ((l.take i).drop i))) := by rw [← hW1]; exact ⟨HT0.out.a.drewN _, HT0.out.b.drewN _, HT0.out.c.drewN _⟩
          have HB1 : Hid (Below w.heap.size w W1) := by rw [← hW1]; exact below_drewI HB0.out _
          have HW1 : Hid (WasAt W1 w.heap.size g2 g3 (.slice a9 (cntL (l.take i)).length c9) (cntL (l.take i))) := by rw [← hW1]; exact HW0.out
          rw [hW1]
          clear hW1 HT0 HB0 HW0 c0 c1
          have HA1 := Lib.hid (add_it HT1.out.a p (by have := List.length_take_le i l; omega))
          go_upto_region 16 with (first
            | (go_at_call 11; (with_reducible refine HA1.out.mono ?_); rintro e w4 ⟨rfl, h4, m4⟩; have HT4 := Lib.hid (HT1.out.one HA.out h4 m4); have HA3 := Lib.hid (add_it HT4.out.c p (Nat.le_trans (len_dt l i _) (by omega))); have HB4 := Lib.hid (HB1.out.trans (m4.below (fun b h => by have := HA.out.lo; omega) HB1.out.size)); have HW4 := Lib.hid (HW1.out.moved m4 (.inl rfl)); clear h4 m4 HA1)
            | (go_at_call 11; (with_reducible refine HA3.out.mono ?_); rintro e w5 ⟨rfl, h5, m5⟩; have HT5 := Lib.hid (HT4.out.three HA.out h5 m5); have HB5 := Lib.hid (HB4.out.trans (m5.below (fun b h => by have := HA.out.lo; omega) HB4.out.size)); have HW5 := Lib.hid (HW4.out.moved m5 (.inr (.inr rfl))); clear h5 m5 HA3))
          obtain ⟨_, _, d2, d3⟩ := HQ.out _ HB5.out
          have HAL : Hid (Below w5.heap.size w5 (w5.alloc (.cells #[.int .i64 q.1, .int .i64 q.2] 30))) := (Below.refl _ _).alloc (Nat.le_refl _) _
          have HA2 := Lib.hid (add_it (HT5.out.b.same HAL.out) q (by have := List.length_take_le i l.reverse; omega))
          go_wp2_with (go_at_call 11; (with_reducible refine HA2.out.mono ?_); rintro e w6 ⟨rfl, h6, m6⟩; have HT6 := Lib.hid ((HT5.out.same HAL.out).two HA.out h6 m6); have M6 := Lib.hid m6; clear h6 m6)
          go_roundw
          case rel =>
            have b6 := (HB5.out.trans (HAL.out.mono HB5.out.size)).trans (M6.out.below (fun b h => by have := HA.out.lo; omega) (HB5.out.trans (HAL.out.mono HB5.out.size)).size)
            refine ⟨i + 1, by have := HLT.out; omega, by go_num, ?_, fun h => ((HW5.out.same HAL.out).moved M6.out (.inr (.inl rfl))), b6, _, _, _, rfl⟩
            rw [HL3.out HKI.out, HL1.out, HL2.out]
            exact HT6.out
          case measure => have := HLT.out; simp [intOf]; omega
        · have k2 : (k : Int) < i := by omega
          have k3 : ¬ (i : Int) < k := by omega
          have HKI : Hid (k ≤ i) := by unfold Hid; omega
          have HW := Lib.hid (HWAS.out (by omega))
          clear hik hki
          go_upto_region 11 with fail
          go_quiet (fail)
          obtain ⟨W1, hW1⟩ : ∃ W1, wr.drewN nq = W1 := ⟨_, rfl⟩
          have HT1 : Hid (Three W1 T1 w.heap.size T2 g2 T3 g3 (cntL (l.take i)) (cntL (l.reverse.take i)) (cntL ((l.take i).drop k))) := by rw [← hW1]; exact ⟨HTH.out.a.drewN _, HTH.out.b.drewN _, HTH.out.c.drewN _⟩
          have HB1 : Hid (Below w.heap.size w W1) := by rw [← hW1]; exact below_drewI HB.out _
          have HW1 : Hid (WasAt W1 w.heap.size g2 g3 (.slice wa wn wc) (cntL (l.take k))) := by rw [← hW1]; exact HW.out
          rw [hW1]
          clear hW1 HTH HB HWAS HW c0 c1
          have HA1 := Lib.hid (add_it HT1.out.a p (by have := List.length_take_le i l; omega))
          go_upto_region 16 with (first
            | (go_at_call 11; (with_reducible refine HA1.out.mono ?_); rintro e w4 ⟨rfl, h4, m4⟩; have HT4 := Lib.hid (HT1.out.one HA.out h4 m4); have HA3 := Lib.hid (add_it HT4.out.c p (Nat.le_trans (len_dt l i _) (by omega))); have HB4 := Lib.hid (HB1.out.trans (m4.below (fun b h => by have := HA.out.lo; omega) HB1.out.size)); have HW4 := Lib.hid (HW1.out.moved m4 (.inl rfl)); clear h4 m4 HA1)
            | (go_at_call 11; (with_reducible refine HA3.out.mono ?_); rintro e w5 ⟨rfl, h5, m5⟩; have HT5 := Lib.hid (HT4.out.three HA.out h5 m5); have HB5 := Lib.hid (HB4.out.trans (m5.below (fun b h => by have := HA.out.lo; omega) HB4.out.size)); have HW5 := Lib.hid (HW4.out.moved m5 (.inr (.inr rfl))); clear h5 m5 HA3))
          obtain ⟨_, _, d2, d3⟩ := HQ.out _ HB5.out
          have HAL : Hid (Below w5.heap.size w5 (w5.alloc (.cells #[.int .i64 q.1, .int .i64 q.2] 30))) := (Below.refl _ _).alloc (Nat.le_refl _) _
          have HA2 := Lib.hid (add_it (HT5.out.b.same HAL.out) q (by have := List.length_take_le i l.reverse; omega))
          go_wp2_with (go_at_call 11; (with_reducible refine HA2.out.mono ?_); rintro e w6 ⟨rfl, h6, m6⟩; have HT6 := Lib.hid ((HT5.out.same HAL.out).two HA.out h6 m6); have M6 := Lib.hid m6; clear h6 m6)
          go_roundw
          case rel =>
            have b6 := (HB5.out.trans (HAL.out.mono HB5.out.size)).trans (M6.out.below (fun b h => by have := HA.out.lo; omega) (HB5.out.trans (HAL.out.mono HB5.out.size)).size)
            refine ⟨i + 1, by have := HLT.out; omega, by go_num, ?_, fun h => ((HW5.out.same HAL.out).moved M6.out (.inr (.inl rfl))), b6, _, _, _, rfl⟩
            rw [HL3.out HKI.out, HL1.out, HL2.out]
            exact HT6.out
          case measure => have := HLT.out; simp [intOf]; omega
    · obtain rfl : i = l.length := by omega
      have hT0 := hTH
      rw [List.take_length, show l.reverse.take l.length = l.reverse from List.take_of_length_le (by simp), cntL_rev] at hT0
      have HTH := Lib.hid hT0
      have HWAS := Lib.hid hWAS
      have HB := Lib.hid hB
      have HSI : Hid (sinceL (cntL l) (cntL (l.take k)) = cntL (l.drop k)) := by
        unfold Hid
        have := cntL_since (l.take k) (l.drop k)
        rwa [List.take_append_drop] at this
      have HC1 := Lib.hid (cntL_len l)
      have HC2 := Lib.hid (cntL_len (l.drop k))
      have HWK : Hid (∀ j, 0 ≤ wasK (cntL (l.take k)) j ∧ wasK (cntL (l.take k)) j ≤ 9223372036854775807) := by
        intro j
        unfold wasK
        by_cases hj : j < 8
        · rw [cntL_get _ hj]
          have := cnt_bd (l.take k) j
          have := List.length_take_le k l
          omega
        · rw [List.getElem?_eq_none (by rw [cntL_len]; omega)]; decide
      have HWL := Lib.hid (show (cntL (l.take k)).length ≤ 1073741824 by rw [cntL_len]; decide)
      clear hTH hT0 hWAS hB hlt hi
      by_cases hk : k = l.length
      · subst hk
        have HALL := Lib.hid (All_any (.inr ⟨_, _, rfl, HTH.out.a⟩))
        go_upto_region 21 with (go_at_call 8; (with_reducible refine HALL.out.mono ?_); rintro e w0 ⟨v9, rfl, hi9, hf9, hb9⟩; obtain ⟨a9, c9, rfl⟩ := hi9.slice)
        have HT0 := Lib.hid (HTH.out.same hb9)
        have HB0 := Lib.hid (HB.out.trans (hb9.mono HB.out.size))
        have HW0 : Hid (WasAt w0 w.heap.size g2 g3 (.slice a9 (cntL l).length c9) (cntL (l.take l.length))) := by
          unfold Hid
          rw [List.take_length]
          refine ⟨hi9, fun b e => ?_⟩
          have h1 := hf9 b e
          have h2 := blk_lt HTH.out.a.row
          have h3 := blk_lt HTH.out.b.row
          have h4 := blk_lt HTH.out.c.row
          omega
        clear hi9 hf9 hb9 HTH HB HWAS HALL
        generalize cntL (l.drop l.length) = cd at *
        have HA1 := Lib.hid (fun W (h : Below w0.heap.size w0 W) => All_any (w := W) (.inr ⟨_, _, rfl, (HT0.out.same h).a⟩))
        have HA2 := Lib.hid (fun W (h : Below w0.heap.size w0 W) => All_any (w := W) (.inr ⟨_, _, rfl, (HT0.out.same h).b⟩))
        have HA3 := Lib.hid (fun W (h : Below w0.heap.size w0 W) => All_any (w := W) (.inr ⟨_, _, rfl, (HT0.out.same h).c⟩))
        have HS1 := Lib.hid (fun W (h : Below w0.heap.size w0 W) => Since_any (w := W) (.inr ⟨_, _, rfl, (HT0.out.same h).a⟩) (HW0.out.same h).1 HWL.out HWK.out)
        rw [HSI.out] at HS1
        have H0 := Lib.hid (Below.refl w0.heap.size w0)
        have HL8 : Hid ((cntL l).length ≤ 1024) := by unfold Hid; rw [HC1.out]; decide
        have HL9 : Hid (cd.length ≤ 1024) := by unfold Hid; rw [HC2.out]; decide
        clear HWL HWK HSI HC1 HC2
        go_wp2_with (first
          | (go_at_call 8; (with_reducible refine (HA1.out _ H0.out).mono ?_); rintro e w1' ⟨v1, rfl, hi, hf, hb⟩; have H1 := Lib.hid (H0.out.trans (hb.mono H0.out.size)); have HI1 := Lib.hid hi; obtain ⟨a1, c1, rfl⟩ := hi.slice; clear H0 HA1 hb hf hi)
          | (go_at_call 8; (with_reducible refine (HA2.out _ H1.out).mono ?_); rintro e w2' ⟨v2, rfl, hi, hf, hb⟩; have H2 := Lib.hid (H1.out.trans (hb.mono H1.out.size)); have HI2 := Lib.hid hi; have HI1' := Lib.hid (HI1.out.next hb); obtain ⟨a2, c2, rfl⟩ := hi.slice; clear H1 HA2 HI1 hb hf hi)
          | (go_at_call 13; (with_reducible refine (same_yes HI1'.out HI2.out HL8.out).mono ?_); rintro e w3' ⟨rfl, hb⟩; have H3 := Lib.hid (H2.out.trans (hb.mono H2.out.size)); clear H2 HI1' HI2 hb)
          | (go_at_call 14; (with_reducible refine (HS1.out _ H3.out).mono ?_); rintro e w4' ⟨v4, rfl, hi, hf, hb⟩; have H4 := Lib.hid (H3.out.trans (hb.mono H3.out.size)); have HI4 := Lib.hid hi; obtain ⟨a4, c4, rfl⟩ := hi.slice; clear H3 HS1 hb hf hi)
          | (go_at_call 8; (with_reducible refine (HA3.out _ H4.out).mono ?_); rintro e w5' ⟨v5, rfl, hi, hf, hb⟩; have H5 := Lib.hid (H4.out.trans (hb.mono H4.out.size)); have HI5 := Lib.hid hi; have HI4' := Lib.hid (HI4.out.next hb); obtain ⟨a5, c5, rfl⟩ := hi.slice; clear H4 HA3 HI4 hb hf hi)
          | (go_at_call 13; (with_reducible refine (same_yes HI4'.out HI5.out HL9.out).mono ?_); rintro e w6' ⟨rfl, hb⟩; have H6 := Lib.hid (H5.out.trans (hb.mono H5.out.size)); clear H5 HI4' HI5 hb)
          | (go_at_call 9; (with_reducible refine (awake16 _).mono ?_); rintro e w7' ⟨rfl, hb⟩; have H7 := Lib.hid (H6.out.trans (hb.mono H6.out.size)); clear H6 hb))
        go_ret
        exact ⟨rfl, HB0.out.trans (H7.out.mono HB0.out.size)⟩
      · have hk2 : ((k : Int) == (l.length : Int)) = false := beq_eq_false_iff_ne.2 (by omega)
        have HW := Lib.hid (HWAS.out (by omega))
        have hk3 : ¬ (k : Int) = (l.length : Int) := by omega
        clear hk
        go_upto_region 21 with fail
        have HA1 := Lib.hid (fun W (h : Below wr.heap.size wr W) => All_any (w := W) (.inr ⟨_, _, rfl, (HTH.out.same h).a⟩))
        have HA2 := Lib.hid (fun W (h : Below wr.heap.size wr W) => All_any (w := W) (.inr ⟨_, _, rfl, (HTH.out.same h).b⟩))
        have HA3 := Lib.hid (fun W (h : Below wr.heap.size wr W) => All_any (w := W) (.inr ⟨_, _, rfl, (HTH.out.same h).c⟩))
        have HS1 := Lib.hid (fun W (h : Below wr.heap.size wr W) => Since_any (w := W) (.inr ⟨_, _, rfl, (HTH.out.same h).a⟩) (HW.out.same h).1 HWL.out HWK.out)
        rw [HSI.out] at HS1
        have H0 := Lib.hid (Below.refl wr.heap.size wr)
        have HL8 : Hid ((cntL l).length ≤ 1024) := by unfold Hid; rw [HC1.out]; decide
        have HL9 : Hid ((cntL (l.drop k)).length ≤ 1024) := by unfold Hid; rw [HC2.out]; decide
        clear HWL HWK HSI HC1 HC2
        go_wp2_with (first
          | (go_at_call 8; (with_reducible refine (HA1.out _ H0.out).mono ?_); rintro e w1' ⟨v1, rfl, hi, hf, hb⟩; have H1 := Lib.hid (H0.out.trans (hb.mono H0.out.size)); have HI1 := Lib.hid hi; obtain ⟨a1, c1, rfl⟩ := hi.slice; clear H0 HA1 hb hf hi)
          | (go_at_call 8; (with_reducible refine (HA2.out _ H1.out).mono ?_); rintro e w2' ⟨v2, rfl, hi, hf, hb⟩; have H2 := Lib.hid (H1.out.trans (hb.mono H1.out.size)); have HI2 := Lib.hid hi; have HI1' := Lib.hid (HI1.out.next hb); obtain ⟨a2, c2, rfl⟩ := hi.slice; clear H1 HA2 HI1 hb hf hi)
          | (go_at_call 13; (with_reducible refine (same_yes HI1'.out HI2.out HL8.out).mono ?_); rintro e w3' ⟨rfl, hb⟩; have H3 := Lib.hid (H2.out.trans (hb.mono H2.out.size)); clear H2 HI1' HI2 hb)
          | (go_at_call 14; (with_reducible refine (HS1.out _ H3.out).mono ?_); rintro e w4' ⟨v4, rfl, hi, hf, hb⟩; have H4 := Lib.hid (H3.out.trans (hb.mono H3.out.size)); have HI4 := Lib.hid hi; obtain ⟨a4, c4, rfl⟩ := hi.slice; clear H3 HS1 hb hf hi)
          | (go_at_call 8; (with_reducible refine (HA3.out _ H4.out).mono ?_); rintro e w5' ⟨v5, rfl, hi, hf, hb⟩; have H5 := Lib.hid (H4.out.trans (hb.mono H4.out.size)); have HI5 := Lib.hid hi; have HI4' := Lib.hid (HI4.out.next hb); obtain ⟨a5, c5, rfl⟩ := hi.slice; clear H4 HA3 HI4 hb hf hi)
          | (go_at_call 13; (with_reducible refine (same_yes HI4'.out HI5.out HL9.out).mono ?_); rintro e w6' ⟨rfl, hb⟩; have H6 := Lib.hid (H5.out.trans (hb.mono H5.out.size)); clear H5 HI4' HI5 hb)
          | (go_at_call 9; (with_reducible refine (awake16 _).mono ?_); rintro e w7' ⟨rfl, hb⟩; have H7 := Lib.hid (H6.out.trans (hb.mono H6.out.size)); clear H6 hb))
        go_ret
        exact ⟨rfl, HB.out.trans (H7.out.mono HB.out.size)⟩

set_option maxRecDepth 100000 in
theorem tallyOrders_lifted (os : Os) (started : os.Started) (H : Type) (enc : TypeId × Value → H) :
    ReturnsInHanded {} Try.checked os 5 .any (Rows.tallyOrdersSpec.pre6 enc Try.prog Try.f5 Rows.tallyOrdersRow.domain false) (Rows.tallyOrdersSpec.post enc Try.prog Try.f5 false true false false) :=
  law_lifted 5 Try.f5 Rows.tallyOrdersSpec Try.func5 (by kernel_rfl) rfl rfl
    (fun ds h => by match ds, h with | [_, _], _ => rfl) (by kernel_rfl) os started
    (ChangeSpec.witness6 (enc := enc) (C := Try.checked) false ⟨#[], #[.slice none 0 0, .int .u8 0], []⟩ 8 (by kernel_rfl) (by kernel_rfl) (by kernel_rfl) (by kernel_rfl))
    fun W args ds ps hval hA => by
      rw [Try.params5] at hA hval
      obtain ⟨v0, vs0, d0, ds0, p0, q0, hargs, rfl, rfl, h0, r0⟩ := trodAll_cons hA
      obtain ⟨v1, vs1, d1, ds1, p1, q1, rfl, rfl, rfl, h1, r1⟩ := trodAll_cons r0
      obtain ⟨rfl, rfl, rfl⟩ := trodAll_nil r1
      obtain rfl : args = #[v0, v1] := by cases args; simp_all
      obtain ⟨b0, o0⟩ := hval 0 _ v0 rfl rfl
      obtain ⟨b1, o1⟩ := hval 1 _ v1 rfl rfl
      obtain ⟨l0, hb0, hm0⟩ := open_pairs o0 h0
      obtain ⟨a1, rfl, rfl, rfl, w1⟩ := open_int Try.underlying5 o1 h1
      obtain ⟨x1, rfl⟩ := wf_u8 w1
      exact tallyOrders_walk l0 _ x1 W hb0 hm0

/-- The statement. -/
theorem tallyOrders_holds : Rows.TallyOrdersSaid :=
  OpenClaim.holds_of_wide 5 Try.f5 rfl rfl rfl rfl rfl rfl rfl ⟨rfl, rfl, rfl, rfl, rfl⟩ rfl rfl rfl rfl rfl (by kernel_rfl) Try.func5 (by kernel_rfl)
    (of_decide_eq_true (by kernel_rfl)) (by unfold Func.isWrapper; first | (rw [if_pos (by decide +kernel)]; kernel_rfl) | (rw [if_neg (by decide +kernel)]; exact ⟨rfl, rfl⟩))
    (fun os started H enc _ => tallyOrders_lifted os started H enc)
#print axioms tallyOrders_holds

end Go.Proofs.Ytjcpiljgbomceaa

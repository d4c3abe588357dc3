/-
  Proved: the check of bytes, and of more behind them, is that of all; so is that of pieces. Whatever pieces come in, the law CrcAdds answers true and the argument reads as it did.
  Conditions: none.
-/
import Derived.Test.YtbhmieddjgklpaaCrcSum
import Derived.Test.YtbhmieddjgklpaaOpen
import Derived.Laws.AppendOwnNone
namespace Go.Proofs.Ytbhmieddjgklpaa
open Go.ChangeShapes Go.WideShapes Go.ChangeAt Go.RowKit

theorem crcAdd_nil (s : BitVec 32) : crcAdd s [] = s := by simp [crcAdd, runB]
theorem crcAdd_append (s : BitVec 32) (xs ys : List (BitVec 8)) : crcAdd s (xs ++ ys) = crcAdd (crcAdd s xs) ys := by
  simp [crcAdd, runB, List.foldl_append]

set_option maxRecDepth 100000 in
set_option maxHeartbeats 2000000 in
theorem crcAdds_walk (ps : List (List (BitVec 8))) (v : Value) (w : World) (hv : PiecesAt w.heap.size w v ps) (hm : ps.length ≤ maxLen) : Calls Try.prog 4 #[v] w (Good w) := by
  unfold maxLen at hm
  have hvp := hv
  obtain ⟨a, cap, rfl, hv⟩ := hv
  obtain ⟨i0, hi, hz0, hz1, hz2⟩ := info_parts Try.infoU8
  by_cases h20 : 20 < ps.length
  · go_enter Try.func4, Try.ntmps4
    go_wp2
    go_ret
    exact ⟨rfl, Below.refl _ _⟩
  have lp : (ps.length : Int) ≤ 20 := by omega
  go_enter Try.func4, Try.ntmps4
  go_wp2
  go_loopw [3, 4, 5] (fun al su i wr => ∃ k : Nat, k ≤ ps.length ∧ i = .int .i64 k ∧ su = .int .u32 (U (crcAdd 0#32 (flat ps k))) ∧ wr.ownsRow w.heap.size 5 1 al (flat ps k).length (cellsOf (flat ps k)) ∧ (flat ps k).length ≤ 200 * k ∧ (∀ j, j < k → (ps[j]?.getD []).length ≤ 200) ∧ Below w.heap.size w wr) (fun _ _ i _ => ps.length - (intOf i).toNat)
  case atStart =>
    refine ⟨0, Nat.zero_le _, rfl, by rw [flat_zero, crcAdd_nil]; rfl, by rw [flat_zero]; exact World.ownsRow_nil _ _ _ _, by rw [flat_zero]; simp, fun j hj => absurd hj (by omega), Below.refl _ _⟩
  case round =>
    obtain ⟨k, hk, rfl, rfl, hown, hfl, hsm, hB⟩ := hrel
    by_cases hlt : k < ps.length
    · rcases hv with h | ⟨g, off, rfl, hg, hc⟩
      · subst h; simp at hlt
      obtain ⟨u, hu, hbu⟩ := hc k hlt
      have hu' := (hB.cell (p := ⟨g, off + k, none⟩) hg).trans hu
      have FS := Lib.hid (flat_succ ps k hlt)
      obtain ⟨bs, hbs⟩ : ∃ bs, ps[k]?.getD [] = bs := ⟨_, rfl⟩
      rw [hbs] at hbu FS
      have HK := Lib.hid hbs
      clear hbs
      have hbw := hbu.below hB
      have hbw1 := hbw.mono hB.size
      have hbu2 := hbw1
      obtain ⟨a2, cap2, rfl, hcap2, _⟩ := hbu2
      clear hc hu hbu
      have k0 : (0 : Int) ≤ k := by omega
      have k1 : (k : Int) < ps.length := by omega
      by_cases hbig : 200 < bs.length
      · go_wp2
        go_ret
        exact ⟨rfl, hB⟩
      · have lb : (bs.length : Int) ≤ 200 := by omega
        have hadd := addTo_any (crcAdd 0#32 (flat ps k)) bs _ (by omega) wr hbw1
        have HO := Lib.hid hown
        have HW := Lib.hid hbw
        clear hown hbw hbw1
        cases a2 with
        | none =>
          obtain ⟨_, rfl, rfl⟩ := HW.out.none_nil
          go_wp2_with (first
            | (go_at_call 19; refine hadd.mono ?_; rintro e w1 ⟨rfl, hb1⟩; have hu1 := (hb1.cell (World.block_lt_of_cell? _ _ hu')).trans hu')
            | (at_builtin; refine wpList_append_own_none rfl _ _ 22 rfl w.heap.size 5 i0 1 Try.underlying22 hi _ _ _ rfl (ownsRow_below HO.out hb1) rfl ?_))
          go_roundw
          case rel =>
            refine ⟨k + 1, by omega, by go_num, by rw [FS.out, crcAdd_append], by rw [FS.out, List.append_nil]; exact ownsRow_below HO.out hb1, by rw [FS.out, List.append_nil]; omega, ?_, hB.trans (hb1.mono hB.size)⟩
            intro j hj
            by_cases hjk : j = k
            · subst hjk; rw [HK.out]; omega
            · exact hsm j (by omega)
          case measure => simp [intOf]; omega
        | some ad =>
          go_wp2_with (first
            | (go_at_call 19; refine hadd.mono ?_; rintro e w1 ⟨rfl, hb1⟩; have hu1 := (hb1.cell (World.block_lt_of_cell? _ _ hu')).trans hu'; have hz := Nat.le_trans hB.size hb1.size)
            | (at_builtin; refine wpList_append_own _ rfl _ _ 22 rfl w.heap.size 5 i0 (.int .u8 0) 1 1 Try.underlying22 hi hz0 hz1 hz2 rfl (by decide) _ _ _ rfl (ownsRow_below HO.out hb1) ad bs.length cap2 (cellsOf bs) rfl (by rw [cellsOf_len]; simp) ((HW.out.below (hb1.mono hB.size)).news.2) (cellsOf_one bs) (by unfold maxLen; omega) (by omega) hz ?_; intro v' w2 hown' hgrow hnil; clear hnil))
          go_roundw
          case rel =>
            refine ⟨k + 1, by omega, by go_num, by rw [FS.out, crcAdd_append], by rw [FS.out, cellsOf_append, List.length_append]; exact hown', by rw [FS.out, List.length_append]; omega, ?_, (hB.trans (hb1.mono hB.size)).grown hgrow hz (fun k e => (HO.out.lt k e).1)⟩
            intro j hj
            by_cases hjk : j = k
            · subst hjk; rw [HK.out]; omega
            · exact hsm j (by omega)
          case measure => simp [intOf]; omega
    · obtain rfl : k = ps.length := by omega
      have hpz := fun hlens W hv => pieces_any ps (.slice a ps.length cap) (by omega) hlens W hv
      obtain ⟨fl, hfe⟩ : ∃ fl, ps.flatten = fl := ⟨_, rfl⟩
      rw [hfe] at hpz
      rw [flat_all, hfe] at hown hfl ⊢
      clear hfe
      have hall : BytesAt wr.heap.size wr u3 fl := BytesAt.of_owns hown
      have hsum := sum_any fl _ (by omega) wr hall
      have hlens : ∀ i : Nat, (ps[i]?.getD []).length ≤ 1099511627776 := by
        intro i
        by_cases hi : i < ps.length
        · have := hsm i hi; omega
        · rw [List.getElem?_eq_none (by omega)]; simp
      have hpc : ∀ W : World, Below w.heap.size w W → Calls Try.prog 20 #[.slice a ps.length cap] W fun e W' => e = .returned (.int .u32 (U (crcAdd 0#32 fl))) ∧ Below W.heap.size W W' :=
        fun W hW => hpz hlens W ((hvp.below hW).mono hW.size)
      have hnil := piecesNil
      obtain ⟨a3, cap3, rfl, _⟩ := hall
      clear hown hfl hsm hlens hv hpz
      go_wp2_with (first
        | (go_at_call 15; refine hsum.mono ?_; rintro e w1 ⟨rfl, hb1⟩; have hB1 := hB.trans (hb1.mono hB.size))
        | (go_at_call 20; first | ((with_reducible refine (hnil _).mono ?_); rintro e w3 ⟨rfl, hb3⟩; have hB3 := hB2.trans (hb3.mono hB2.size)) | (refine (hpc _ hB1).mono ?_; rintro e w2 ⟨rfl, hb2⟩; have hB2 := hB1.trans (hb2.mono hB1.size)))
        | (go_at_call 18; refine (awake01 _).mono ?_; rintro e w4 ⟨rfl, hb4⟩))
      go_ret
      exact ⟨rfl, hB3.trans (hb4.mono hB3.size)⟩

set_option maxRecDepth 100000 in
theorem crcAdds_lifted (os : Os) (started : os.Started) (H : Type) (enc : TypeId × Value → H) :
    ReturnsInHanded {} Try.checked os 4 .any (Rows.crcAddsSpec.pre6 enc Try.prog Try.f4 Rows.crcAddsRow.domain false) (Rows.crcAddsSpec.post enc Try.prog Try.f4 false true false false) :=
  law_lifted 4 Try.f4 Rows.crcAddsSpec Try.func4 (by kernel_rfl) rfl rfl
    (fun ds h => by match ds, h with | [_], _ => rfl) (by kernel_rfl) os started
    (ChangeSpec.witness6 (enc := enc) (C := Try.checked) false ⟨#[], #[.slice none 0 0], []⟩ 8 (by kernel_rfl) (by kernel_rfl) (by kernel_rfl) (by kernel_rfl))
    fun W args ds ps hval hA => by
      rw [Try.params4] at hA hval
      obtain ⟨v0, vs0, d0, ds0, p0, q0, hargs, rfl, rfl, h0, r0⟩ := trodAll_cons hA
      obtain ⟨rfl, rfl, rfl⟩ := trodAll_nil r0
      obtain rfl : args = #[v0] := by cases args; simp_all
      obtain ⟨b0, o0⟩ := hval 0 _ v0 rfl rfl
      obtain ⟨ps0, hb0, hm0⟩ := open_pieces o0 h0
      exact crcAdds_walk ps0 v0 W hb0 hm0

/-- The statement. -/
theorem crcAdds_holds : Rows.CrcAddsSaid :=
  OpenClaim.holds_of_wide 4 Try.f4 rfl rfl rfl rfl rfl rfl rfl ⟨rfl, rfl, rfl, rfl, rfl⟩ rfl rfl rfl rfl rfl (by kernel_rfl) Try.func4 (by kernel_rfl)
    (of_decide_eq_true (by kernel_rfl)) (by unfold Func.isWrapper; first | (rw [if_pos (by decide +kernel)]; kernel_rfl) | (rw [if_neg (by decide +kernel)]; exact ⟨rfl, rfl⟩))
    (fun os started H enc _ => crcAdds_lifted os started H enc)
#print axioms crcAdds_holds
end Go.Proofs.Ytbhmieddjgklpaa

/-
  Proved: where there are two places or more, the thing that was put last does not go for the next one. Whatever places and acts come in, the law ClockLast answers true and the arguments read as they did.
  Conditions: none.
-/
import Derived.Test.YtkbillhcagbbmaaActs08
import Derived.Test.YtkbillhcagbbmaaLastMath
namespace Go.Proofs.Ytkbillhcagbbmaa
open Go.ChangeShapes Go.WideShapes Go.ChangeAt Go.RowKit

/-- What holds at a round's head. -/
def LastAt (w W : World) : Prop := ∃ s, ClockAt w.heap.size W (w.heap.size + 2) w.heap.size (w.heap.size + 1) s ∧ s.Last ∧ Below w.heap.size w W
theorem last_begin {w W : World} {s : Ck} (h : ClockAt w.heap.size W (w.heap.size + 2) w.heap.size (w.heap.size + 1) s) (hl : s.Last) (hb : Below w.heap.size w W) : LastAt w W := ⟨s, h, hl, hb⟩
theorem below_did {w W W' : World} (hb : Below w.heap.size w W) (hm : Moves (fun k => k = w.heap.size + 2 ∨ k = w.heap.size ∨ k = w.heap.size + 1) W W') : Below w.heap.size w W' := hb.trans (hm.below (fun i hi => by omega) hb.size)
theorem tmod_hundred (x : Int) : -100 < x.tmod 100 ∧ x.tmod 100 < 100 := ⟨Int.lt_tmod_of_pos x (by decide), Int.tmod_lt_of_pos x (by decide)⟩
theorem tmod_two (x : Int) : x.tmod 2 = 0 ∨ (x.tmod 2 = 1 ∨ x.tmod 2 = -1) := by
  have h1 := Int.lt_tmod_of_pos x (b := 2) (by decide)
  have h2 := Int.tmod_lt_of_pos x (b := 2) (by decide)
  omega
set_option maxRecDepth 100000 in
set_option maxHeartbeats 4000000 in
theorem clockLast_walk (x : BitVec 8) (l : List Act8) (v : Value) (w : World) (hv : ActsAt8 w.heap.size w v l) (hm : l.length ≤ maxLen) : Calls Try.prog 6 #[.int .u8 (U x), v] w (Good w) := by
  unfold maxLen at hm
  obtain ⟨a, cap, rfl, hcap, hwf, hv⟩ := hv
  by_cases hbig : 200 < l.length
  · have b1 : (200 : Int) < l.length := by omega
    clear hwf hv
    go_enter Try.func6, Try.ntmps6
    go_wp2
    go_ret
    exact ⟨rfl, Below.refl _ _⟩
  have b1 : (l.length : Int) ≤ 200 := by omega
  have hx := U_lt x
  have hx0 := U_nonneg x
  obtain ⟨n, hn⟩ : ∃ n : Nat, U x % 64 + 2 = n := ⟨(U x % 64 + 2).toNat, by omega⟩
  have hn2 : 2 ≤ n ∧ n ≤ 65 := by omega
  have HNEW := Lib.hid (new_any w.heap.size n (by omega) w (Nat.le_refl _))
  rw [← hn] at HNEW
  have HL0 := Lib.hid (last_new zeroI hn2.1)
  clear hn hn2
  go_enter Try.func6, Try.ntmps6
  go_upto_region 4 with (go_at_call 7; (with_reducible refine HNEW.out.mono ?_); rintro e w1 ⟨rfl, hw1, hb1⟩)
  have HS1 := Lib.hid (last_begin hw1 HL0.out hb1)
  clear HNEW HL0 hw1 hb1
  go_wp2
  go_loopw [6] (fun iv wr => ∃ k : Nat, k ≤ l.length ∧ iv = .int .i64 k ∧ LastAt w wr) (fun iv _ => l.length - (intOf iv).toNat)
  case atStart => exact ⟨0, by omega, rfl, HS1.out⟩
  case round =>
    obtain ⟨k, hk, rfl, s, hC, hL, hB⟩ := hrel
    by_cases hlt : k < l.length
    · have i1 : (k : Int) < l.length := by omega
      obtain ⟨ga, off, rfl, hga, hcells⟩ : ∃ g off, a = some ⟨g, off, none⟩ ∧ g < w.heap.size ∧ ∀ i, i < l.length → ActAt8 w g (off + i * 3) (l[i]?.getD default) := by
        rcases hv with h | h
        · subst h; simp at hlt
        · exact h
      have hat := hcells k hlt
      clear hv hcells
      generalize l[k]?.getD default = act at hat
      obtain ⟨kind, key, thing⟩ := act
      obtain ⟨K, hK⟩ : ∃ K, key.tmod 100 = K := ⟨_, rfl⟩
      obtain ⟨T, hT⟩ : ∃ T, thing.tmod 100 = T := ⟨_, rfl⟩
      have hK2 : -100 < K ∧ K < 100 := by rw [← hK]; exact tmod_hundred key
      have hT2 : -100 < T ∧ T < 100 := by rw [← hT]; exact tmod_hundred thing
      have hwT : wrap64 (T + 1000) = T + 1000 := IntWalk.wrap64_in _ ⟨by omega, by omega⟩
      obtain ⟨c0, c1, c2⟩ := hat.below hB hga
      have HAT := Lib.hid hat
      have HB := Lib.hid hB
      have HL := Lib.hid hL
      rcases tmod_two kind with ht | ht
      · have HG := Lib.hid (get_any hC K)
        clear hat hB hL hC
        go_wp2_with (go_at_call 13; (with_reducible refine HG.out.mono ?_); rintro e w2 ⟨rfl, h2, m2⟩; have H2 := Lib.hid h2; have M2 := Lib.hid m2; clear h2 m2)
        go_roundw
        case rel => exact ⟨k + 1, by omega, by go_num, _, H2.out, last_got HL.out K, below_did HB.out M2.out⟩
        case measure => simp [intOf]; omega
      · have hmid := mid_put zeroI hL (key := K) (by omega) (.int .i64 (k : Nat))
        have H1 := Lib.hid (told_put hC K (k : Nat) hmid.2)
        have HMID := Lib.hid hmid.1
        clear hat hB hL hC hmid
        rcases ht with ht | ht
        all_goals
          go_upto_region 10 with (go_at_call 17; (with_reducible refine H1.out.mono ?_); rintro e w2 ⟨rfl, h2, m2⟩)
          obtain ⟨hr2, gone, was, went, htold, hne⟩ := last_round (T := T + 1000) zeroI h2.ok HMID.out (by omega) (.int .i64 (k : Nat))
          have hB2 := below_did HB.out m2
          clear c0 c1 c2
          obtain ⟨c0, c1, c2⟩ := HAT.out.below hB2 hga
          have HP := Lib.hid (told_put h2 (T + 1000) (k : Nat) htold)
          have HR2 := Lib.hid hr2
          have HB2 := Lib.hid hB2
          clear h2 m2 hr2 htold hB2 H1 HMID HL HB
          cases went
          · clear hne
            go_wp2_with (first
              | (go_at_call 17; (with_reducible refine HP.out.mono ?_); rintro e w3 ⟨rfl, h3, m3⟩; have hB3 := below_did HB2.out m3; clear c0 c1 c2; obtain ⟨c0, c1, c2⟩ := HAT.out.below hB3 hga; have HD := Lib.hid (drop_any h3 (T + 1000)); have HL3 := Lib.hid (HR2.out h3.ok); have HB3 := Lib.hid hB3; clear h3 m3 hB3)
              | (go_at_call 15; (with_reducible refine HD.out.mono ?_); rintro e w4 ⟨rfl, h4, m4⟩; have H4 := Lib.hid h4; have M4 := Lib.hid m4; clear h4 m4))
            go_roundw
            case rel => exact ⟨k + 1, by omega, by go_num, _, H4.out, HL3.out, below_did HB3.out M4.out⟩
            case measure => simp [intOf]; omega
          · have hne2 := hne rfl
            clear hne
            go_wp2_with (first
              | (go_at_call 17; (with_reducible refine HP.out.mono ?_); rintro e w3 ⟨rfl, h3, m3⟩; have hB3 := below_did HB2.out m3; clear c0 c1 c2; obtain ⟨c0, c1, c2⟩ := HAT.out.below hB3 hga; have HD := Lib.hid (drop_any h3 (T + 1000)); have HL3 := Lib.hid (HR2.out h3.ok); have HB3 := Lib.hid hB3; clear h3 m3 hB3)
              | (go_at_call 15; (with_reducible refine HD.out.mono ?_); rintro e w4 ⟨rfl, h4, m4⟩; have H4 := Lib.hid h4; have M4 := Lib.hid m4; clear h4 m4))
            go_roundw
            case rel => exact ⟨k + 1, by omega, by go_num, _, H4.out, HL3.out, below_did HB3.out M4.out⟩
            case measure => simp [intOf]; omega
    · obtain rfl : k = l.length := by omega
      have HB := Lib.hid hB
      clear hB hC hL hv
      go_wp2_with (go_at_call 9; (with_reducible refine (awake08 _).mono ?_); rintro e w7 ⟨rfl, hb7⟩)
      go_ret
      exact ⟨rfl, HB.out.trans (hb7.mono HB.out.size)⟩

set_option maxRecDepth 100000 in
theorem clockLast_lifted (os : Os) (started : os.Started) (H : Type) (enc : TypeId × Value → H) :
    ReturnsInHanded {} Try.checked os 6 .any (Rows.clockLastSpec.pre6 enc Try.prog Try.f6 Rows.clockLastRow.domain false) (Rows.clockLastSpec.post enc Try.prog Try.f6 false true false false) :=
  law_lifted 6 Try.f6 Rows.clockLastSpec Try.func6 (by kernel_rfl) rfl rfl
    (fun ds h => by match ds, h with | [_, _], _ => rfl) (by kernel_rfl) os started
    (ChangeSpec.witness6 (enc := enc) (C := Try.checked) false ⟨#[], #[.int .u8 0, .slice none 0 0], []⟩ 8 (by kernel_rfl) (by kernel_rfl) (by kernel_rfl) (by kernel_rfl))
    fun W args ds ps hval hA => by
      rw [Try.params6] at hA hval
      obtain ⟨v0, vs0, d0, ds0, p0, q0, hargs, rfl, rfl, h0, r0⟩ := trodAll_cons hA
      obtain ⟨v1, vs1, d1, ds1, p1, q1, rfl, rfl, rfl, h1, r1⟩ := trodAll_cons r0
      obtain ⟨rfl, rfl, rfl⟩ := trodAll_nil r1
      obtain rfl : args = #[v0, v1] := by cases args; simp_all
      obtain ⟨b0, o0⟩ := hval 0 _ v0 rfl rfl
      obtain ⟨b1, o1⟩ := hval 1 _ v1 rfl rfl
      obtain ⟨a0, rfl, rfl, rfl, w0⟩ := open_int Try.underlying5 o0 h0
      obtain ⟨x0, rfl⟩ := wf_u8 w0
      obtain ⟨l1, hb1, hm1⟩ := open_acts8 o1 h1
      exact clockLast_walk x0 l1 _ W hb1 hm1

/-- The statement. -/
theorem clockLast_holds : Rows.ClockLastSaid :=
  OpenClaim.holds_of_wide 6 Try.f6 rfl rfl rfl rfl rfl rfl rfl ⟨rfl, rfl, rfl, rfl, rfl⟩ rfl rfl rfl rfl rfl (by kernel_rfl) Try.func6 (by kernel_rfl)
    (of_decide_eq_true (by kernel_rfl)) (by unfold Func.isWrapper; first | (rw [if_pos (by decide +kernel)]; kernel_rfl) | (rw [if_neg (by decide +kernel)]; exact ⟨rfl, rfl⟩))
    (fun os started H enc _ => clockLast_lifted os started H enc)
#print axioms clockLast_holds

end Go.Proofs.Ytkbillhcagbbmaa

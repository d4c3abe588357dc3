/-
  Proved: there are never more things than places; one goes only where all places are full, and just one for one that comes; what is there is what was put last. Whatever places and acts come in, the law ClockBounds answers true and the arguments read as they did.
  Conditions: none.
-/
import Derived.Test.YtkbillhcagbbmaaActs08
import Derived.Test.YtkbillhcagbbmaaBoundsMath
import Derived.Test.YtkbillhcagbbmaaClock6
namespace Go.Proofs.Ytkbillhcagbbmaa.Str
open Go.ChangeShapes Go.WideShapes Go.ChangeAt Go.RowKit

/-- What holds at a round's head. -/
def BndAt (w : World) (n : Nat) (W : World) : Prop := ∃ s, ClockAt w.heap.size W (w.heap.size + 2) w.heap.size (w.heap.size + 1) s ∧ s.ps.length = n ∧ Below w.heap.size w W
theorem bnd_begin {w W : World} {n : Nat} {s : Ck} (h : ClockAt w.heap.size W (w.heap.size + 2) w.heap.size (w.heap.size + 1) s) (hl : s.ps.length = n) (hb : Below w.heap.size w W) : BndAt w n W := ⟨s, h, hl, hb⟩
theorem below_did {w W W' : World} (hb : Below w.heap.size w W) (hm : Moves (fun k => k = w.heap.size + 2 ∨ k = w.heap.size ∨ k = w.heap.size + 1) W W') : Below w.heap.size w W' := hb.trans (hm.below (fun i hi => by omega) hb.size)
theorem tmod_hundred (x : Int) : -100 < x.tmod 100 ∧ x.tmod 100 < 100 := ⟨Int.lt_tmod_of_pos x (by decide), Int.tmod_lt_of_pos x (by decide)⟩
/-- Two bytes as a string. -/
theorem two_str (a b : Int) (ha : 0 ≤ a ∧ a < 256) (hb : 0 ≤ b ∧ b < 256) (W : World) : ∃ S, (convert 51 9 (.slice (some ⟨W.heap.size, 0, none⟩) 2 2)).run Try.prog (W.alloc (.cells #[.int .u8 a, .int .u8 b] 5)) = .ok (.string S) (W.alloc (.cells #[.int .u8 a, .int .u8 b] 5)) := by
  obtain ⟨x, rfl⟩ : ∃ x : BitVec 8, a = U x := U_mk ha.1 (by omega)
  obtain ⟨y, rfl⟩ : ∃ y : BitVec 8, b = U y := U_mk hb.1 (by omega)
  refine ⟨_, conv_str (n₀ := W.heap.size + 1) (bs := [x, y]) ⟨_, _, rfl, Nat.le_refl _, fun h => (by cases h), .inr ⟨W.heap.size, 0, rfl, by omega, fun j hj => ?_⟩⟩⟩
  have hg := heap_alloc_new W (.cells #[.int .u8 (U x), .int .u8 (U y)] 5)
  rw [blk_cell hg]
  have : j = 0 ∨ j = 1 := by simp at hj; omega
  rcases this with rfl | rfl <;> rfl

set_option maxRecDepth 100000 in
set_option maxHeartbeats 4000000 in
theorem clockBounds_walk (x : BitVec 8) (l : List Act8) (v : Value) (w : World) (hv : ActsAt8 w.heap.size w v l) (hm : l.length ≤ maxLen) : Calls Try.prog 4 #[.int .u8 (U x), v] w (Good w) := by
  unfold maxLen at hm
  obtain ⟨a, cap, rfl, hcap, hwf, hv⟩ := hv
  by_cases hbig : 200 < l.length
  · have b1 : (200 : Int) < l.length := by omega
    clear hwf hv
    go_enter Try.func4, Try.ntmps4
    go_wp2
    go_ret
    exact ⟨rfl, Below.refl _ _⟩
  have b1 : (l.length : Int) ≤ 200 := by omega
  have hx := U_lt x
  have hx0 := U_nonneg x
  obtain ⟨n, hn⟩ : ∃ n : Nat, U x % 64 + 1 = n := ⟨(U x % 64 + 1).toNat, by omega⟩
  have hn2 : 1 ≤ n ∧ n ≤ 64 := by omega
  have HNEW := Lib.hid (new_any w.heap.size n (by omega) w (Nat.le_refl _))
  have HN := Lib.hid hn
  have HN2 := Lib.hid hn2
  clear hn hn2
  go_enter Try.func4, Try.ntmps4
  go_upto_region 4 with (fail)
  rw [HN.out]
  obtain ⟨hn1, hn3⟩ := HN2.out
  clear hx hx0 HN HN2
  go_upto_region 5 with (go_at_call 22; (with_reducible refine HNEW.out.mono ?_); rintro e w1 ⟨rfl, hw1, hb1⟩)
  have HS1 := Lib.hid (bnd_begin hw1 (n := n) (by simp [Ck.new]) hb1)
  clear HNEW hw1 hb1
  go_wp2
  go_loopw [7] (fun iv wr => ∃ k : Nat, k ≤ l.length ∧ iv = .int .i64 k ∧ BndAt w n wr) (fun iv _ => l.length - (intOf iv).toNat)
  case atStart => exact ⟨0, by omega, rfl, HS1.out⟩
  case round =>
    obtain ⟨k, hk, rfl, s, hC, hL, hB⟩ := hrel
    by_cases hlt : k < l.length
    · have i1 : (k : Int) < l.length := by omega
      obtain ⟨ga, off, rfl, hga, hcells⟩ : ∃ g off, a = some ⟨g, off, none⟩ ∧ g < w.heap.size ∧ ∀ i, i < l.length → ActAt8 w g (off + i * 3) (l[i]?.getD default) := by
        rcases hv with h | h
        · subst h; simp at hlt
        · exact h
      have hat := hcells k hlt
      clear hv hcells HS1
      generalize l[k]?.getD default = act at hat
      obtain ⟨kind, key, thing⟩ := act
      obtain ⟨K, hK⟩ : ∃ K, key.tmod 100 = K := ⟨_, rfl⟩
      have hK2 : -100 < K ∧ K < 100 := by rw [← hK]; exact tmod_hundred key
      obtain ⟨c0, c1, c2⟩ := hat.below hB hga
      have HC := Lib.hid hC
      have HL := Lib.hid hL
      have HB := Lib.hid hB
      clear hat hB hL hC
      obtain ⟨S, hcv⟩ := two_str (thing % 256) (k : Int) (by omega) (by omega) wr
      go_upto_region 10 with (fail)
      change (Code.region _ _ _).wp _ _ _ (wr.alloc (.cells #[.int .u8 (thing % 256), .int .u8 (k : Int)] 5))
      have hC0 := HC.out.same ((Below.refl wr.heap.size wr).alloc (Nat.le_refl _) (.cells #[.int .u8 (thing % 256), .int .u8 (k : Int)] 5))
      have hB0 := HB.out.alloc HB.out.size (.cells #[.int .u8 (thing % 256), .int .u8 (k : Int)] 5)
      clear hcv c0 c1 c2
      generalize wr.alloc (.cells #[.int .u8 (thing % 256), .int .u8 (k : Int)] 5) = W0 at hC0 hB0 ⊢
      have HLEN := Lib.hid (len_any hC0)
      have HLOOK := Lib.hid (look_any hC0 K)
      have HPUT := Lib.hid (put_any hC0 K S)
      have hbn : (s.m.length : Int) ≤ n := by have := full_len hC0.ok; rw [HL.out] at this; omega
      have hok := hC0.ok
      have HB0 := Lib.hid hB0
      clear hC0 hB0 HC HB
      cases hat : s.at K with
      | some i =>
        obtain ⟨t1, t2, t3, t4⟩ := put_there zeroS (.string S) hat
        obtain ⟨y1, hlk1⟩ : ∃ y1, lookRes zeroS s K = .tuple #[y1, .bool true] := by unfold lookRes; rw [hat]; exact ⟨_, rfl⟩
        obtain ⟨y2, st, hlk2⟩ := look_any2 zeroS ((s.put zeroS K (.string S)).got K) 0
        rw [hlk1] at HLOOK
        rw [t1] at HPUT
        have HG : Hid (∀ W, ClockAt w.heap.size W (w.heap.size + 2) w.heap.size (w.heap.size + 1) (s.put zeroS K (.string S)) → Calls Try.prog 26 #[.pointer (some ⟨w.heap.size + 2, 0, none⟩), .int .i64 K] W (ClockDid w.heap.size (w.heap.size + 2) w.heap.size (w.heap.size + 1) ((s.put zeroS K (.string S)).got K) (.tuple #[.string S, .bool true]) W)) := fun W h => by
          rw [← t4 h.ok]; exact get_any h K
        have HLEN2 : Hid (∀ W, ClockAt w.heap.size W (w.heap.size + 2) w.heap.size (w.heap.size + 1) ((s.put zeroS K (.string S)).got K) → Calls Try.prog 23 #[.pointer (some ⟨w.heap.size + 2, 0, none⟩)] W fun e w' => e = .returned (.int .i64 s.m.length) ∧ W = w') := fun W h => by
          have := len_any h
          rw [got_m, t2] at this
          exact this
        have HLK2 : Hid (∀ W, ClockAt w.heap.size W (w.heap.size + 2) w.heap.size (w.heap.size + 1) ((s.put zeroS K (.string S)).got K) → Calls Try.prog 24 #[.pointer (some ⟨w.heap.size + 2, 0, none⟩), .int .i64 0] W fun e w' => e = .returned (.tuple #[y2, .bool st]) ∧ W = w') := fun W h => by
          rw [← hlk2]; exact look_any h 0
        have HT3 : Hid (((s.put zeroS K (.string S)).got K).ps.length = n) := by unfold Hid; rw [got_len, t3, HL.out]
        clear t1 t2 t3 t4 hat hok hlk1 hlk2 HL
        generalize s.m.length = b at *
        go_wp2_with (first
          | (go_at_call 23; (with_reducible refine HLEN.out.mono ?_); rintro e w' ⟨rfl, rfl⟩)
          | (go_at_call 24; (with_reducible refine HLOOK.out.mono ?_); rintro e w' ⟨rfl, rfl⟩)
          | (go_at_call 25; (with_reducible refine HPUT.out.mono ?_); rintro e w2 ⟨rfl, h2, m2⟩; have HGET := Lib.hid (HG.out _ h2); have HM2 := Lib.hid m2; clear h2 m2)
          | (go_at_call 26; (with_reducible refine HGET.out.mono ?_); rintro e w3 ⟨rfl, h3, m3⟩; have HLENB := Lib.hid (HLEN2.out _ h3); have HLKB := Lib.hid (HLK2.out _ h3); have H3 := Lib.hid h3; have HM3 := Lib.hid m3; clear h3 m3)
          | (go_at_call 23; (with_reducible refine HLENB.out.mono ?_); rintro e w' ⟨rfl, rfl⟩)
          | (go_at_call 24; (with_reducible refine HLKB.out.mono ?_); rintro e w' ⟨rfl, rfl⟩))
        go_roundw
        case rel => exact ⟨k + 1, by omega, by go_num, _, H3.out, HT3.out, below_did (below_did HB0.out HM2.out) HM3.out⟩
        case measure => simp [intOf]; omega
      | none =>
        have hlk1 : lookRes zeroS s K = .tuple #[zeroS, .bool false] := by unfold lookRes; rw [hat]
        rw [hlk1] at HLOOK
        cases hx : s.ps.findIdx? (fun p => !p.full) with
        | some i =>
          obtain ⟨t1, t2, t3, t4⟩ := put_new zeroS (.string S) hok hat hx
          obtain ⟨y2, st, hlk2⟩ := look_any2 zeroS ((s.put zeroS K (.string S)).got K) 0
          rw [t1] at HPUT
          have HG : Hid (∀ W, ClockAt w.heap.size W (w.heap.size + 2) w.heap.size (w.heap.size + 1) (s.put zeroS K (.string S)) → Calls Try.prog 26 #[.pointer (some ⟨w.heap.size + 2, 0, none⟩), .int .i64 K] W (ClockDid w.heap.size (w.heap.size + 2) w.heap.size (w.heap.size + 1) ((s.put zeroS K (.string S)).got K) (.tuple #[.string S, .bool true]) W)) := fun W h => by
            rw [← t4 h.ok]; exact get_any h K
          have HLEN2 : Hid (∀ W, ClockAt w.heap.size W (w.heap.size + 2) w.heap.size (w.heap.size + 1) ((s.put zeroS K (.string S)).got K) → Calls Try.prog 23 #[.pointer (some ⟨w.heap.size + 2, 0, none⟩)] W fun e w' => e = .returned (.int .i64 ((s.m.length : Int) + 1)) ∧ W = w') := fun W h => by
            have := len_any h
            rw [got_m, t2] at this
            exact this
          have HLK2 : Hid (∀ W, ClockAt w.heap.size W (w.heap.size + 2) w.heap.size (w.heap.size + 1) ((s.put zeroS K (.string S)).got K) → Calls Try.prog 24 #[.pointer (some ⟨w.heap.size + 2, 0, none⟩), .int .i64 0] W fun e w' => e = .returned (.tuple #[y2, .bool st]) ∧ W = w') := fun W h => by
            rw [← hlk2]; exact look_any h 0
          have HT3 : Hid (((s.put zeroS K (.string S)).got K).ps.length = n) := by unfold Hid; rw [got_len, t3, HL.out]
          have HBN : Hid (∀ W, ClockAt w.heap.size W (w.heap.size + 2) w.heap.size (w.heap.size + 1) (s.put zeroS K (.string S)) → (s.m.length : Int) + 1 ≤ n) := fun W h => by
            have := full_len h.ok
            rw [t2, t3, HL.out] at this
            omega
          clear t1 t2 t3 t4 hat hok hlk1 hlk2 HL hx
          generalize s.m.length = b at *
          go_wp2_with (first
            | (go_at_call 23; (with_reducible refine HLEN.out.mono ?_); rintro e w' ⟨rfl, rfl⟩)
            | (go_at_call 24; (with_reducible refine HLOOK.out.mono ?_); rintro e w' ⟨rfl, rfl⟩)
            | (go_at_call 25; (with_reducible refine HPUT.out.mono ?_); rintro e w2 ⟨rfl, h2, m2⟩; have HGET := Lib.hid (HG.out _ h2); have HM2 := Lib.hid m2; have hbn2 := HBN.out _ h2; clear h2 m2)
            | (go_at_call 26; (with_reducible refine HGET.out.mono ?_); rintro e w3 ⟨rfl, h3, m3⟩; have HLENB := Lib.hid (HLEN2.out _ h3); have HLKB := Lib.hid (HLK2.out _ h3); have H3 := Lib.hid h3; have HM3 := Lib.hid m3; clear h3 m3)
            | (go_at_call 23; (with_reducible refine HLENB.out.mono ?_); rintro e w' ⟨rfl, rfl⟩)
            | (go_at_call 24; (with_reducible refine HLKB.out.mono ?_); rintro e w' ⟨rfl, rfl⟩))
          go_roundw
          case rel => exact ⟨k + 1, by omega, by go_num, _, H3.out, HT3.out, below_did (below_did HB0.out HM2.out) HM3.out⟩
          case measure => simp [intOf]; omega
        | none =>
          obtain ⟨gone, was, t1, hne, hfl, t3, t4⟩ := put_full zeroS (.string S) hok hat hx
          rw [t1] at HPUT
          have hnb : n = s.m.length := by rw [hfl, HL.out]
          have HG : Hid (∀ W, ClockAt w.heap.size W (w.heap.size + 2) w.heap.size (w.heap.size + 1) (s.put zeroS K (.string S)) → Calls Try.prog 26 #[.pointer (some ⟨w.heap.size + 2, 0, none⟩), .int .i64 K] W (ClockDid w.heap.size (w.heap.size + 2) w.heap.size (w.heap.size + 1) ((s.put zeroS K (.string S)).got K) (.tuple #[.string S, .bool true]) W)) := fun W h => by
            rw [← (t4 h.ok).2.1]; exact get_any h K
          have HLEN2F : Hid ((s.put zeroS K (.string S)).Ok → ∀ W, ClockAt w.heap.size W (w.heap.size + 2) w.heap.size (w.heap.size + 1) ((s.put zeroS K (.string S)).got K) → Calls Try.prog 23 #[.pointer (some ⟨w.heap.size + 2, 0, none⟩)] W fun e w' => e = .returned (.int .i64 s.m.length) ∧ W = w') := fun ho W h => by
            have := len_any h
            rw [got_m, (t4 ho).1] at this
            exact this
          have HLK2F : Hid ((s.put zeroS K (.string S)).Ok → ∀ W, ClockAt w.heap.size W (w.heap.size + 2) w.heap.size (w.heap.size + 1) ((s.put zeroS K (.string S)).got K) → Calls Try.prog 24 #[.pointer (some ⟨w.heap.size + 2, 0, none⟩), .int .i64 gone] W fun e w' => e = .returned (.tuple #[zeroS, .bool false]) ∧ W = w') := fun ho W h => by
            rw [← (t4 ho).2.2]; exact look_any h gone
          have HT3 : Hid (((s.put zeroS K (.string S)).got K).ps.length = n) := by unfold Hid; rw [got_len, t3, HL.out]
          clear t1 t3 t4 hat hok hlk1 HL hx hfl
          generalize s.m.length = b at *
          subst hnb
          go_wp2_with (first
            | (go_at_call 23; (with_reducible refine HLEN.out.mono ?_); rintro e w' ⟨rfl, rfl⟩)
            | (go_at_call 24; (with_reducible refine HLOOK.out.mono ?_); rintro e w' ⟨rfl, rfl⟩)
            | (go_at_call 25; (with_reducible refine HPUT.out.mono ?_); rintro e w2 ⟨rfl, h2, m2⟩; have HGET := Lib.hid (HG.out _ h2); have HM2 := Lib.hid m2; have HLEN2 := Lib.hid (HLEN2F.out h2.ok); have HLK2 := Lib.hid (HLK2F.out h2.ok); clear h2 m2)
            | (go_at_call 26; (with_reducible refine HGET.out.mono ?_); rintro e w3 ⟨rfl, h3, m3⟩; have HLENB := Lib.hid (HLEN2.out _ h3); have HLKB := Lib.hid (HLK2.out _ h3); have H3 := Lib.hid h3; have HM3 := Lib.hid m3; clear h3 m3)
            | (go_at_call 23; (with_reducible refine HLENB.out.mono ?_); rintro e w' ⟨rfl, rfl⟩)
            | (go_at_call 24; (with_reducible refine HLKB.out.mono ?_); rintro e w' ⟨rfl, rfl⟩))
          go_roundw
          case rel => exact ⟨k + 1, by omega, by go_num, _, H3.out, HT3.out, below_did (below_did HB0.out HM2.out) HM3.out⟩
          case measure => simp [intOf]; omega
    · obtain rfl : k = l.length := by omega
      have HB := Lib.hid hB
      clear hB hC hL hv
      go_wp2_with (go_at_call 9; (with_reducible refine (awake08 _).mono ?_); rintro e w7 ⟨rfl, hb7⟩)
      go_ret
      exact ⟨rfl, HB.out.trans (hb7.mono HB.out.size)⟩
end Go.Proofs.Ytkbillhcagbbmaa.Str
namespace Go.Proofs.Ytkbillhcagbbmaa
open Go.ChangeShapes Go.WideShapes Go.ChangeAt Go.RowKit

set_option maxRecDepth 100000 in
theorem clockBounds_lifted (os : Os) (started : os.Started) (H : Type) (enc : TypeId × Value → H) :
    ReturnsInHanded {} Try.checked os 4 .any (Rows.clockBoundsSpec.pre6 enc Try.prog Try.f4 Rows.clockBoundsRow.domain false) (Rows.clockBoundsSpec.post enc Try.prog Try.f4 false true false false) :=
  law_lifted 4 Try.f4 Rows.clockBoundsSpec Try.func4 (by kernel_rfl) rfl rfl
    (fun ds h => by match ds, h with | [_, _], _ => rfl) (by kernel_rfl) os started
    (ChangeSpec.witness6 (enc := enc) (C := Try.checked) false ⟨#[], #[.int .u8 0, .slice none 0 0], []⟩ 8 (by kernel_rfl) (by kernel_rfl) (by kernel_rfl) (by kernel_rfl))
    fun W args ds ps hval hA => by
      rw [Try.params4] at hA hval
      obtain ⟨v0, vs0, d0, ds0, p0, q0, hargs, rfl, rfl, h0, r0⟩ := trodAll_cons hA
      obtain ⟨v1, vs1, d1, ds1, p1, q1, rfl, rfl, rfl, h1, r1⟩ := trodAll_cons r0
      obtain ⟨rfl, rfl, rfl⟩ := trodAll_nil r1
      obtain rfl : args = #[v0, v1] := by cases args; simp_all
      obtain ⟨b0, o0⟩ := hval 0 _ v0 rfl rfl
      obtain ⟨b1, o1⟩ := hval 1 _ v1 rfl rfl
      obtain ⟨a0, rfl, rfl, rfl, w0⟩ := open_int Try.underlying5 o0 h0
      obtain ⟨x0, rfl⟩ := wf_u8 w0
      obtain ⟨l1, hb1, hm1⟩ := open_acts8 o1 h1
      exact Str.clockBounds_walk x0 l1 _ W hb1 hm1

/-- The statement. -/
theorem clockBounds_holds : Rows.ClockBoundsSaid :=
  OpenClaim.holds_of_wide 4 Try.f4 rfl rfl rfl rfl rfl rfl rfl ⟨rfl, rfl, rfl, rfl, rfl⟩ rfl rfl rfl rfl rfl (by kernel_rfl) Try.func4 (by kernel_rfl)
    (of_decide_eq_true (by kernel_rfl)) (by unfold Func.isWrapper; first | (rw [if_pos (by decide +kernel)]; kernel_rfl) | (rw [if_neg (by decide +kernel)]; exact ⟨rfl, rfl⟩))
    (fun os started H enc _ => clockBounds_lifted os started H enc)
#print axioms clockBounds_holds

end Go.Proofs.Ytkbillhcagbbmaa

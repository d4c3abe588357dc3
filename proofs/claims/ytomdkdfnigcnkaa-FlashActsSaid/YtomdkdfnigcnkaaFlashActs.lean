/-
  Proved: armed with n, a device does n - 1 writes and syncs, and no more. Whatever number and whatever bools come in, the law FlashActs answers true and the arguments read as they did.
  Conditions: none.
-/
import Derived.Test.YtomdkdfnigcnkaaAwake04
import Derived.Test.YtomdkdfnigcnkaaOpenC
namespace Go.Proofs.Ytomdkdfnigcnkaa
open Go.ChangeShapes Go.WideShapes Go.ChangeAt Go.RowKit

/-- A device armed with k, behind i acts. -/
structure ActsInv (k i : Nat) (d : Dev) : Prop where
  sectors : d.sectors = 1
  size : d.size = 96
  acts : d.acts = min i k
  armed : d.armed = k - i
  down : d.down = decide (k ≤ i)
  small : d.Small (min i k)
theorem acts_new (k : Nat) (hk : 1 ≤ k) (hk2 : k ≤ 100) : ActsInv k 0 { (Dev.new 1 96) with armed := (k : Int).toNat } :=
  ⟨rfl, rfl, by show 0 = min 0 k; omega, by show (k : Int).toNat = k - 0; omega, by show false = decide (k ≤ 0); simp; omega, ⟨Nat.zero_le _, Nat.zero_le _, fun _ => Nat.zero_le _, by show (k : Int).toNat ≤ _; omega⟩⟩
theorem acts_sync {k i : Nat} {d : Dev} (h : ActsInv k i d) : ActsInv k (i + 1) d.sync ∧ syncErr d = if i + 1 < k then 0 else 4 := by
  by_cases hd : k ≤ i
  · have hdn : d.down = true := by rw [h.down]; simpa using hd
    have e : d.sync = d := by simp [Dev.sync, hdn]
    rw [e]
    refine ⟨⟨h.sectors, h.size, by rw [h.acts]; omega, by rw [h.armed]; omega, by rw [h.down]; simp; omega, h.small.mono (by omega)⟩, ?_⟩
    rw [if_neg (by omega)]
    simp [syncErr, hdn]
  · have hdn : d.down = false := by rw [h.down]; simpa using hd
    have hs := h.small.sync
    by_cases ha : d.armed = 1
    · have hik : i + 1 = k := by have := h.armed; omega
      have e : d.sync = d.act := by simp [Dev.sync, hdn, ha]
      rw [e] at hs ⊢
      refine ⟨⟨h.sectors, h.size, by show d.acts + 1 = _; rw [h.acts]; omega, by show d.armed - 1 = _; omega, by show (if d.armed = 1 then true else d.down) = _; rw [if_pos ha]; simp; omega, hs.mono (by omega)⟩, ?_⟩
      rw [if_neg (by omega)]
      simp [syncErr, hdn, ha]
    · have hik : i + 1 < k := by have := h.armed; omega
      have e : d.sync = ((d.act).settle d.loose).forget := by simp [Dev.sync, hdn, ha]
      have es := settle_same d.act d.loose
      rw [e] at hs ⊢
      refine ⟨⟨es.2.1.trans h.sectors, es.2.2.1.trans h.size, es.2.2.2.2.2.1.trans ?_, es.2.2.2.2.1.trans ?_, es.2.2.2.2.2.2.trans ?_, hs.mono (by omega)⟩, ?_⟩
      · show d.acts + 1 = _; rw [h.acts]; omega
      · show d.armed - 1 = _; rw [h.armed]; omega
      · show (if d.armed = 1 then true else d.down) = _; rw [if_neg ha, hdn]; symm; simp; omega
      · rw [if_pos hik]; simp [syncErr, hdn, ha]
theorem acts_write {k i : Nat} {d : Dev} (h : ActsInv k i d) (bs : List (BitVec 8)) (hb : bs.length = 96) : ActsInv k (i + 1) (d.write 0 bs) ∧ writeErr d 0 bs.length = if i + 1 < k then 0 else 4 := by
  by_cases hd : k ≤ i
  · have hdn : d.down = true := by rw [h.down]; simpa using hd
    have ha : askErr d.sectors d.down 0 = 4 := by simp [askErr, hdn]
    have e : d.write 0 bs = d := by unfold Dev.write; rw [if_neg (by rw [ha]; simp)]
    rw [e]
    refine ⟨⟨h.sectors, h.size, by rw [h.acts]; omega, by rw [h.armed]; omega, by rw [h.down]; simp; omega, h.small.mono (by omega)⟩, ?_⟩
    rw [if_neg (by omega)]
    simp [writeErr, ha]
  · have hdn : d.down = false := by rw [h.down]; simpa using hd
    have ha : askErr d.sectors d.down 0 = 0 := by simp [askErr, hdn, h.sectors]
    have hl : bs.length = d.size := by rw [hb, h.size]
    have hs := h.small.write 0 bs
    have e : d.write 0 bs = (d.give 0 bs).act := by unfold Dev.write; rw [if_pos ⟨ha, hl⟩]; rfl
    have ew : writeErr d 0 bs.length = if d.armed = 1 then 4 else 0 := by unfold writeErr; rw [if_neg (by simpa using ha), if_neg (by simpa using hl)]
    rw [e] at hs ⊢
    have hg := h.armed
    refine ⟨⟨h.sectors, h.size, by show d.acts + 1 = _; rw [h.acts]; omega, by show d.armed - 1 = _; omega, ?_, hs.mono (by omega)⟩, ?_⟩
    · show (if d.armed = 1 then true else d.down) = _
      by_cases ha1 : d.armed = 1
      · rw [if_pos ha1]; symm; simp; omega
      · rw [if_neg ha1, hdn]; symm; simp; omega
    · rw [ew]
      by_cases ha1 : d.armed = 1
      · rw [if_pos ha1, if_neg (by omega)]
      · rw [if_neg ha1, if_pos (by omega)]

set_option maxRecDepth 100000 in
set_option maxHeartbeats 2000000 in
theorem flashActs_walk (n : BitVec 8) (l : List Bool) (v : Value) (w : World) (hv : BoolsIn w.heap.size w v l) (hm : l.length ≤ maxLen) : Calls Try.prog 8 #[.int .u8 (U n), v] w (Good w) := by
  unfold maxLen at hm
  obtain ⟨a, cap, rfl, _, hv⟩ := hv
  by_cases hbig : 100 < l.length
  · have b1 : (100 : Int) < l.length := by omega
    clear hv
    go_enter Try.func8, Try.ntmps8
    go_wp2
    go_ret
    exact ⟨rfl, Below.refl _ _⟩
  have b1 : (l.length : Int) ≤ 100 := by omega
  have n0 := U_nonneg n
  have n1 : U n < 256 := by have := U_lt n; simpa using this
  have HNEW : Hid (Calls Try.prog 10 #[.int .i64 1, .int .i64 96] w fun e W' => ∃ D, e = .returned (.pointer (some ⟨D, 0, none⟩)) ∧ DevHere w D (Dev.new 1 96) W' ∧ Below w.heap.size w W') := here_new 1 96 (by decide) (Below.refl _ _)
  obtain ⟨k, hk⟩ : ∃ k : Nat, U n % 100 + 1 = (k : Int) := ⟨(U n % 100 + 1).toNat, by omega⟩
  have k1 : 1 ≤ k := by omega
  have k2 : k ≤ 100 := by omega
  have HK := Lib.hid hk
  clear hk
  have HFU : Hid (∀ W, w.heap.size ≤ W.heap.size → Calls Try.prog 35 #[.int .u8 (U n), .int .i64 96] W (FullAt w.heap.size n 96 W)) := fun W h => full_from _ n 96 (by decide) W h
  go_enter Try.func8, Try.ntmps8
  go_upto_region 5 with (go_at_call 10; (with_reducible refine HNEW.out.mono ?_); rintro e w1 ⟨D, rfl, hd1, hb1⟩; have HD := Lib.hid hd1; clear hd1 hb1)
  rw [HK.out]
  have HARM := Lib.hid (here_arm HD.out (k : Int))
  have HINV := Lib.hid (acts_new k k1 k2)
  generalize ({ (Dev.new 1 96) with armed := (k : Int).toNat } : Dev) = d0 at HARM HINV
  have kk1 : (1 : Int) ≤ k := by omega
  have kk2 : (k : Int) ≤ 100 := by omega
  clear n0 n1
  go_wp2_with (go_at_call 20; (with_reducible refine HARM.out.mono ?_); rintro e w2 ⟨rfl, hd2⟩; have HD2 := Lib.hid hd2; clear hd2)
  go_loopw [7] (fun iv wr => ∃ (i : Nat) (d : Dev), i ≤ l.length ∧ iv = .int .i64 i ∧ ActsInv k i d ∧ DevHere w D d wr) (fun iv _ => l.length - (intOf iv).toNat)
  case atStart => exact ⟨0, d0, Nat.zero_le _, rfl, HINV.out, HD2.out⟩
  case round =>
    obtain ⟨i, d, hi, rfl, hinv, hd⟩ := hrel
    by_cases hlt : i < l.length
    · rcases hv with h | ⟨g, off, rfl, hg, hc⟩
      · subst h; simp at hlt
      have c0 := (hd.below.cell (p := ⟨g, off + i, none⟩) hg).trans (hc i hlt)
      have i0 : (0 : Int) ≤ i := by omega
      have i1 : (i : Int) < l.length := by omega
      have hs := hinv.small
      clear hc hg
      cases hb : l[i]?.getD false with
      | true =>
        rw [hb] at c0
        have HA := acts_sync hinv
        have HS := Lib.hid (here_sync hd hs (by omega))
        obtain ⟨hi2, he⟩ := HA
        rw [he] at HS
        have HI2 := Lib.hid hi2
        have hdn := hi2.down
        clear hb hinv hd he hi2
        by_cases hle : i + 1 < k
        · rw [if_pos hle] at HS
          have hdn2 : d.sync.down = false := by rw [hdn]; simpa using hle
          have t1 : (i : Int) < k - 1 := by omega
          generalize d.sync = d2 at HS HI2 hdn2
          clear hdn
          have HDN := Lib.hid hdn2
          clear hdn2 hle
          go_wp2_with (first
            | (go_at_call 16; (with_reducible refine HS.out.mono ?_); rintro e w3 ⟨rfl, hd3⟩; have HD3 := Lib.hid hd3; have HDO := here_down hd3; rw [HDN.out] at HDO; have HDO := Lib.hid HDO; clear hd3)
            | (go_at_call 28; (with_reducible refine HDO.out.mono ?_); rintro e w4 ⟨rfl, rfl⟩))
          go_roundw
          case rel => exact ⟨i + 1, d2, by omega, by go_num, HI2.out, HD3.out⟩
          case measure => simp [intOf]; omega
        · rw [if_neg hle] at HS
          have hdn2 : d.sync.down = true := by rw [hdn]; simp; omega
          have t1 : (k : Int) - 1 ≤ i := by omega
          generalize d.sync = d2 at HS HI2 hdn2
          clear hdn
          have HDN := Lib.hid hdn2
          clear hdn2 hle
          go_wp2_with (first
            | (go_at_call 16; (with_reducible refine HS.out.mono ?_); rintro e w3 ⟨rfl, hd3⟩; have HD3 := Lib.hid hd3; have HDO := here_down hd3; rw [HDN.out] at HDO; have HDO := Lib.hid HDO; clear hd3)
            | (go_at_call 28; (with_reducible refine HDO.out.mono ?_); rintro e w4 ⟨rfl, rfl⟩))
          go_roundw
          case rel => exact ⟨i + 1, d2, by omega, by go_num, HI2.out, HD3.out⟩
          case measure => simp [intOf]; omega
      | false =>
        rw [hb] at c0
        have HA := acts_write hinv (List.replicate 96 n) (by simp)
        have HW := Lib.hid (fun W u (hh : DevHere w D d W) (hu : BytesAt W.heap.size W u (List.replicate 96 n)) => here_write hh 0 hu hs (by omega))
        obtain ⟨hi2, he⟩ := HA
        rw [he] at HW
        have HI2 := Lib.hid hi2
        have hdn := hi2.down
        have HD := Lib.hid hd
        clear hb hinv hd he hi2
        by_cases hle : i + 1 < k
        · rw [if_pos hle] at HW
          have hdn2 : (d.write 0 (List.replicate 96 n)).down = false := by rw [hdn]; simpa using hle
          have t1 : (i : Int) < k - 1 := by omega
          generalize (d.write 0 (List.replicate 96 n)) = d2 at HW HI2 hdn2
          clear hdn
          have HDN := Lib.hid hdn2
          clear hdn2 hle
          go_wp2_with (first
            | (go_at_call 35; (with_reducible refine (HFU.out _ HD.out.size).mono ?_); rintro e w3 ⟨g1, rfl, hr1, hb1⟩; have HWR := Lib.hid (HW.out _ _ (HD.out.on hb1) (full_bytes hr1)); clear hr1 hb1)
            | (go_at_call 26; (with_reducible refine HWR.out.mono ?_); rintro e w3 ⟨rfl, hd3⟩; have HD3 := Lib.hid hd3; have HDO := here_down hd3; rw [HDN.out] at HDO; have HDO := Lib.hid HDO; clear hd3)
            | (go_at_call 28; (with_reducible refine HDO.out.mono ?_); rintro e w4 ⟨rfl, rfl⟩))
          go_roundw
          case rel => exact ⟨i + 1, d2, by omega, by go_num, HI2.out, HD3.out⟩
          case measure => simp [intOf]; omega
        · rw [if_neg hle] at HW
          have hdn2 : (d.write 0 (List.replicate 96 n)).down = true := by rw [hdn]; simp; omega
          have t1 : (k : Int) - 1 ≤ i := by omega
          generalize (d.write 0 (List.replicate 96 n)) = d2 at HW HI2 hdn2
          clear hdn
          have HDN := Lib.hid hdn2
          clear hdn2 hle
          go_wp2_with (first
            | (go_at_call 35; (with_reducible refine (HFU.out _ HD.out.size).mono ?_); rintro e w3 ⟨g1, rfl, hr1, hb1⟩; have HWR := Lib.hid (HW.out _ _ (HD.out.on hb1) (full_bytes hr1)); clear hr1 hb1)
            | (go_at_call 26; (with_reducible refine HWR.out.mono ?_); rintro e w3 ⟨rfl, hd3⟩; have HD3 := Lib.hid hd3; have HDO := here_down hd3; rw [HDN.out] at HDO; have HDO := Lib.hid HDO; clear hd3)
            | (go_at_call 28; (with_reducible refine HDO.out.mono ?_); rintro e w4 ⟨rfl, rfl⟩))
          go_roundw
          case rel => exact ⟨i + 1, d2, by omega, by go_num, HI2.out, HD3.out⟩
          case measure => simp [intOf]; omega
    · obtain rfl : i = l.length := by omega
      have hac := here_acts hd
      have e1 : (d.acts : Int) = min (l.length : Int) (k : Int) := by have := hinv.acts; omega
      rw [e1] at hac
      have HAC := Lib.hid hac
      have HBL := Lib.hid hd.below
      clear hd hinv hac e1 hv
      by_cases hlk : l.length ≤ k
      · have m1 : min (l.length : Int) (k : Int) = l.length := by omega
        rw [m1] at HAC
        have m2 : (l.length : Int) ≤ k := by omega
        clear m1
        go_wp2_with (first
          | (go_at_call 30; (with_reducible refine HAC.out.mono ?_); rintro e w5 ⟨rfl, rfl⟩)
          | (go_at_call 14; (with_reducible refine (awake04 _).mono ?_); rintro e w6 ⟨rfl, hb6⟩))
        go_ret
        exact ⟨rfl, HBL.out.trans (hb6.mono HBL.out.size)⟩
      · have m1 : min (l.length : Int) (k : Int) = k := by omega
        rw [m1] at HAC
        have m2 : (k : Int) < l.length := by omega
        clear m1
        go_wp2_with (first
          | (go_at_call 30; (with_reducible refine HAC.out.mono ?_); rintro e w5 ⟨rfl, rfl⟩)
          | (go_at_call 14; (with_reducible refine (awake04 _).mono ?_); rintro e w6 ⟨rfl, hb6⟩))
        go_ret
        exact ⟨rfl, HBL.out.trans (hb6.mono HBL.out.size)⟩

set_option maxRecDepth 100000 in
theorem flashActs_lifted (os : Os) (started : os.Started) (H : Type) (enc : TypeId × Value → H) :
    ReturnsInHanded {} Try.checked os 8 .any (Rows.flashActsSpec.pre6 enc Try.prog Try.f8 Rows.flashActsRow.domain false) (Rows.flashActsSpec.post enc Try.prog Try.f8 false true false false) :=
  law_lifted 8 Try.f8 Rows.flashActsSpec Try.func8 (by kernel_rfl) rfl rfl
    (fun ds h => by match ds, h with | [_, _], _ => rfl) (by kernel_rfl) os started
    (ChangeSpec.witness6 (enc := enc) (C := Try.checked) false ⟨#[], #[.int .u8 0, .slice none 0 0], []⟩ 8 (by kernel_rfl) (by kernel_rfl) (by kernel_rfl) (by kernel_rfl))
    fun W args ds ps hval hA => by
      rw [Try.params8] at hA hval
      obtain ⟨v0, vs0, d0, ds0, p0, q0, hargs, rfl, rfl, h0, r0⟩ := trodAll_cons hA
      obtain ⟨v1, vs1, d1, ds1, p1, q1, rfl, rfl, rfl, h1, r1⟩ := trodAll_cons r0
      obtain ⟨rfl, rfl, rfl⟩ := trodAll_nil r1
      obtain rfl : args = #[v0, v1] := by cases args; simp_all
      obtain ⟨b0, o0⟩ := hval 0 _ v0 rfl rfl
      obtain ⟨b1, o1⟩ := hval 1 _ v1 rfl rfl
      obtain ⟨a0, rfl, rfl, rfl, w0⟩ := open_int Try.underlying5 o0 h0
      obtain ⟨x0, rfl⟩ := wf_u8 w0
      obtain ⟨l1, hb1, hm1⟩ := open_bools o1 h1
      exact flashActs_walk x0 l1 v1 W hb1 hm1

/-- The statement. -/
theorem flashActs_holds : Rows.FlashActsSaid :=
  OpenClaim.holds_of_wide 8 Try.f8 rfl rfl rfl rfl rfl rfl rfl ⟨rfl, rfl, rfl, rfl, rfl⟩ rfl rfl rfl rfl rfl (by kernel_rfl) Try.func8 (by kernel_rfl)
    (of_decide_eq_true (by kernel_rfl)) (by unfold Func.isWrapper; first | (rw [if_pos (by decide +kernel)]; kernel_rfl) | (rw [if_neg (by decide +kernel)]; exact ⟨rfl, rfl⟩))
    (fun os started H enc _ => flashActs_lifted os started H enc)
#print axioms flashActs_holds
end Go.Proofs.Ytomdkdfnigcnkaa

/-
  Proved: bytes that are changed within 32 bits in a row have another check. Whatever bytes, place and bits come in, the law CrcBursts answers true and the arguments read as they did.
  Conditions: none.
-/
import Derived.Test.YtbhmieddjgklpaaCrcSum
import Derived.Test.YtbhmieddjgklpaaOpen
import Derived.Test.YtbhmieddjgklpaaCrcBurstMath
namespace Go.Proofs.Ytbhmieddjgklpaa
open Go.ChangeShapes Go.WideShapes Go.ChangeAt Go.RowKit

/-- cs is bs with the bits of T turned from the bit k on, as far as i. -/
def Diff (bs cs : List (BitVec 8)) (k i : Nat) (T : BitVec 32) : Prop :=
  cs.length = bs.length ∧ ∀ p, p < 8 * bs.length → ((cs[p / 8]?.getD 0) ^^^ (bs[p / 8]?.getD 0)).getLsbD (p % 8) = (decide (k ≤ p) && decide (p < k + i) && T.getLsbD (p - k))
theorem Diff.zero (bs : List (BitVec 8)) (k : Nat) (T : BitVec 32) : Diff bs bs k 0 T := by
  refine ⟨rfl, fun p _ => ?_⟩
  rw [BitVec.xor_self]
  by_cases h : k ≤ p
  · have : decide (p < k + 0) = false := decide_eq_false (by omega)
    rw [this]; simp
  · simp [h]
theorem Diff.skip {bs cs : List (BitVec 8)} {k i : Nat} {T : BitVec 32} (h : Diff bs cs k i T) (ht : T.getLsbD i = false ∨ 8 * bs.length ≤ k + i) : Diff bs cs k (i + 1) T := by
  refine ⟨h.1, fun p hp => ?_⟩
  rw [h.2 p hp]
  by_cases hpi : p = k + i
  · subst hpi
    rcases ht with ht | ht
    · simp [ht]
    · omega
  · have : (p < k + (i + 1)) ↔ (p < k + i) := by omega
    simp [this]
theorem Diff.flip {bs cs : List (BitVec 8)} {k i : Nat} {T : BitVec 32} (h : Diff bs cs k i T) (ht : T.getLsbD i = true) (hk : k + i < 8 * bs.length) :
    Diff bs (cs.set ((k + i) / 8) ((cs[(k + i) / 8]?.getD 0) ^^^ (1#8 <<< ((k + i) % 8)))) k (i + 1) T := by
  have hl := h.1
  refine ⟨by simpa using hl, fun p hp => ?_⟩
  have hj : (k + i) / 8 < cs.length := by omega
  by_cases hb : p / 8 = (k + i) / 8
  · rw [hb, List.getElem?_set_self hj, Option.getD_some]
    have e : (cs[(k + i) / 8]?.getD 0) ^^^ (1#8 <<< ((k + i) % 8)) ^^^ (bs[(k + i) / 8]?.getD 0) = ((cs[(k + i) / 8]?.getD 0) ^^^ (bs[(k + i) / 8]?.getD 0)) ^^^ (1#8 <<< ((k + i) % 8)) := by
      rw [BitVec.xor_assoc, BitVec.xor_comm (1#8 <<< _), ← BitVec.xor_assoc]
    have h2 := h.2 p hp
    rw [hb] at h2
    rw [e, BitVec.getLsbD_xor, h2, BitVec.getLsbD_shiftLeft]
    by_cases hpi : p = k + i
    · subst hpi
      have : (k + i) % 8 < 8 := Nat.mod_lt _ (by decide)
      simp [ht, this]
    · have hm : p % 8 ≠ (k + i) % 8 := by omega
      have h8 : p % 8 < 8 := Nat.mod_lt _ (by decide)
      have h3 : (p < k + (i + 1)) ↔ (p < k + i) := by omega
      have hone : (!decide (p % 8 < (k + i) % 8) && (1#8).getLsbD (p % 8 - (k + i) % 8)) = false := by
        by_cases hlt : p % 8 < (k + i) % 8
        · simp [hlt]
        · have : p % 8 - (k + i) % 8 ≠ 0 := by omega
          simp [BitVec.getLsbD_one, this]
      simp only [h8, decide_true, Bool.true_and, hone, Bool.xor_false, h3]
  · rw [List.getElem?_set_ne (by omega), h.2 p hp]
    have hpi : p ≠ k + i := by intro e; subst e; exact hb rfl
    have h3 : (p < k + (i + 1)) ↔ (p < k + i) := by omega
    simp [h3]
/-- Was a bit turned, as far as i? -/
def chg (n k i : Nat) (T : BitVec 32) : Bool := (List.range i).any fun q => T.getLsbD q && decide (k + q < 8 * n)
theorem chg_succ (n k i : Nat) (T : BitVec 32) : chg n k (i + 1) T = (chg n k i T || (T.getLsbD i && decide (k + i < 8 * n))) := by
  simp [chg, List.range_succ]
theorem Diff.told {bs cs : List (BitVec 8)} {k : Nat} {T : BitVec 32} (h : Diff bs cs k 32 T) : ((U (crcAdd 0#32 cs) != U (crcAdd 0#32 bs)) == chg bs.length k 32 T) = true := by
  have hsame : crcAdd 0#32 cs = crcAdd 0#32 bs → cs = bs := burst_same bs cs k 0#32 h.1 (fun p hp hb => by
    rw [h.2 p hp] at hb
    simp at hb
    omega)
  cases hc : chg bs.length k 32 T with
  | true =>
    simp only [chg, List.any_eq_true, List.mem_range, Bool.and_eq_true, decide_eq_true_eq] at hc
    obtain ⟨q, hq, hT, hp⟩ := hc
    have hne : crcAdd 0#32 cs ≠ crcAdd 0#32 bs := by
      intro e
      have h2 := h.2 (k + q) hp
      rw [hsame e, BitVec.xor_self, Nat.add_sub_cancel_left, hT] at h2
      simp [hq] at h2
    have : U (crcAdd 0#32 cs) ≠ U (crcAdd 0#32 bs) := fun e => hne (U_inj.1 e)
    simp [this]
  | false =>
    have he : cs = bs := by
      apply List.ext_getElem h.1
      intro j h3 h4
      apply xor_eq_zero
      apply BitVec.eq_of_getLsbD_eq
      intro t ht
      have h2 := h.2 (8 * j + t) (by omega)
      rw [show (8 * j + t) / 8 = j by omega, show (8 * j + t) % 8 = t by omega] at h2
      have h5 : (decide (k ≤ 8 * j + t) && decide (8 * j + t < k + 32) && T.getLsbD (8 * j + t - k)) = false := by
        cases hv : (decide (k ≤ 8 * j + t) && decide (8 * j + t < k + 32) && T.getLsbD (8 * j + t - k)) with
        | false => rfl
        | true =>
          simp only [Bool.and_eq_true, decide_eq_true_eq] at hv
          have : chg bs.length k 32 T = true := by
            simp only [chg, List.any_eq_true, List.mem_range, Bool.and_eq_true, decide_eq_true_eq]
            exact ⟨8 * j + t - k, by omega, hv.2, by omega⟩
          rw [hc] at this; cases this
      rw [h5] at h2
      simp [h3, h4] at h2
      simpa using h2
    rw [he]; simp

theorem even32 (x : BitVec 32) : (U x % 2 == 1) = x.getLsbD 0 := by
  have h : U x % 2 = ((x.toNat % 2 : Nat) : Int) := by unfold U; simp
  rw [h, BitVec.getLsbD, Nat.testBit_zero]
  have : x.toNat % 2 < 2 := Nat.mod_lt _ (by decide)
  rcases (by omega : x.toNat % 2 = 0 ∨ x.toNat % 2 = 1) with h | h <;> simp [h]
theorem bit0_shr (T : BitVec 32) (i : Nat) : (T >>> i).getLsbD 0 = T.getLsbD i := by simp
theorem shr_shr1 (T : BitVec 32) (i : Nat) : U (T >>> i) / (2 : Int) = U (T >>> (i + 1)) := by
  rw [shr1_32, ← BitVec.shiftRight_add]
theorem half32 (T : BitVec 32) (i : Nat) : (U (T >>> i)).tdiv 2 % 4294967296 = U (T >>> (i + 1)) := by
  have h0 := U_nonneg (T >>> (i + 1))
  have h1 : U (T >>> (i + 1)) < 4294967296 := by simpa using U_lt (T >>> (i + 1))
  rw [Int.tdiv_eq_ediv_of_nonneg (U_nonneg _), shr_shr1, Int.emod_eq_of_lt h0 h1]
theorem dbl8 (j : Nat) : IntKind.u8.wrap (U (1#8 <<< j) * 2) = U (1#8 <<< (j + 1)) := by
  have e : IntKind.u8.wrap (U (1#8 <<< j) * 2) = U ((1#8 <<< j) * 2#8) := by
    rw [wrap_u8_mod, BitVec.ofInt_mul, ofInt_U]; rfl
  rw [e, BitVec.shiftLeft_add, BitVec.shiftLeft_eq_mul_twoPow (1#8 <<< j) 1]
  rfl

theorem ownsRow_pos {W : World} {base : Nat} {e : TypeId} {size : Nat} {v : Value} {n : Nat} {xs : List Value} (h : W.ownsRow base e size v n xs) (hn : 0 < n) : ∃ g cap, v = .slice (some ⟨g, 0, none⟩) n cap := by
  rcases h.2 with ⟨_, h0⟩ | ⟨g, cap, _, rfl, _⟩
  · omega
  · exact ⟨g, cap, rfl⟩
theorem cellsOf_set (cs : List (BitVec 8)) (q : Nat) (x : BitVec 8) : (cellsOf cs).set q (.int .u8 (U x)) = cellsOf (cs.set q x) := by simp [cellsOf, List.map_set]
theorem cellsOf_get (cs : List (BitVec 8)) (q : Nat) (h : q < cs.length) : (cellsOf cs)[q]? = some (.int .u8 (U (cs[q]?.getD 0))) := by simp [cellsOf, h]
theorem mod8 (k i : Nat) : ((k : Int) + (i : Int)) % 8 = (((k + i) % 8 : Nat) : Int) := by omega
theorem div8 (k i : Nat) : ((k : Int) + (i : Int)) / 8 = (((k + i) / 8 : Nat) : Int) := by omega

set_option maxRecDepth 100000 in
set_option maxHeartbeats 2000000 in
theorem crcBursts_core (bs : List (BitVec 8)) (ad : Addr) (cap : Nat) (at_ : Int) (T : BitVec 32) (w : World) (hv : BytesAt w.heap.size w (.slice (some ad) bs.length cap) bs) (h1 : 1 ≤ bs.length) (h2 : bs.length ≤ 1000)
    (k : Nat) (hk : (IntKind.u64.wrap at_).tmod (8 * (bs.length : Int)) = (k : Int)) (hk2 : k < 8 * bs.length) :
    Calls Try.prog 5 #[.slice (some ad) bs.length cap, .int .i64 at_, .int .u32 (U T)] w (Good w) := by
  obtain ⟨i0, hi, hz0, hz1, hz2⟩ := info_parts Try.infoU8
  have n1 : (1 : Int) ≤ bs.length := by omega
  have n2 : (bs.length : Int) ≤ 1000 := by omega
  have k2 : (k : Int) < 8 * bs.length := by omega
  have hn0 : bs.length ≠ 0 := by omega
  have hne : ((bs.length : Int) == 0) = false := by simpa using hn0
  have hne2 : (bs.length == 0) = false := by simpa using hn0
  clear hn0
  have hown0 := World.ownsRow_lit (base := w.heap.size) (e := 5) (size := 1) w #[] 0 (Nat.le_refl _) (by unfold maxLen; omega) rfl
  have hnews := (hv.below ((Below.refl _ w).alloc (Nat.le_refl _) (.cells #[] 5))).news.2
  go_enter Try.func5, Try.ntmps5
  go_wp2_with (at_builtin; refine wpList_append_own _ rfl _ _ 22 rfl w.heap.size 5 i0 (.int .u8 0) 1 1 Try.underlying22 hi hz0 hz1 hz2 rfl (by decide) _ _ _ rfl hown0 ad bs.length cap (cellsOf bs) rfl (by rw [cellsOf_len]; simp) hnews (cellsOf_one bs) (by unfold maxLen; omega) (by omega) (by simp) ?_; intro v' w2 hown' hgrow hnil; clear hnil; have hB2 : Below w.heap.size w w2 := ((Below.refl _ w).alloc (Nat.le_refl _) _).grown hgrow (by simp) (fun k e => (hown0.lt k e).1); clear hgrow; simp only [Nat.zero_add, List.nil_append] at hown'; obtain ⟨g, cap2, rfl⟩ := ownsRow_pos hown' h1)
  clear hown0 hnews hk
  go_loopw [2, 9, 10] (fun tu ch iv wr => ∃ (i : Nat) (cs : List (BitVec 8)), i ≤ 32 ∧ iv = .int .i64 i ∧ tu = .int .u32 (U (T >>> i)) ∧ ch = .bool (chg bs.length k i T) ∧ Hid (Diff bs cs k i T) ∧ wr.ownsRow w.heap.size 5 1 (.slice (some ⟨g, 0, none⟩) bs.length cap2) bs.length (cellsOf cs) ∧ Below w.heap.size w wr) (fun _ _ iv _ => 32 - (intOf iv).toNat)
  case atStart => exact ⟨0, bs, by omega, rfl, by simp, rfl, Diff.zero bs k T, hown', hB2⟩
  case round =>
    obtain ⟨i, cs, hi32, rfl, rfl, rfl, HD, hown, hB⟩ := hrel
    have CS := Lib.hid (chg_succ bs.length k i T)
    have e2 := shr_shr1 T i
    have e3 := even32 (T >>> i)
    rw [bit0_shr] at e3
    have x0 := U_nonneg (T >>> i)
    generalize hch : chg bs.length k i T = cb at CS
    by_cases hlt : i < 32
    · have i1 : (i : Int) < 32 := by omega
      cases hT : T.getLsbD i with
      | false =>
        rw [hT] at e3 CS
        have HS := Lib.hid (HD.out.skip (.inl hT))
        clear hT
        go_wp2
        go_roundw
        case rel => exact ⟨i + 1, cs, by omega, by go_num, by rw [half32], by rw [CS.out]; simp, HS.out, hown, hB⟩
        case measure => simp [intOf]; omega
      | true =>
        rw [hT] at e3 CS
        by_cases hp : k + i < 8 * bs.length
        · have HF := Lib.hid (HD.out.flip hT hp)
          have hcl := HD.out.1
          have p1 : (k : Int) + i < 8 * bs.length := by omega
          have em := mod8 k i
          have eq := div8 k i
          have hqn : (k + i) / 8 < bs.length := by omega
          have hmn : (k + i) % 8 < 8 := Nat.mod_lt _ (by decide)
          generalize (k + i) % 8 = m at em hmn HF
          generalize (k + i) / 8 = q at eq hqn HF
          have hc1 : wr.cell? ⟨g, q, none⟩ = some (.int .u8 (U (cs[q]?.getD 0))) := by
            rw [hown.cellAt q (by omega)]
            exact cellsOf_get cs q (by omega)
          have hf1 : wr.frozen? ⟨g, q, none⟩ = false := hown.frozenAt q
          have q1 : (q : Int) < bs.length := by omega
          have m1 : (m : Int) < 8 := by omega
          have HP := Lib.hid hp
          clear hT hp hcl
          go_wp2
          go_loop [11, 12] (fun bv jv => ∃ j : Nat, j ≤ m ∧ jv = .int .i64 j ∧ bv = .int .u8 (U (1#8 <<< j))) (fun _ jv => m - (intOf jv).toNat)
          case atStart => exact ⟨0, Nat.zero_le _, rfl, rfl⟩
          case round =>
            obtain ⟨j, hj, rfl, rfl⟩ := hrel
            have e5 := dbl8 j
            by_cases hjm : j < m
            · go_wp2
              go_round
              case rel => exact ⟨j + 1, by omega, by go_num, rfl⟩
              case measure => simp [intOf]; omega
            · obtain rfl : j = m := by omega
              have e6 := xor_u8 (cs[q]?.getD 0) (1#8 <<< j)
              clear e5
              generalize cs[q]?.getD 0 = xq at hc1 HF e6
              go_wp2
              go_roundw
              case rel =>
                refine ⟨i + 1, cs.set q (xq ^^^ 1#8 <<< j), by omega, by go_num, by rw [half32], by rw [CS.out]; simp [HP.out], HF.out, ?_, hB.setCell (p := ⟨g, q, none⟩) (ownsRow_block hown).1 _⟩
                rw [← cellsOf_set]
                exact (hown.stored q _).1
              case measure => simp [intOf]; omega
        · have p1 : 8 * (bs.length : Int) ≤ (k : Int) + i := by omega
          have HS := Lib.hid (HD.out.skip (.inr (by omega)))
          have HP := Lib.hid hp
          clear hT hp
          go_wp2
          go_roundw
          case rel => exact ⟨i + 1, cs, by omega, by go_num, by rw [half32], by rw [CS.out]; simp [HP.out], HS.out, hown, hB⟩
          case measure => simp [intOf]; omega
    · obtain rfl : i = 32 := by omega
      have hfin := HD.out.told
      rw [hch] at hfin
      have hlen := HD.out.1
      have hall : BytesAt wr.heap.size wr (.slice (some ⟨g, 0, none⟩) bs.length cap2) cs := by
        have := BytesAt.of_owns (w := wr) (base := w.heap.size) (v := .slice (some ⟨g, 0, none⟩) bs.length cap2) (bs := cs) (by rw [hlen]; exact hown)
        exact this
      have hsc := sum_any cs _ (by omega) wr hall
      have hsb : ∀ W : World, Below w.heap.size w W → Calls Try.prog 15 #[.slice (some ad) bs.length cap] W fun e W' => e = .returned (.int .u32 (U (crcAdd 0#32 bs))) ∧ Below W.heap.size W W' :=
        fun W hW => sum_any bs _ (by omega) W ((hv.below hW).mono hW.size)
      clear hown hall HD CS e2 e3 hlen hch
      go_wp2_with (first
        | (go_at_call 15; first | ((with_reducible refine hsc.mono ?_); rintro e w3 ⟨rfl, hb3⟩; have hB3 := hB.trans (hb3.mono hB.size)) | (refine (hsb _ hB3).mono ?_; rintro e w4 ⟨rfl, hb4⟩; have hB4 := hB3.trans (hb4.mono hB3.size)))
        | (go_at_call 18; refine (awake01 _).mono ?_; rintro e w5 ⟨rfl, hb5⟩))
      go_ret
      exact ⟨rfl, hB4.trans (hb5.mono hB4.size)⟩

theorem at_mod (a : Int) (n : Nat) (hn : 1 ≤ n) : ∃ k : Nat, (IntKind.u64.wrap a).tmod (8 * (n : Int)) = (k : Int) ∧ k < 8 * n := by
  have h0 : 0 ≤ IntKind.u64.wrap a := by rw [wrap_u64_mod]; exact U_nonneg _
  generalize IntKind.u64.wrap a = r at h0
  rw [Int.tmod_eq_emod_of_nonneg h0]
  have h1 := Int.emod_nonneg r (b := 8 * (n : Int)) (by omega)
  have h2 := Int.emod_lt_of_pos r (b := 8 * (n : Int)) (by omega)
  generalize r % (8 * (n : Int)) = z at h1 h2
  exact ⟨z.toNat, by omega, by omega⟩

set_option maxHeartbeats 1000000 in
theorem crcBursts_walk (bs : List (BitVec 8)) (v : Value) (at_ : Int) (T : BitVec 32) (w : World) (hv : BytesAt w.heap.size w v bs) (hm : bs.length ≤ maxLen) :
    Calls Try.prog 5 #[v, .int .i64 at_, .int .u32 (U T)] w (Good w) := by
  unfold maxLen at hm
  have hv0 := hv
  obtain ⟨a, cap, rfl, _, hv⟩ := hv
  by_cases hbig : 1000 < bs.length
  · have b1 : (1000 : Int) < bs.length := by omega
    have b2 : (bs.length : Int) ≤ 9223372036854775807 := by omega
    generalize bs.length = n at b1 b2
    have b3 : decide (0 < n) = true := by simp; omega
    clear hv hv0 hm hbig
    go_enter Try.func5, Try.ntmps5
    go_wp2
    go_ret
    exact ⟨rfl, Below.refl _ _⟩
  by_cases h0 : bs = []
  · subst h0
    clear hv hv0
    go_enter Try.func5, Try.ntmps5
    go_wp2_with (go_at_call 18; refine (awake01 _).mono ?_; rintro e w' ⟨rfl, hB⟩)
    go_ret
    exact ⟨rfl, hB⟩
  · rcases hv with h | ⟨g, off, rfl, _⟩
    · exact absurd h h0
    have h1 : 1 ≤ bs.length := by
      rcases Nat.eq_zero_or_pos bs.length with h | h
      · exact absurd (List.length_eq_zero_iff.1 h) h0
      · exact h
    obtain ⟨k, hk, hk2⟩ := at_mod at_ bs.length h1
    exact crcBursts_core bs _ cap at_ T w hv0 h1 (by omega) k hk hk2

set_option maxRecDepth 100000 in
theorem crcBursts_lifted (os : Os) (started : os.Started) (H : Type) (enc : TypeId × Value → H) :
    ReturnsInHanded {} Try.checked os 5 .any (Rows.crcBurstsSpec.pre6 enc Try.prog Try.f5 Rows.crcBurstsRow.domain false) (Rows.crcBurstsSpec.post enc Try.prog Try.f5 false true false false) :=
  law_lifted 5 Try.f5 Rows.crcBurstsSpec Try.func5 (by kernel_rfl) rfl rfl
    (fun ds h => by match ds, h with | [_, _, _], _ => rfl) (by kernel_rfl) os started
    (ChangeSpec.witness6 (enc := enc) (C := Try.checked) false ⟨#[], #[.slice none 0 0, .int .i64 0, .int .u32 0], []⟩ 8 (by kernel_rfl) (by kernel_rfl) (by kernel_rfl) (by kernel_rfl))
    fun W args ds ps hval hA => by
      rw [Try.params5] at hA hval
      obtain ⟨v0, vs0, d0, ds0, p0, q0, hargs, rfl, rfl, h0, r0⟩ := trodAll_cons hA
      obtain ⟨v1, vs1, d1, ds1, p1, q1, rfl, rfl, rfl, h1, r1⟩ := trodAll_cons r0
      obtain ⟨v2, vs2, d2, ds2, p2, q2, rfl, rfl, rfl, h2, r2⟩ := trodAll_cons r1
      obtain ⟨rfl, rfl, rfl⟩ := trodAll_nil r2
      obtain rfl : args = #[v0, v1, v2] := by cases args; simp_all
      obtain ⟨b0, o0⟩ := hval 0 _ v0 rfl rfl
      obtain ⟨b1, o1⟩ := hval 1 _ v1 rfl rfl
      obtain ⟨b2, o2⟩ := hval 2 _ v2 rfl rfl
      obtain ⟨bs0, hb0, hm0⟩ := open_bytes o0 h0
      obtain ⟨a1, rfl, rfl, rfl, w1⟩ := open_int Try.underlying3 o1 h1
      obtain ⟨a2, rfl, rfl, rfl, w2⟩ := open_int Try.underlying23 o2 h2
      obtain ⟨x2, rfl⟩ := wf_u32 w2
      exact crcBursts_walk bs0 v0 a1 x2 W hb0 hm0

/-- The statement. -/
theorem crcBursts_holds : Rows.CrcBurstsSaid :=
  OpenClaim.holds_of_wide 5 Try.f5 rfl rfl rfl rfl rfl rfl rfl ⟨rfl, rfl, rfl, rfl, rfl⟩ rfl rfl rfl rfl rfl (by kernel_rfl) Try.func5 (by kernel_rfl)
    (of_decide_eq_true (by kernel_rfl)) (by unfold Func.isWrapper; first | (rw [if_pos (by decide +kernel)]; kernel_rfl) | (rw [if_neg (by decide +kernel)]; exact ⟨rfl, rfl⟩))
    (fun os started H enc _ => crcBursts_lifted os started H enc)
#print axioms crcBursts_holds
end Go.Proofs.Ytbhmieddjgklpaa

/-
  Proved: the slots of a prefix are those of it with 0, then with 1 behind it. Whatever number, bits and depth come in, the law MixHalves answers true and the arguments read as they did.
  Conditions: none.
-/
import Derived.Test.YtbhmieddjgklpaaLaw
import Derived.Test.YtbhmieddjgklpaaMixAwake
import Derived.Test.YtbhmieddjgklpaaRefSlots
import Derived.Deep.QuietTactic
import Derived.BigQuiet
namespace Go.Proofs.Ytbhmieddjgklpaa
open Go.ChangeShapes Go.WideShapes Go.ChangeAt Go.RowKit

theorem pre_zero (x : BitVec 64) : pre x 0 = 0 := by
  unfold pre U
  have : x >>> (64 - 0) = 0#64 := BitVec.ushiftRight_eq_zero (Nat.le_refl _)
  rw [this]; rfl
theorem pre_any (x : BitVec 64) (b : Nat) (hb : b ≤ 30) (w : World) :
    Calls Try.prog 25 #[.int .u64 (U x), .int .i64 b] w fun e w' => e = .returned (.int .i64 (pre x b)) ∧ w = w' := by
  rcases Nat.eq_zero_or_pos b with rfl | h
  · rw [pre_zero]
    exact prefix_out x 0 (by omega) w
  · have := prefix_in x b (by omega) (by omega) w
    simpa using this

/-- A prefix as a natural number. -/
def preN (x : BitVec 64) (b : Nat) : Nat := (x >>> (64 - b)).toNat
theorem pre_preN (x : BitVec 64) (b : Nat) : pre x b = (preN x b : Int) := rfl
theorem preN_lt (x : BitVec 64) (b : Nat) (hb : b ≤ 30) : preN x b < 2 ^ b := by
  have := (pre_bounds x b hb).2
  rw [pre_preN] at this
  exact_mod_cast this
theorem preN_div (x : BitVec 64) (b f : Nat) (h : b + f ≤ 30) : preN x (b + f) / 2 ^ f = preN x b := by
  unfold preN
  rw [BitVec.toNat_ushiftRight, BitVec.toNat_ushiftRight, Nat.shiftRight_eq_div_pow, Nat.shiftRight_eq_div_pow, Nat.div_div_eq_div_mul, ← Nat.pow_add]
  congr 2
  omega

theorem halves_list (p M : Nat) : upto (slotAt p (M + M)) (M + M) = upto (slotAt (2 * p) M) M ++ upto (slotAt (2 * p + 1) M) M := by
  unfold upto
  rw [List.range_add, List.map_append, List.map_map]
  congr 1
  · apply List.map_congr_left
    intro k _
    unfold slotAt
    have : (p : Int) * ((M + M : Nat) : Int) = ((2 * p : Nat) : Int) * (M : Int) := by
      rw [← Int.natCast_mul, ← Int.natCast_mul]; congr 1; rw [Nat.mul_add]; rw [Nat.mul_assoc, Nat.two_mul]
    rw [this]
  · apply List.map_congr_left
    intro k _
    unfold slotAt
    have : (p : Int) * ((M + M : Nat) : Int) + M = ((2 * p + 1 : Nat) : Int) * (M : Int) := by
      rw [← Int.natCast_mul, ← Int.natCast_mul, ← Int.natCast_add]; congr 1; rw [Nat.add_mul, Nat.one_mul, Nat.mul_add, Nat.mul_assoc, Nat.two_mul]
    simp only [Function.comp]
    rw [← this]; simp; omega

theorem preN_succ (x : BitVec 64) (b : Nat) (h : b + 1 ≤ 30) : preN x (b + 1) / 2 = preN x b := by
  have := preN_div x b 1 (by omega)
  simpa using this

theorem half_le {N M : Nat} (h : N = M + M) (h2 : N ≤ 1024) : M ≤ 512 := by omega
theorem half_back {p q : Nat} (h : q / 2 = p) (hp : p < 1024) : wrap64 ((q : Int) / 2) = (p : Int) := by
  have e : (q : Int) / 2 = p := by omega
  rw [e]
  exact IntWalk.wrap64_in _ ⟨by omega, by omega⟩
theorem halves_row {w0 w1 w2 w3 : World} {base g1 M N p : Nat} {v' : Value} (hM : N = M + M) (hb1 : Below w0.heap.size w0 w1) (hb2 : Below w1.heap.size w1 w2) (hg1 : w0.heap.size ≤ g1) (hg : w2.grownBy w3 (some g1))
    (h : w3.ownsRow base 3 1 v' (M + M) ((upto (slotAt (2 * p) M) M).map (Value.int .i64) ++ (upto (slotAt (2 * p + 1) M) M).map (Value.int .i64))) :
    (∃ a cap, v' = .slice a N cap ∧ Ints w3 (.slice a N cap) (upto (slotAt p N) N)) ∧ Below w0.heap.size w0 w3 := by
  subst hM
  refine ⟨?_, (hb1.trans (hb2.mono hb1.size)).grown hg (Nat.le_trans hb1.size hb2.size) (fun k e => by cases e; exact hg1)⟩
  rw [← List.map_append, ← halves_list] at h
  have hi : Ints w3 v' (upto (slotAt p (M + M)) (M + M)) := Ints.of_owns (base := base) (by rw [upto_length]; exact h)
  obtain ⟨a, cap, rfl, hc⟩ := hi
  exact ⟨a, cap, by rw [upto_length], a, cap, by rw [upto_length], hc⟩

/-- The contract of slots as the law's walk takes it. -/
theorem halfSlots (p b d f : Nat) (hbd : b + f = d) (hd : d ≤ 20) (hp : p < 2 ^ b) (N : Nat) (hN : N = 2 ^ f) (w : World) :
    Calls Try.prog 28 #[.int .i64 p, .int .i64 b, .int .i64 d] w fun e W' => ∃ g, e = .returned (.slice (some ⟨g, 0, none⟩) N N) ∧ W'.ownsRow w.heap.size 3 1 (.slice (some ⟨g, 0, none⟩) N N) N ((upto (slotAt p N) N).map (Value.int .i64)) ∧ Below w.heap.size w W' := by
  subst hN
  exact lslots_any p b d f hbd hd hp w

set_option maxRecDepth 100000 in
set_option maxHeartbeats 2000000 in
theorem mixHalves_core (x : BitVec 64) (y z : BitVec 8) (b d p q N M : Nat) (t : Nat) (hd : U z % 10 + 1 = (d : Int)) (hb : U y % (d : Int) = (b : Int)) (_hd1 : 1 ≤ d) (_hd2 : d ≤ 10) (hbd : b < d)
    (hp : pre x b = (p : Int)) (hp1 : p < 1024) (hq : pre x (b + 1) = (q : Int)) (hq1 : q / 2 = p) (ht : pre x d = slotAt p N t) (htN : t < N) (hN : wrap64 ((2 : Int) ^ (d - b)) = (N : Int)) (hM : Hid (N = M + M)) (hN2 : N ≤ 1024)
    (hs0 : ∀ w, Calls Try.prog 28 #[.int .i64 p, .int .i64 b, .int .i64 d] w fun e W' => ∃ g, e = .returned (.slice (some ⟨g, 0, none⟩) N N) ∧ W'.ownsRow w.heap.size 3 1 (.slice (some ⟨g, 0, none⟩) N N) N ((upto (slotAt p N) N).map (Value.int .i64)) ∧ Below w.heap.size w W')
    (hs1 : ∀ w, Calls Try.prog 28 #[.int .i64 (2 * (p : Int)), .int .i64 ((b : Int) + 1), .int .i64 d] w fun e W' => ∃ g, e = .returned (.slice (some ⟨g, 0, none⟩) M M) ∧ W'.ownsRow w.heap.size 3 1 (.slice (some ⟨g, 0, none⟩) M M) M ((upto (slotAt (2 * p) M) M).map (Value.int .i64)) ∧ Below w.heap.size w W')
    (hs2 : ∀ w, Calls Try.prog 28 #[.int .i64 (2 * (p : Int) + 1), .int .i64 ((b : Int) + 1), .int .i64 d] w fun e W' => ∃ g, e = .returned (.slice (some ⟨g, 0, none⟩) M M) ∧ W'.ownsRow w.heap.size 3 1 (.slice (some ⟨g, 0, none⟩) M M) M ((upto (slotAt (2 * p + 1) M) M).map (Value.int .i64)) ∧ Below w.heap.size w W')
    (w : World) :
    Calls Try.prog 12 #[.int .u64 (U x), .int .u8 (U y), .int .u8 (U z)] w (Good w) := by
  have hy := U_nonneg y
  have hz := U_nonneg z
  have hz2 := U_lt z
  have hy2 := U_lt y
  have hz3 : U z < 256 := by simpa using hz2
  have hy3 : U y < 256 := by simpa using hy2
  clear hz2 hy2
  have cd1 : (1 : Int) ≤ d := by omega
  have cd2 : (d : Int) ≤ 10 := by omega
  have cb1 : (b : Int) < d := by omega
  have cp1 : (p : Int) < 1024 := by omega
  have hpx := fun w => pre_any x b (by omega) w
  rw [hp] at hpx
  go_enter Try.func12, Try.ntmps12
  obtain ⟨i0, hi, hz0, hz1, hz2⟩ := info_parts Try.infoInt
  have hone : ∀ u ∈ (upto (slotAt (2 * p + 1) M) M).map (Value.int .i64), u.oneCell' = true := by
    intro u hu
    obtain ⟨i, _, rfl⟩ := List.mem_map.1 hu
    rfl
  have hlen : ((upto (slotAt (2 * p + 1) M) M).map (Value.int .i64)).length = M * 1 := by simp [upto_length]
  have bM : M ≤ 512 := half_le hM.out hN2
  have HP := Lib.hid hp
  have HQ := Lib.hid hq
  have HQ1 := Lib.hid hq1
  have HT := Lib.hid ht
  have HX : Hid (upto (slotAt p N) N = upto (slotAt (2 * p) M) M ++ upto (slotAt (2 * p + 1) M) M) := by
    have h := hM.out
    show _ = _
    rw [h]; exact halves_list p M
  have HL := Lib.hid hlen
  clear hp hq hq1 ht hlen
  go_wp2_with (first
    | (go_at_call 25; refine (hpx _).mono ?_; rintro e w' ⟨rfl, rfl⟩)
    | (go_at_call 28; first | ((with_reducible refine (hs0 _).mono ?_); rintro e w0 ⟨g0, rfl, ho0, hb0⟩) | ((with_reducible refine (hs1 _).mono ?_); rintro e w1 ⟨g1, rfl, ho1, hb1⟩) | ((with_reducible refine (hs2 _).mono ?_); rintro e w2 ⟨g2, rfl, ho2, hb2⟩; have hz12 := hb1.size; have hz22 := hb2.size))
    | (at_builtin; refine wpList_append_own _ rfl _ _ 45 rfl w0.heap.size 3 i0 (.int .i64 0) 1 8 Try.underlying45 hi hz0 hz1 hz2 rfl (by decide) (.slice (some ⟨g1, 0, none⟩) M M) _ _ rfl (ownsRow_below ho1 hb2) ⟨g2, 0, none⟩ M M _ rfl HL.out (ho2.cells rfl) hone (by unfold maxLen; omega) (by omega) (by omega) ?_; intro v' w3 hown' hgrow hnil; clear hnil; obtain ⟨⟨a3, cap3, rfl, hi3⟩, hb3⟩ := halves_row hM.out hb1 hb2 (ownsRow_block ho1).1 hgrow hown'; clear hown' hgrow))
  have hi0 : Ints w0 (.slice (some ⟨g0, 0, none⟩) N N) (upto (slotAt p N) N) := Ints.of_owns (base := w.heap.size) (by rw [upto_length]; exact ho0)
  have hi1 := hi0.below hb3 (Nat.le_refl _)
  have hW := hb0.trans (hb3.mono hb0.size)
  have hz : w.heap.size ≤ w3.heap.size := hW.size
  have hpd : ∀ W : World, Calls Try.prog 25 #[.int .u64 (U x), .int .i64 d] W fun e w' => e = .returned (.int .i64 (slotAt p N t)) ∧ W = w' := by
    intro W
    have := pre_any x d (by omega) W
    rw [HT.out] at this
    exact this
  have hpq : ∀ W : World, Calls Try.prog 25 #[.int .u64 (U x), .int .i64 ((b : Int) + 1)] W fun e w' => e = .returned (.int .i64 (q : Int)) ∧ W = w' := by
    intro W
    have := pre_any x (b + 1) (by omega) W
    rw [HQ.out] at this
    exact this
  have hcell : ∀ {W : World} {a : Option Addr} {cap : Nat}, Ints W (.slice a N cap) (upto (slotAt p N) N) → ∀ k, k < N → ∃ g off, a = some ⟨g, off, none⟩ ∧ W.cell? ⟨g, off + k, none⟩ = some (.int .i64 (slotAt p N k)) := by
    rintro W a cap ⟨a', cap', he, hc⟩ k hk
    simp only [Value.slice.injEq] at he
    obtain ⟨rfl, _, _⟩ := he
    rcases hc with h | ⟨g, off, rfl, hc⟩
    · have := congrArg List.length h; rw [upto_length] at this; simp at this; omega
    · refine ⟨g, off, rfl, ?_⟩
      have := hc k (by rw [upto_length]; exact hk)
      rw [upto_get hk] at this
      exact this
  clear ho0 ho1 ho2 hb0 hb1 hb2 hb3 hi0 hone hN hpx hs0 hs1 hs2 hz12 hz22
  go_loopw [12, 13] (fun u i wr => ∃ k : Nat, k ≤ N ∧ i = .int .i64 k ∧ ((t < k ∧ u = .bool true) ∨ (k ≤ t ∧ u = .bool false)) ∧ Below w3.heap.size w3 wr) (fun _ i _ => N - (intOf i).toNat)
  case atStart => exact ⟨0, Nat.zero_le _, rfl, .inr ⟨Nat.zero_le _, rfl⟩, Below.refl _ _⟩
  case round =>
    obtain ⟨k, hk, rfl, hu, hB⟩ := hrel
    by_cases hlt : k < N
    · obtain ⟨g1, off1, ha1, c1⟩ := hcell hi1 k hlt
      obtain ⟨g2, off2, rfl, c2⟩ := hcell hi3 k hlt
      simp only [Option.some.injEq, Addr.mk.injEq] at ha1
      obtain ⟨rfl, rfl, _⟩ := ha1
      have c1 := (hB.cell (World.block_lt_of_cell? _ _ c1)).trans c1
      have c2 := (hB.cell (World.block_lt_of_cell? _ _ c2)).trans c2
      rw [Nat.zero_add] at c1
      have p0 : 0 ≤ (k : Int) := by omega
      have p1 : (k : Int) < N := by omega
      clear hcell hi1 hi3
      rcases hu with ⟨htk, rfl⟩ | ⟨htk, rfl⟩
      · go_wp2_with fail
        go_quiet (fail)
        go_wp2
        go_quiet (fail)
        go_wp2
        go_roundw
        case rel => exact ⟨k + 1, by omega, by go_num, .inl ⟨by omega, rfl⟩, below_drewN hB _⟩
        case measure => simp [intOf]; omega
      · by_cases hkt : k = t
        · subst hkt
          go_wp2_with fail
          go_quiet (fail)
          go_wp2
          go_quiet ((go_at_call 25; first | exact quiet_there (hpd _) | exact quiet_here (hpd _)))
          go_wp2
          go_roundw
          case rel => exact ⟨k + 1, by omega, by go_num, .inl ⟨by omega, rfl⟩, below_drewN hB _⟩
          case measure => simp [intOf]; omega
        · have hq : (slotAt p N k == slotAt p N t) = false := by
            have : slotAt p N k ≠ slotAt p N t := by unfold slotAt; omega
            simpa using this
          go_wp2_with fail
          go_quiet (fail)
          go_wp2
          go_quiet ((go_at_call 25; first | exact quiet_there (hpd _) | exact quiet_here (hpd _)))
          go_wp2
          go_roundw
          case rel => exact ⟨k + 1, by omega, by go_num, .inr ⟨by omega, rfl⟩, below_drewN hB _⟩
          case measure => simp [intOf]; omega
    · obtain rfl : k = N := by omega
      have hu' : t < k := htN
      obtain rfl : u12 = .bool true := by
        rcases hu with ⟨_, h⟩ | ⟨h, _⟩
        · exact h
        · omega
      have e10 := half_back HQ1.out hp1
      clear hu
      go_wp2_with (first
        | (go_at_call 25; refine (hpq _).mono ?_; rintro e w' ⟨rfl, rfl⟩)
        | (go_at_call 27; refine (awake02 _).mono ?_; rintro e w' ⟨rfl, hB3⟩))
      go_ret
      exact ⟨rfl, (hW.trans (hB.mono hz)).trans (hB3.mono (Nat.le_trans hz hB.size))⟩

theorem mixHalves_walk (x : BitVec 64) (y z : BitVec 8) (w : World) :
    Calls Try.prog 12 #[.int .u64 (U x), .int .u8 (U y), .int .u8 (U z)] w (Good w) := by
  obtain ⟨d, hd, hd1, hd2⟩ : ∃ d : Nat, U z % 10 + 1 = (d : Int) ∧ 1 ≤ d ∧ d ≤ 10 := by
    have := U_nonneg z
    exact ⟨(U z % 10 + 1).toNat, by omega, by omega, by omega⟩
  obtain ⟨b, hb, hbd⟩ : ∃ b : Nat, U y % (d : Int) = (b : Int) ∧ b < d := by
    have h0 := Int.emod_nonneg (U y) (b := (d : Int)) (by omega)
    have h1 := Int.emod_lt_of_pos (U y) (b := (d : Int)) (by omega)
    generalize U y % (d : Int) = r at h0 h1
    exact ⟨r.toNat, by omega, by omega⟩
  obtain ⟨f, hf⟩ : ∃ f, d = b + 1 + f := ⟨d - b - 1, by omega⟩
  have hdb : d - b = f + 1 := by omega
  have hN : 2 ^ (d - b) = 2 ^ f + 2 ^ f := by rw [hdb, Nat.pow_succ, Nat.mul_two]
  have hle : 2 ^ (d - b) ≤ 1024 := by
    have : 2 ^ (d - b) ≤ 2 ^ 10 := Nat.pow_le_pow_right (by omega) (by omega)
    simpa using this
  have hp1 : preN x b < 2 ^ b := preN_lt x b (by omega)
  have hp2 : preN x b < 1024 := by
    have : 2 ^ b ≤ 2 ^ 10 := Nat.pow_le_pow_right (by omega) (by omega)
    have : (2 : Nat) ^ 10 = 1024 := by decide
    omega
  have hdiv : preN x d / 2 ^ (d - b) = preN x b := by
    have := preN_div x b (d - b) (by omega)
    rw [show b + (d - b) = d by omega] at this
    exact this
  have hpos : 0 < 2 ^ (d - b) := Nat.two_pow_pos _
  refine mixHalves_core x y z b d (preN x b) (preN x (b + 1)) (2 ^ (d - b)) (2 ^ f) (preN x d % 2 ^ (d - b)) hd hb hd1 hd2 hbd (pre_preN x b) hp2 (pre_preN x (b + 1)) (preN_succ x b (by omega)) ?_ (Nat.mod_lt _ hpos) ((wrap_pow (d - b) (by omega)).1) hN hle
    (fun w => halfSlots (preN x b) b d (d - b) (by omega) (by omega) hp1 _ rfl w) (fun w => ?_) (fun w => ?_) w
  · rw [pre_preN]
    unfold slotAt
    have h := Nat.div_add_mod (preN x d) (2 ^ (d - b))
    rw [hdiv, Nat.mul_comm] at h
    rw [← Int.natCast_mul, ← Int.natCast_add, h]
  · have := halfSlots (2 * preN x b) (b + 1) d f (by omega) (by omega) (by rw [Nat.pow_succ]; omega) _ rfl w
    simpa using this
  · have := halfSlots (2 * preN x b + 1) (b + 1) d f (by omega) (by omega) (by rw [Nat.pow_succ]; omega) _ rfl w
    simpa using this

set_option maxRecDepth 100000 in
theorem mixHalves_lifted (os : Os) (started : os.Started) (H : Type) (enc : TypeId × Value → H) :
    ReturnsInHanded {} Try.checked os 12 .any (Rows.mixHalvesSpec.pre6 enc Try.prog Try.f12 Rows.mixHalvesRow.domain false) (Rows.mixHalvesSpec.post enc Try.prog Try.f12 false true false false) :=
  law_lifted 12 Try.f12 Rows.mixHalvesSpec Try.func12 (by kernel_rfl) rfl rfl
    (fun ds h => by match ds, h with | [_, _, _], _ => rfl) (by kernel_rfl) os started
    (ChangeSpec.witness6 (enc := enc) (C := Try.checked) false ⟨#[], #[.int .u64 0, .int .u8 0, .int .u8 0], []⟩ 8 (by kernel_rfl) (by kernel_rfl) (by kernel_rfl) (by kernel_rfl))
    fun W args ds ps hval hA => by
      rw [Try.params12] at hA hval
      obtain ⟨v0, vs0, d0, ds0, p0, q0, hargs, rfl, rfl, h0, r0⟩ := trodAll_cons hA
      obtain ⟨v1, vs1, d1, ds1, p1, q1, rfl, rfl, rfl, h1, r1⟩ := trodAll_cons r0
      obtain ⟨v2, vs2, d2, ds2, p2, q2, rfl, rfl, rfl, h2, r2⟩ := trodAll_cons r1
      obtain ⟨rfl, rfl, rfl⟩ := trodAll_nil r2
      obtain rfl : args = #[v0, v1, v2] := by cases args; simp_all
      obtain ⟨b0, o0⟩ := hval 0 _ v0 rfl rfl
      obtain ⟨b1, o1⟩ := hval 1 _ v1 rfl rfl
      obtain ⟨b2, o2⟩ := hval 2 _ v2 rfl rfl
      obtain ⟨a0, rfl, rfl, rfl, w0⟩ := open_int Try.underlying35 o0 h0
      obtain ⟨x0, rfl⟩ := wf_u64 w0
      obtain ⟨a1, rfl, rfl, rfl, w1⟩ := open_int Try.underlying5 o1 h1
      obtain ⟨x1, rfl⟩ := wf_u8 w1
      obtain ⟨a2, rfl, rfl, rfl, w2⟩ := open_int Try.underlying5 o2 h2
      obtain ⟨x2, rfl⟩ := wf_u8 w2
      exact mixHalves_walk x0 x1 x2 W

/-- The statement. -/
theorem mixHalves_holds : Rows.MixHalvesSaid :=
  OpenClaim.holds_of_wide 12 Try.f12 rfl rfl rfl rfl rfl rfl rfl ⟨rfl, rfl, rfl, rfl, rfl⟩ rfl rfl rfl rfl rfl (by kernel_rfl) Try.func12 (by kernel_rfl)
    (of_decide_eq_true (by kernel_rfl)) (by unfold Func.isWrapper; first | (rw [if_pos (by decide +kernel)]; kernel_rfl) | (rw [if_neg (by decide +kernel)]; exact ⟨rfl, rfl⟩))
    (fun os started H enc _ => mixHalves_lifted os started H enc)
#print axioms mixHalves_holds
end Go.Proofs.Ytbhmieddjgklpaa

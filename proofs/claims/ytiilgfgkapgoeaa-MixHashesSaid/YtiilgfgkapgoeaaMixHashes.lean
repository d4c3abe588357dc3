/-
  MixHashes: any number scrambled, any key's number, the highest bits of any number.
  Conditions: none.
-/
import Derived.Test.YtiilgfgkapgoeaaRefHash
import Derived.Test.YtiilgfgkapgoeaaOpenBn
import Derived.Test.YtiilgfgkapgoeaaMixAwake
namespace Go.Proofs.Ytiilgfgkapgoeaa
open Go.ChangeShapes Go.WideShapes Go.ChangeAt Go.RowKit

/-- The append of bytes where it stands behind a guard that is met. -/
theorem wpList_append_bytes_g {w : World} {ops : Array Oper} {rest : List Oper} {o : Oper} {a : Act} {Q : Exit → Act → World → Prop} (hgd : Region.wanted o (yielded ops a.tmps) = true) (s x : Operand) (hty : o.type = 23)
    (ho : o.op = .call { callee := .builtin .append, args := #[s, x], argTypes := #[23, 23] })
    (base : Nat) (i0 : TypeInfo) (hi : Try.prog.info? 5 = some i0) (hz0 : i0.zero = some (.int .u8 0)) (hz1 : i0.size = 1) (hz2 : i0.bytes = 1)
    (v : Value) (hs : a.eval s = v) (xs : List (BitVec 8)) (hown : w.ownsRow base 5 1 v xs.length (cellsOf xs)) (u : Value) (hx : a.eval x = u) (n₀ : Nat) (bs : List (BitVec 8)) (hu : BytesAt n₀ w u bs) (hlen : xs.length + bs.length ≤ 70368744177664) (hb : base ≤ w.heap.size)
    (h : ∀ v' w' n, Hid (n = (xs ++ bs).length) → w'.ownsRow base 5 1 v' n (cellsOf (xs ++ bs)) → w.grownBy w' v.ownBlock → (v'.ownBlock = v.ownBlock ∨ v'.ownBlock = some w.heap.size) → wpList Try.prog ops Q rest (a.put o.dst v') w') : wpList Try.prog ops Q (o :: rest) a w := by
  refine wpList_step fun K hK => ?_
  rw [if_pos hgd]
  obtain ⟨v', w', hr, h2, h3, h4⟩ := run_append_bytes (w := w) base i0 hi hz0 hz1 hz2 v xs hown u n₀ bs hu hlen hb
  unfold Oper.wp
  simp [execOp, ho, resolve, invoke, builtin, hs, hx, hty, hr, Result.andThen]
  exact hK _ _ (h v' w' _ rfl h2 h3 h4)

/-- A number's highest bits, if there may be so many. -/
def topI (x : BitVec 64) (b : Int) : Int := if b < 1 ∨ 30 < b then 0 else (topN x b.toNat : Int)
theorem mixPre_any (x : BitVec 64) (b : Int) (w : World) : Calls Try.prog 9 #[.int .u64 (U x), .int .i64 b] w fun e w' => e = .returned (.int .i64 (topI x b)) ∧ w = w' := by
  unfold topI
  by_cases h : b < 1 ∨ 30 < b
  · rw [if_pos h]
    exact prefix_out x b h w
  · rw [if_neg h]
    exact prefix_in x b (by omega) (by omega) w
theorem refPre_any (x : BitVec 64) (b : Int) (w : World) : Calls Try.prog 10 #[.int .u64 (U x), .int .i64 b] w fun e w' => e = .returned (.int .i64 (topI x b)) ∧ Below w.heap.size w w' := by
  unfold topI
  by_cases h : b < 1 ∨ 30 < b
  · rw [if_pos h]
    exact (refPrefix_out x b h w).mono fun _ _ ⟨he, hw⟩ => ⟨he, hw ▸ Below.refl _ _⟩
  · rw [if_neg h]
    obtain ⟨c, rfl⟩ := Int.eq_ofNat_of_zero_le (a := b) (by omega)
    exact refPrefix_in x c (by omega) (by omega) w

set_option maxRecDepth 100000 in
set_option maxHeartbeats 4000000 in
theorem mixHashes_walk (x : BitVec 64) (v : Value) (bs : List (BitVec 8)) (b : Int) (w : World) (hv : BytesAt w.heap.size w v bs) : Calls Try.prog 3 #[.int .u64 (U x), v, .int .i64 b] w (Good w) := by
  have HV := Lib.hid hv
  have HAW := Lib.hid (fun W => awake02 W)
  obtain ⟨i0, hi, hz0, hz1, hz2⟩ := info_parts Try.infoU8
  obtain ⟨a, cap, rfl, hcap, _⟩ := id hv
  clear hv
  by_cases hl : bs.length ≤ 300
  · have hl1 : (bs.length : Int) ≤ 300 := by omega
    have HLEN := Lib.hid hl
    have HS := Lib.hid (fun W => scramble_any x W)
    have HRS := Lib.hid (fun W => refScramble_any x W)
    have HP := Lib.hid (fun W => mixPre_any x b W)
    have HRP := Lib.hid (fun W => refPre_any x b W)
    have HH := Lib.hid (fun u W (h : BytesAt W.heap.size W u bs) => hash_any x bs u W h (by omega))
    have HRH := Lib.hid (fun W (hW : Below w.heap.size w W) => refHash_any x bs _ W ((HV.out.below hW).mono hW.size) (by omega))
    generalize scr x = sx at HS HRS
    generalize topI x b = tx at HP HRP
    generalize hash x bs = hx at HH HRH
    clear hl
    go_enter Try.func3, Try.ntmps3
    go_wp2_with (first
      | (go_at_call 5; (with_reducible refine (HS.out _).mono ?_); rintro e w0 ⟨rfl, rfl⟩)
      | (go_at_call 6; (with_reducible refine (HRS.out _).mono ?_); rintro e w1 ⟨rfl, hb1⟩; have HB1 := Lib.hid hb1; have he0 := own_empty w1 w1.heap.size (Nat.le_refl _); have hb0 : Below w1.heap.size w1 (w1.alloc (.cells #[] 5)) := (Below.refl _ _).alloc (Nat.le_refl _) _; have HE0 := Lib.hid he0; have HB0 := Lib.hid hb0; clear he0 hb0 hb1)
      | (at_builtin; (refine wpList_append_bytes_g rfl (.tmp 17) (.tmp 18) rfl rfl w1.heap.size i0 hi hz0 hz1 hz2 _ rfl [] HE0.out _ rfl _ _ ((HV.out.below HB1.out).below (HB0.out.mono HB1.out.size)) (by have := HLEN.out; simp; omega) HB0.out.size ?_); intro v1 w2 n1 hn hown hg _; have HB2 := Lib.hid (HB0.out.grown hg HB0.out.size (fun k e => (HE0.out.lt k e).1)); have HH1 := Lib.hid (HH.out _ _ (BytesAt.of_owns (by rw [hn.out] at hown; simpa using hown))); clear hn hown hg)
      | (go_at_call 7; (with_reducible refine HH1.out.mono ?_); rintro e w3 ⟨rfl, hb3⟩; have HB3 := Lib.hid ((HB1.out.trans (HB2.out.mono HB1.out.size)).trans (hb3.mono (HB1.out.trans (HB2.out.mono HB1.out.size)).size)); have HRH3 := Lib.hid (HRH.out _ HB3.out); clear hb3)
      | (go_at_call 8; (with_reducible refine HRH3.out.mono ?_); rintro e w4 ⟨rfl, hb4⟩; have HB4 := Lib.hid (HB3.out.trans (hb4.mono HB3.out.size)); clear hb4)
      | (go_at_call 9; (with_reducible refine (HP.out _).mono ?_); rintro e w0 ⟨rfl, rfl⟩)
      | (go_at_call 10; (with_reducible refine (HRP.out _).mono ?_); rintro e w5 ⟨rfl, hb5⟩; have HB5 := Lib.hid (HB4.out.trans (hb5.mono HB4.out.size)); clear hb5)
      | (go_at_call 11; (with_reducible refine (HAW.out _).mono ?_); rintro e w6 ⟨rfl, hb6⟩; have HB6 := Lib.hid (HB5.out.trans (hb6.mono HB5.out.size)); clear hb6))
    go_ret
    exact ⟨rfl, HB6.out⟩
  · have hl1 : 300 < (bs.length : Int) := by omega
    go_enter Try.func3, Try.ntmps3
    go_wp2
    go_ret
    exact ⟨rfl, Below.refl _ _⟩

set_option maxRecDepth 100000 in
theorem mixHashes_lifted (os : Os) (started : os.Started) (H : Type) (enc : TypeId × Value → H) :
    ReturnsInHanded {} Try.checked os 3 .any (Rows.mixHashesSpec.pre6 enc Try.prog Try.f3 Rows.mixHashesRow.domain false) (Rows.mixHashesSpec.post enc Try.prog Try.f3 false true false false) :=
  law_lifted 3 Try.f3 Rows.mixHashesSpec Try.func3 (by kernel_rfl) rfl rfl
    (fun ds h => by match ds, h with | [_, _, _], _ => rfl) (by kernel_rfl) os started
    (ChangeSpec.witness6 (enc := enc) (C := Try.checked) false ⟨#[], #[.int .u64 0, .slice none 0 0, .int .i64 0], []⟩ 8 (by kernel_rfl) (by kernel_rfl) (by kernel_rfl) (by kernel_rfl))
    fun W args ds ps hval hA => by
      rw [Try.params3] at hA hval
      obtain ⟨v0, vs0, d0, ds0, p0, q0, hargs, rfl, rfl, h0, r0⟩ := trodAll_cons hA
      obtain ⟨v1, vs1, d1, ds1, p1, q1, rfl, rfl, rfl, h1, r1⟩ := trodAll_cons r0
      obtain ⟨v2, vs2, d2, ds2, p2, q2, rfl, rfl, rfl, h2, r2⟩ := trodAll_cons r1
      obtain ⟨rfl, rfl, rfl⟩ := trodAll_nil r2
      obtain rfl : args = #[v0, v1, v2] := by cases args; simp_all
      obtain ⟨b0, o0⟩ := hval 0 _ v0 rfl rfl
      obtain ⟨b1, o1⟩ := hval 1 _ v1 rfl rfl
      obtain ⟨b2, o2⟩ := hval 2 _ v2 rfl rfl
      obtain ⟨a0, rfl, rfl, rfl, w0⟩ := open_int Try.underlying22 o0 h0
      obtain ⟨x0, rfl⟩ := wf_u64 w0
      obtain ⟨bs1, hb1, hm1⟩ := open_bytes o1 h1
      obtain ⟨a2, rfl, rfl, rfl, w2⟩ := open_int Try.underlying3 o2 h2
      exact mixHashes_walk x0 v1 bs1 a2 W hb1

/-- The statement. -/
theorem mixHashes_holds : Rows.MixHashesSaid :=
  OpenClaim.holds_of_wide 3 Try.f3 rfl rfl rfl rfl rfl rfl rfl ⟨rfl, rfl, rfl, rfl, rfl⟩ rfl rfl rfl rfl rfl (by kernel_rfl) Try.func3 (by kernel_rfl)
    (of_decide_eq_true (by kernel_rfl)) (by unfold Func.isWrapper; first | (rw [if_pos (by decide +kernel)]; kernel_rfl) | (rw [if_neg (by decide +kernel)]; exact ⟨rfl, rfl⟩))
    (fun os started H enc _ => mixHashes_lifted os started H enc)
#print axioms mixHashes_holds
end Go.Proofs.Ytiilgfgkapgoeaa

/-
  sketch: Mark, Admit, New.
  Conditions: none.
-/
import Derived.Test.YtalgkiagdjckiaaSk5
namespace Go.Proofs.Ytalgkiagdjckiaa
open Go.RowKit

theorem grow1_le {C : Nat → Nat → Nat} (h : ∀ r j, C r j ≤ 15) (N : Nat) (k : BitVec 64) (l r s i : Nat) : grow1 C N k l r s i ≤ 15 := by
  unfold grow1
  by_cases h1 : C r (plc N k r) = l ∧ C r (plc N k r) < 15
  · rw [if_pos h1]
    show (if _ then _ else _) ≤ 15
    split
    · exact h1.2
    · exact h s i
  · rw [if_neg h1]; exact h s i
/-- The counts behind a mark. -/
def mrkC (C : Nat → Nat → Nat) (N : Nat) (k : BitVec 64) (age : Nat) : Nat → Nat → Nat := if age + 1 = 10 * N then hlv (growL N k (gss C N k) rows4 C) else growL N k (gss C N k) rows4 C
/-- The age behind a mark. -/
def mrkA (N age : Nat) : Nat := if age + 1 = 10 * N then 0 else age + 1
theorem mrkA_lt {N age : Nat} (hN : 0 < N) (h : age < 10 * N) : mrkA N age < 10 * N := by unfold mrkA; split <;> omega
theorem oldest_drew {w : World} {G : Nat} {b : Nat → Nat} {N age : Nat} {C : Nat → Nat → Nat} (h : SkAt w G b N age C) (m : Nat) :
    Calls Try.prog 27 #[.pointer (some ⟨G, 0, none⟩)] (w.drewN m) fun e w' => e = .returned (.int .i64 ((10 * N : Nat) : Int)) ∧ w.drewN m = w' := oldest_any (w := w.drewN m) ⟨h.wide, h.age_le, h.small, h.inj, h.blk, h.row⟩
theorem grow_any {w : World} {G : Nat} {b : Nat → Nat} {N age : Nat} {C : Nat → Nat → Nat} (hS : SkAt w G b N age C) (hk : BitVec 64) (least : Nat) (hl : least ≤ 15) :
    Calls Try.prog 31 #[.pointer (some ⟨G, 0, none⟩), .int .u64 (U hk), .int .u8 (least : Int)] w fun e w' => e = .returned (.tuple #[]) ∧ SkAt w' G b N age (growL N hk least rows4 C) ∧ Moves (SkS G b) w w' := callsIn_wide.1 (grow_in hS hk least hl)
theorem SkAt.drewN {w : World} {G : Nat} {b : Nat → Nat} {N age : Nat} {C : Nat → Nat → Nat} (h : SkAt w G b N age C) (m : Nat) : SkAt (w.drewN m) G b N age C := ⟨h.wide, h.age_le, h.small, h.inj, h.blk, h.row⟩
theorem moves_t {S : Nat → Prop} {a b c : World} (h : Moves S a b) (k : Moves S b c) : Moves S a c := h.trans k (fun _ _ h => h)
set_option maxRecDepth 100000 in
set_option maxHeartbeats 2000000 in
theorem mark_any {w : World} {G : Nat} {b : Nat → Nat} {N age : Nat} {C : Nat → Nat → Nat} (hS : SkAt w G b N age C) (ha : age < 10 * N) (hk : BitVec 64) :
    Calls Try.prog 19 #[.pointer (some ⟨G, 0, none⟩), .int .u64 (U hk)] w fun e w' => e = .returned (.int .i64 ((gss (mrkC C N hk age) N hk : Nat) : Int)) ∧ SkAt w' G b N (mrkA N age) (mrkC C N hk age) ∧ Moves (SkS G b) w w' := by
  have hN := hS.wide.le
  have n1 : ((N : Int) == 0) = false := beq_eq_false_iff_ne.2 (by omega)
  have HW := Lib.hid (width_any hS)
  have HG1 := Lib.hid (guess_any hS hk)
  have HSA := Lib.hid (fun (V : World) (h : Below w.heap.size w V) => hS.same h)
  have hg := gss_le C N hk
  have HGR := Lib.hid (fun (V : World) (h : Below w.heap.size w V) => grow_any (hS.same h) hk (gss C N hk) hg)
  unfold mrkC mrkA
  obtain ⟨D, hD⟩ : ∃ D, growL N hk (gss C N hk) rows4 C = D := ⟨_, rfl⟩
  rw [hD] at HGR ⊢
  clear hD
  obtain ⟨g, hgg⟩ : ∃ g, gss C N hk = g := ⟨_, rfl⟩
  rw [hgg] at HGR HG1 hg
  clear hgg
  have e0 : (g : Int) % 256 = (g : Int) := by omega
  have e1 : wrap64 ((age : Int) + 1) = ((age + 1 : Nat) : Int) := by rw [IntWalk.wrap64_in _ ⟨by omega, by omega⟩]; omega
  have HA := Lib.hid ha
  have HN := Lib.hid hN
  clear hS hN ha hg
  go_enter Try.func19, Try.ntmps19
  go_wp2_with (first
    | (go_at_call 10; (with_reducible refine HW.out.mono ?_); rintro e w' ⟨rfl, rfl⟩)
    | (go_at_call 22; (with_reducible refine HG1.out.mono ?_); rintro e w1 ⟨rfl, hb1⟩; have HGR1 := Lib.hid (HGR.out _ hb1); have HB1 := Lib.hid hb1; clear hb1 HGR)
    | (go_at_call 31; (with_reducible refine HGR1.out.mono ?_); rintro e w2 ⟨rfl, hs2, hm2⟩; have q4 := hs2.old; have q5 := blk_frozen hs2.blk 4; have HS2 := Lib.hid hs2; have HM2 := Lib.hid hm2; clear hs2 hm2 HGR1 HW HG1))
  change Code.wp _ _ _ _ (w2.setCell ⟨G, 4, none⟩ (.int .i64 ((age + 1 : Nat) : Int)))
  have hs3 := HS2.out.setAge (a := age + 1) (by have := HA.out; omega)
  have hm3 := HM2.out.setCell (p := ⟨G, 4, none⟩) (fun _ => .inl rfl) (.int .i64 ((age + 1 : Nat) : Int))
  obtain ⟨w3, hw3⟩ : ∃ w3, w2.setCell ⟨G, 4, none⟩ (.int .i64 ((age + 1 : Nat) : Int)) = w3 := ⟨_, rfl⟩
  rw [hw3] at hs3 hm3 ⊢
  clear hw3 q4 q5 HS2 HM2
  have q4 := hs3.old
  have HO := Lib.hid (fun m => oldest_drew hs3 m)
  have HS3 := Lib.hid hs3
  have HM3 := Lib.hid hm3
  clear hs3 hm3
  go_quiet ((go_at_call 27; exact Calls.quiet_of_same ((HO.out _).mono fun _ _ h => ⟨h.1, h.2.symm⟩)))
  have HS4 := Lib.hid (HS3.out.drewN nq)
  have HM4 := Lib.hid (HM3.out.drewN nq)
  generalize w3.drewN nq = w4 at HS4 HM4 ⊢
  clear HS3 HM3 HO q4 e1
  by_cases hh : age + 1 = 10 * N
  · have h1 : (((age + 1 : Nat) : Int) == ((10 * N : Nat) : Int)) = true := by rw [hh]; exact beq_self_eq_true _
    have HH := Lib.hid hh
    have HHV := Lib.hid (halve_any HS4.out)
    clear hh
    go_wp2_with (first
      | (go_at_call 13; (with_reducible refine HHV.out.mono ?_); rintro e w5 ⟨rfl, hs5, hm5⟩; have HS5 := Lib.hid hs5; have HM5 := Lib.hid hm5; have HG5 := Lib.hid (guess_any hs5 hk); clear hs5 hm5)
      | (go_at_call 22; (with_reducible refine HG5.out.mono ?_); rintro e w6 ⟨rfl, hb6⟩; have HB6 := Lib.hid hb6; clear hb6))
    go_ret
    exact ⟨rfl, HS5.out.same HB6.out, moves_t (Moves.of_below HB1.out) (moves_t HM4.out (moves_t HM5.out (Moves.of_below HB6.out)))⟩
  · have h1 : (((age + 1 : Nat) : Int) == ((10 * N : Nat) : Int)) = false := beq_eq_false_iff_ne.2 (fun e => hh (by exact_mod_cast e))
    have HH := Lib.hid hh
    have HG5 := Lib.hid (guess_any HS4.out hk)
    clear hh
    go_wp2_with (go_at_call 22; (with_reducible refine HG5.out.mono ?_); rintro e w6 ⟨rfl, hb6⟩; have HB6 := Lib.hid hb6; clear hb6)
    go_ret
    exact ⟨rfl, HS4.out.same HB6.out, moves_t (Moves.of_below HB1.out) (moves_t HM4.out (Moves.of_below HB6.out))⟩
end Go.Proofs.Ytalgkiagdjckiaa

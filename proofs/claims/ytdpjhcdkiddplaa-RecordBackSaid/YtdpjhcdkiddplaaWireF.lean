/-
  A reader's Raw, once more: what it answers lies in new memory.
  Conditions: none.
-/
import Derived.Test.YtdpjhcdkiddplaaWr
namespace Go.Proofs.Ytdpjhcdkiddplaa
open Go.RowKit

/-- A value's own block is n or a later one. -/
def Fresh (n : Nat) (u : Value) : Prop := ∀ k, u.ownBlock = some k → n ≤ k
theorem Fresh.nil (n : Nat) : Fresh n (.slice none 0 0) := fun k h => by simp [Value.ownBlock] at h
theorem Fresh.mono {n m : Nat} {u : Value} (h : Fresh n u) (hm : m ≤ n) : Fresh m u := fun k hk => Nat.le_trans hm (h k hk)
def RReadF (R : Nat) (left : List (BitVec 8)) (bad : Bool) (n : Option Nat) (w : World) (e : Ending) (w' : World) : Prop := ∃ u, e = .returned u ∧ BytesAt w'.heap.size w' u (takenB left n) ∧ (∃ v', ReaderAt w' R v' (leftB left n) (badB bad n) ∧ Moves (rS R) w w') ∧ Fresh w.heap.size u

set_option maxHeartbeats 1000000 in
theorem rrawF_any (R : Nat) (v : Value) (left : List (BitVec 8)) (bad : Bool) (n : Int) (w : World) (hr : ReaderAt w R v left bad) (hl : left.length ≤ 1099511627776) :
    Calls Try.prog 20 #[.pointer (some ⟨R, 0, none⟩), .int .i64 n] w (RReadF R left bad (tookN left true n) w) := by
  have hts : (takenB left (tookN left true n)).length ≤ 1099511627776 := by
    unfold tookN
    split
    · simp [takenB]; omega
    · simp [takenB]
  by_cases h0 : 0 ≤ n
  · have hd : decide (0 ≤ n) = true := by simpa using h0
    have HT := Lib.hid (take_any R v left bad true n w hr (fun _ => h0) hl)
    clear hr h0
    generalize tookN left true n = tn at HT hts ⊢
    go_enter Try.func20, Try.ntmps20
    go_wp2_with (first
      | (go_at_call 27; refine HT.out.mono ?_; rintro e w1 ⟨u, v1, rfl, hm1, hs1, hu1, hr1⟩; have HC := Lib.hid (clone_any _ _ _ w1 hu1 (Nat.le_refl _) hts); have HR := Lib.hid hr1; have HM := Lib.hid hm1; clear hu1 hr1 hm1 hs1)
      | (go_at_call 26; refine HC.out.mono ?_; rintro e w2 ⟨u2, rfl, hu2, hb2⟩))
    go_ret
    have hrr := rread_of HM.out HR.out hu2 rfl hb2
    obtain ⟨u, he, h1, h2⟩ := hrr
    cases he
    exact ⟨_, rfl, h1, h2, fun k hk => Nat.le_trans HM.out.size (hu2.lt k hk).1⟩
  · have hd : decide (0 ≤ n) = false := by simpa using h0
    have ht := take_wrong R v left bad n w hr
    have e : tookN left true n = none := by simp [tookN]; omega
    rw [e] at hts ⊢
    have HT := Lib.hid ht
    clear hr ht h0 e
    go_enter Try.func20, Try.ntmps20
    go_wp2_with (first
      | (go_at_call 27; refine HT.out.mono ?_; rintro e w1 ⟨u, v1, rfl, hm1, hs1, hu1, hr1⟩; have HC := Lib.hid (clone_any _ _ _ w1 hu1 (Nat.le_refl _) hts); have HR := Lib.hid hr1; have HM := Lib.hid hm1; clear hu1 hr1 hm1 hs1)
      | (go_at_call 26; refine HC.out.mono ?_; rintro e w2 ⟨u2, rfl, hu2, hb2⟩))
    go_ret
    have hrr := rread_of HM.out HR.out hu2 rfl hb2
    obtain ⟨u, he, h1, h2⟩ := hrr
    cases he
    exact ⟨_, rfl, h1, h2, fun k hk => Nat.le_trans HM.out.size (hu2.lt k hk).1⟩
def RdwF (w : World) (R : Nat) (bs left : List (BitVec 8)) (bad : Bool) (W : World) (e : Ending) (W' : World) : Prop := ∃ u, e = .returned u ∧ BytesAt W'.heap.size W' u bs ∧ RdAt w R left bad W' ∧ Keeps W W' ∧ Fresh W.heap.size u
theorem RdAt.rawF {w W : World} {R : Nat} {left : List (BitVec 8)} {bad : Bool} (h : RdAt w R left bad W) (n : Int) (hl : left.length ≤ 1099511627776) :
    Calls Try.prog 20 #[.pointer (some ⟨R, 0, none⟩), .int .i64 n] W (RdwF w R (takenB left (tookN left true n)) (leftB left (tookN left true n)) (badB bad (tookN left true n)) W) := by
  obtain ⟨v, h1, h2, h3⟩ := h
  refine (rrawF_any R v left bad n W h1 hl).mono ?_
  rintro e w' ⟨u, he, hu, ⟨v', h4, h5⟩, hf⟩
  exact ⟨u, he, hu, ⟨v', h4, h2.trans (h5.below (fun i hi => by rw [show i = R from hi]; exact h3) h2.size), h3⟩, fun n u bs hu hn => h1.keeps h5 hu hn, hf⟩
end Go.Proofs.Ytdpjhcdkiddplaa

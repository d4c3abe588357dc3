/-
  region: a log of the laws' plan from call to call; Read of any location.
  Conditions: none.
-/
import Derived.Test.YtiddfilhfdkogaaReg29
namespace Go.Proofs.Ytiddfilhfdkogaa
open Go.RowKit Go.Shelf

/-- What holds ahead of each round. -/
def WhRound (w : World) (R D : Nat) (k : Nat) (W : World) : Prop := ∃ x d H, LogNow w (fun _ => False) R D x d (k * 160) H W ∧ x.Like small11.log0
theorem like_facts {x : LogS} (h : x.Like small11.log0) : x.rr = 154 ∧ x.room = 77 ∧ x.regions = 3 := ⟨h.rr.trans is_log0.rr, h.1.trans log0_rr.2.2.2.2.1, h.2.2.1.trans is_log0.regions⟩
theorem oldest3 {x : LogS} (h : x.Like small11.log0) : x.oldest = max ((x.last : Int) - 3 + 1) 1 := by
  unfold LogS.oldest
  rw [(like_facts h).2.2]
  rfl
/-- Of a device that is up a sector tells its bytes, or that it is none. -/
theorem load_up {x : LogS} {d : Dev} (h : x.Ok) (hon : x.On d) (hup : d.Up) (q : Nat) {s : Nat} (hs : s < x.sectors) : x.loadE d q s = 0 ∨ x.loadE d q s = 13 := by
  unfold LogS.loadE
  split
  · exact .inl rfl
  · have hp := h.place_lt q hs
    have hse := hon.sectors
    have ea : askErr d.sectors d.down ((x.first : Int) + (x.place q s : Int)) = 0 := by
      unfold askErr
      rw [hup.down, if_neg (by decide), if_pos ⟨by omega, by omega⟩]
    unfold LogS.storedE
    split
    · exact .inr rfl
    · next hne =>
      have hne5 : gotErr d ((x.first : Int) + (x.place q s : Int)) 3 (x.place q s : Int) ≠ 5 := fun e => hne (.inl e)
      unfold gotErr at hne5 ⊢
      rw [if_pos ea] at hne5 ⊢
      split
      · exact .inl rfl
      · next hc => rw [if_neg hc] at hne5; exact absurd rfl hne5
section
variable {w W W' : World} {E : Foot} {R D : Nat} {x : LogS} {d : Dev} {k : Nat} {H : List AppD}
/-- What Read of any location leaves. -/
def ReadLoc (x : LogS) (q p n : Int) (W : World) (e : Ending) (W' : World) : Prop :=
  ∃ (a : Option Addr) (m c : Nat) (er : Int), e = .returned (.tuple #[.slice a m c, .int .i64 er]) ∧ Below W.heap.size W W' ∧ ((x.holdB q p n = false ∧ er = 13 ∧ m = 0) ∨ (x.holdB q p n = true ∧ ((er = 0 ∧ (m : Int) = n) ∨ (er = 13 ∧ m = 0 ∧ 0 < n))))
theorem now_read_loc (h : LogNow w E R D x d k H W) (q p n : Int) : Calls Try.prog 21 #[.pointer (some ⟨R, 0, none⟩), .agg #[.int .i64 q, .int .i64 p, .int .i64 n]] W (ReadLoc x q p n W) := by
  cases hh : x.holdB q p n with
  | false => exact (read_stale h.at_ q p n hh).mono fun e W' ⟨he, hb⟩ => ⟨none, 0, 0, 13, he, hb, .inl ⟨hh, rfl, rfl⟩⟩
  | true =>
    have hp := hh
    unfold LogS.holdB LogS.thereB at hp
    simp only [Bool.and_eq_true, decide_eq_true_eq] at hp
    have hol : (1 : Int) ≤ x.oldest := by unfold LogS.oldest; exact Int.le_max_right _ _
    obtain ⟨Q, rfl⟩ : ∃ Q : Nat, q = Q := ⟨q.toNat, by omega⟩
    obtain ⟨P, rfl⟩ : ∃ P : Nat, p = P := ⟨p.toNat, by omega⟩
    obtain ⟨N, rfl⟩ : ∃ N : Nat, n = N := ⟨n.toNat, by omega⟩
    have hd : DevHere w D d W := by obtain ⟨rv, _, hda, _⟩ := h.at_; exact hda.here
    refine (rread_any h.at_ h.inv.on Q P N hh).mono fun e W' ⟨v, er, he, hb, hr⟩ => ?_
    rcases hr with ⟨rfl, _, hv⟩ | ⟨rfl, hne, hn, t, _, ht, hl⟩
    · obtain ⟨a, c, rfl, _⟩ := id hv
      have hlen : (((x.contP d Q).drop P).take N).length = N := by
        have hc : (x.contP d Q).length = x.sectors * x.room := flat_len (fun s => x.padB d Q s) x.room x.sectors fun s _ => pad_len h.inv.ok h.inv.on hd Q s
        have hrr : x.rr = x.sectors * x.room := rfl
        rw [List.length_take, List.length_drop, hc]
        omega
      exact ⟨a, _, c, 0, he, hb, .inr ⟨hh, .inl ⟨rfl, by rw [hlen]⟩⟩⟩
    · have hts : t < x.sectors := by
        have hrr : x.rr = x.sectors * x.room := rfl
        have : t * x.room < x.sectors * x.room := by omega
        exact Nat.lt_of_mul_lt_mul_right this
      rcases load_up h.inv.ok h.inv.on h.inv.up Q hts with h0 | h13
      · exact absurd (hl.symm.trans h0) hne
      · exact ⟨none, 0, 0, er, he, hb, .inr ⟨hh, .inr ⟨hl.symm.trans h13, rfl, by omega⟩⟩⟩
end
end Go.Proofs.Ytiddfilhfdkogaa

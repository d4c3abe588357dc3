/-
  A reader whose bytes lie below a place, bad or not: Number, Text; the text lies in a block of bytes.
  Conditions: none.
-/
import Derived.Test.YtgaabclgoolalaaNums1
import Derived.Test.YtgaabclgoolalaaScr9
namespace Go.Proofs.Ytgaabclgoolalaa
open Go.RowKit
attribute [local go_sem] Oper.semAt_some

/-- What is left, whether the reader is bad. -/
abbrev RSt := List (BitVec 8) × Bool
def rNum (s : RSt) (k : Int) : BitVec 64 × RSt := (rdN s.1 k, (rdL s.1 k, rdB s.1 s.2 k))
def rRaw (s : RSt) (n : Int) : List (BitVec 8) × RSt := (takenB s.1 (tookN s.1 true n), (leftB s.1 (tookN s.1 true n), badB s.2 (tookN s.1 true n)))
def rTxt (s : RSt) : List (BitVec 8) × RSt := rRaw (rNum s 2).2 (U (rNum s 2).1)
/-- Nothing is left to a bad reader. -/
def SOk (s : RSt) : Prop := s.2 = true → s.1 = []
theorem left_ok (l : List (BitVec 8)) (b : Bool) (n : Option Nat) (h : SOk (l, b)) : SOk (leftB l n, badB b n) := by
  intro hb
  cases n with
  | none => rfl
  | some k =>
    have h1 : l = [] := h hb
    subst h1
    simp [leftB]
theorem rNum_ok {s : RSt} (k : Int) (h : SOk s) : SOk (rNum s k).2 := left_ok _ _ _ h
theorem rRaw_ok {s : RSt} (n : Int) (h : SOk s) : SOk (rRaw s n).2 := left_ok _ _ _ h
theorem rTxt_ok {s : RSt} (h : SOk s) : SOk (rTxt s).2 := rRaw_ok _ (rNum_ok _ h)
theorem rNum_len (s : RSt) (k : Int) : (rNum s k).2.1.length ≤ s.1.length := leftB_len _ _
theorem rRaw_len (s : RSt) (n : Int) : (rRaw s n).2.1.length ≤ s.1.length := leftB_len _ _
theorem rTxt_len (s : RSt) : (rTxt s).2.1.length ≤ s.1.length := Nat.le_trans (rRaw_len _ _) (rNum_len _ _)
theorem rRaw_size (s : RSt) (n : Int) : (rRaw s n).1.length ≤ s.1.length := by
  unfold rRaw tookN
  split
  · simp [takenB]; omega
  · simp [takenB]
/-- A reader lies in block R; its bytes lie below n₀. -/
def ReadB (n₀ R : Nat) (s : RSt) (W : World) : Prop := SOk s ∧ ∃ v, W.heap[R]? = some (.cells #[v, .bool s.2] 74 (0, 0)) ∧ BytesAt n₀ W v s.1
theorem ReadB.lt {n₀ R : Nat} {s : RSt} {W : World} (h : ReadB n₀ R s W) : R < W.heap.size := by
  obtain ⟨_, v, h, _⟩ := h
  exact blk_lt h
theorem ReadB.at {n₀ R : Nat} {s : RSt} {W : World} (h : ReadB n₀ R s W) (hn : n₀ ≤ W.heap.size) : ∃ v, ReaderAt W R v s.1 s.2 := by
  obtain ⟨_, v, h, hb⟩ := h
  exact ⟨v, h, hb.mono hn⟩
theorem ReadB.below {n₀ R : Nat} {s : RSt} {W W' : World} (h : ReadB n₀ R s W) (hb : Below W.heap.size W W') (hn : n₀ ≤ W.heap.size) : ReadB n₀ R s W' := by
  obtain ⟨h0, v, h, hv⟩ := h
  exact ⟨h0, v, (hb.block R (blk_lt h)).trans h, hv.below (hb.mono hn)⟩
/-- With nothing left its bytes lie anywhere. -/
theorem ReadB.of_nil {n₀ R : Nat} {s : RSt} {W : World} {v : Value} (hs : SOk s) (h : ReaderAt W R v s.1 s.2) (h0 : s.1 = []) : ReadB n₀ R s W := by
  obtain ⟨a, cap, hv, hl, hn, _⟩ := h.bytes
  exact ⟨hs, v, h.blk, a, cap, hv, hl, hn, .inl h0⟩
def TookB (n₀ R : Nat) (bs : List (BitVec 8)) (s : RSt) (w : World) (e : Ending) (w' : World) : Prop := ∃ u, e = .returned u ∧ Moves (rS R) w w' ∧ BytesAt w'.heap.size w' u bs ∧ ReadB n₀ R s w'
theorem takeB_any {n₀ R : Nat} {s : RSt} {w : World} (h : ReadB n₀ R s w) (hn : n₀ ≤ w.heap.size) (n : Int) (h0 : 0 ≤ n) (hl : s.1.length ≤ 1099511627776) :
    Calls Try.prog 31 #[.pointer (some ⟨R, 0, none⟩), .bool true, .int .i64 n] w (TookB n₀ R (rRaw s n).1 (rRaw s n).2 w) := by
  obtain ⟨v1, hr⟩ := h.at hn
  by_cases hnil : (rRaw s n).2.1 = []
  · refine (take_any R v1 s.1 s.2 true n w hr (fun _ => h0) hl).mono ?_
    rintro e w' ⟨u, v', he, hm, hs, hu, hr'⟩
    exact ⟨u, he, hm, hu, ReadB.of_nil (rRaw_ok n h.1) hr' hnil⟩
  · obtain ⟨hs, v, hblk, hb⟩ := h
    obtain ⟨k, rfl⟩ := Int.eq_ofNat_of_zero_le h0
    have hk : k < s.1.length := by
      by_cases hk : k < s.1.length
      · exact hk
      · exfalso
        apply hnil
        unfold rRaw tookN
        dsimp only
        split
        · simp [leftB]; omega
        · rfl
    have hbad : s.2 = false := by
      cases hb2 : s.2 with
      | false => rfl
      | true =>
        have := hs hb2
        rw [this] at hk
        simp at hk
    have ht : tookN s.1 true k = some k := by
      unfold tookN
      rw [if_pos ⟨rfl, by omega, by omega⟩]
      simp
    obtain ⟨a, cap, rfl, hc, h0', hb'⟩ := id hb
    rw [hbad] at hblk
    cases a with
    | none =>
      rcases hb' with hb' | ⟨g, off, ha, _⟩
      · rw [hb'] at hk; simp at hk
      · cases ha
    | some ad =>
      refine (takeR_mid n₀ R ad cap s.1 k w hblk hb (by omega) (by omega) hl).mono ?_
      rintro e w' ⟨u, he, hm, hu, v', hv1, hv2⟩
      refine ⟨u, he, hm, ?_, rRaw_ok _ hs, v', ?_, ?_⟩
      · unfold rRaw
        rw [ht]
        exact hu.mono (Nat.le_trans hn hm.size)
      · unfold rRaw
        rw [ht, hbad]
        exact hv1
      · unfold rRaw
        rw [ht]
        exact hv2
def RdNum (n₀ R : Nat) (x : BitVec 64) (s : RSt) (W : World) (e : Ending) (W' : World) : Prop := e = .returned (.int .u64 (U x)) ∧ ReadB n₀ R s W' ∧ Moves (rS R) W W'
theorem ReadB.num {n₀ R : Nat} {s : RSt} {W : World} (h : ReadB n₀ R s W) (hn : n₀ ≤ W.heap.size) (k : Nat) (hk : mayB k = true) (hk1 : 1 ≤ k) (hk8 : k ≤ 8) (hl : s.1.length ≤ 1099511627776) :
    Calls Try.prog 14 #[.pointer (some ⟨R, 0, none⟩), .int .i64 k] W (RdNum n₀ R (rNum s k).1 (rNum s k).2 W) := by
  obtain ⟨v1, hr⟩ := h.at hn
  by_cases hnil : (rNum s k).2.1 = []
  · refine (rnumber_any R v1 s.1 s.2 k W hr hl).mono ?_
    rintro e w' ⟨he, v', h4, h5⟩
    exact ⟨he, ReadB.of_nil (rNum_ok k h.1) h4 hnil, h5⟩
  · have hk2 : k ≤ s.1.length := by
      by_cases hk2 : k ≤ s.1.length
      · exact hk2
      · exfalso
        apply hnil
        unfold rNum rdL tookN
        dsimp only
        rw [if_neg (by omega)]
        rfl
    have ht : tookN s.1 (mayB k) k = some k := by
      unfold tookN
      rw [if_pos ⟨hk, by omega, by omega⟩]
      simp
    obtain ⟨hs, v, hblk, hb⟩ := h
    have hbad : s.2 = false := by
      cases hb2 : s.2 with
      | false => rfl
      | true =>
        have := hs hb2
        rw [this] at hk2
        simp at hk2
        omega
    refine (numberR_any n₀ R k s.1 W ⟨v, by rw [hbad] at hblk; exact hblk, hb⟩ hn hk hk1 hk8 hk2 hl).mono ?_
    rintro e w' ⟨he, ⟨v', hv1, hv2⟩, hm⟩
    have e1 : (rNum s k).1 = leOf (s.1.take k) := by unfold rNum rdN; rw [ht]; rfl
    have e2 : (rNum s k).2 = (s.1.drop k, false) := by unfold rNum rdL rdB; rw [ht, hbad]; rfl
    rw [e1]
    have hso := rNum_ok (k : Int) hs
    rw [e2] at hso ⊢
    exact ⟨he, ⟨hso, v', hv1, hv2⟩, hm⟩
def RdTxt (n₀ R : Nat) (bs : List (BitVec 8)) (s : RSt) (W : World) (e : Ending) (W' : World) : Prop := ∃ a c, e = .returned (.slice a bs.length c) ∧ BytesT W' (.slice a bs.length c) bs ∧ ReadB n₀ R s W' ∧ Moves (rS R) W W'
theorem RdTxt.of {n₀ R : Nat} {bs : List (BitVec 8)} {s : RSt} {w w1 w2 : World} {u2 : Value} (hm : Moves (rS R) w w1) (hn : n₀ ≤ w1.heap.size) (hr : ReadB n₀ R s w1) (hu : w2.ownsRow w1.heap.size 5 1 u2 bs.length (cellsOf bs)) (hb : Below w1.heap.size w1 w2) : RdTxt n₀ R bs s w (.returned u2) w2 := by
  have h1 := BytesAt.of_owns hu
  have h2 := own_type hu
  obtain ⟨a, c, hv, _⟩ := id h1
  subst hv
  exact ⟨a, c, rfl, ⟨h1, h2⟩, hr.below hb hn, hm.trans (Moves.of_below (S := fun _ => False) hb) (fun _ _ e => e.elim)⟩
set_option maxHeartbeats 1000000 in
theorem ReadB.raw {n₀ R : Nat} {s : RSt} {W : World} (h : ReadB n₀ R s W) (hn : n₀ ≤ W.heap.size) (n : Int) (h0 : 0 ≤ n) (hl : s.1.length ≤ 1099511627776) :
    Calls Try.prog 44 #[.pointer (some ⟨R, 0, none⟩), .int .i64 n] W (RdTxt n₀ R (rRaw s n).1 (rRaw s n).2 W) := by
  have hts := Nat.le_trans (rRaw_size s n) hl
  have hd : decide (0 ≤ n) = true := by simpa using h0
  have HT := Lib.hid (takeB_any h hn n h0 hl)
  have HN := Lib.hid hn
  clear h h0 hn hl
  generalize (rRaw s n).1 = tn at HT hts ⊢
  generalize (rRaw s n).2 = s2 at HT ⊢
  go_enter Try.func44, Try.ntmps44
  go_wp2_with (first
    | (go_at_call 31; refine HT.out.mono ?_; rintro e w1 ⟨u, rfl, hm1, hu1, hr1⟩; have HC := Lib.hid (clone_any _ _ _ w1 hu1 (Nat.le_refl _) hts); have HR := Lib.hid hr1; have HM := Lib.hid hm1; clear hu1 hr1 hm1)
    | (go_at_call 30; refine HC.out.mono ?_; rintro e w2 ⟨u2, rfl, hu2, hb2⟩))
  go_ret
  exact RdTxt.of HM.out (Nat.le_trans HN.out HM.out.size) HR.out hu2 hb2
set_option maxHeartbeats 1000000 in
theorem ReadB.txt {n₀ R : Nat} {s : RSt} {W : World} (h : ReadB n₀ R s W) (hn : n₀ ≤ W.heap.size) (hl : s.1.length ≤ 1099511627776) :
    Calls Try.prog 42 #[.pointer (some ⟨R, 0, none⟩)] W (RdTxt n₀ R (rTxt s).1 (rTxt s).2 W) := by
  have HQ := Lib.hid (h.num hn 2 rfl (by omega) (by omega) hl)
  have hlt : U (rNum s 2).1 < 65536 := leOf_lt _ (by
    unfold tookN
    split
    · simp [takenB]; omega
    · simp [takenB])
  have hge := U_nonneg (rNum s 2).1
  have hl2 : (rNum s 2).2.1.length ≤ 1099511627776 := Nat.le_trans (rNum_len _ _) hl
  have HN := Lib.hid hn
  have HP : Hid (∀ e w', RdTxt n₀ R (rRaw (rNum s 2).2 (U (rNum s 2).1)).1 (rRaw (rNum s 2).2 (U (rNum s 2).1)).2 W e w' → RdTxt n₀ R (rTxt s).1 (rTxt s).2 W e w') := fun _ _ h => h
  clear h hn hl
  have HQ : Hid (Calls Try.prog 14 #[.pointer (some ⟨R, 0, none⟩), .int .i64 2] W (RdNum n₀ R (rNum s 2).1 (rNum s 2).2 W)) := HQ
  generalize (rNum s 2).1 = q at HQ hlt HP hge
  generalize (rNum s 2).2 = s2 at HQ hl2 HP
  generalize RdTxt n₀ R (rTxt s).1 (rTxt s).2 W = post at HP ⊢
  go_enter Try.func42, Try.ntmps42
  go_wp2_with (first
    | (go_at_call 14; refine HQ.out.mono ?_; rintro e w1 ⟨rfl, hr1, hm1⟩; have HR := Lib.hid (hr1.raw (Nat.le_trans HN.out hm1.size) (U q) hge hl2); have HM := Lib.hid hm1; clear hr1 hm1)
    | (go_at_call 44; refine HR.out.mono ?_; rintro e w2 ⟨a2, c2, rfl, hu2, hr2, hm2⟩))
  exact HP.out _ _ ⟨a2, c2, rfl, hu2, hr2, HM.out.trans hm2 (fun _ _ h => h)⟩
end Go.Proofs.Ytgaabclgoolalaa

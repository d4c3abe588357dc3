/-
  What a reader's calls do: wire.NewReader, Number, Text, Raw, Rest, Bad.
  Conditions: none.
-/
import Derived.Test.YtgaabclgoolalaaWire5
import Derived.Test.YtgaabclgoolalaaWireMath
import Derived.Outline
namespace Go.Proofs.Ytgaabclgoolalaa
open Go.RowKit

theorem or_u64 (x y : BitVec 64) : bits .or .u64 (U x) (U y) = U (x ||| y) := by
  show IntKind.u64.wrap (((BitVec.ofInt 64 (U x)) ||| (BitVec.ofInt 64 (U y))).toNat : Int) = _
  rw [ofInt_U, ofInt_U]; exact wrap_u64_U (x ||| y)
theorem shl_u64 (x : BitVec 64) (k : Nat) : IntKind.u64.wrap (U x * 2 ^ k) = U (x <<< k) := by
  unfold U
  rw [BitVec.toNat_shiftLeft, Nat.shiftLeft_eq]
  have : ((x.toNat : Int) * 2 ^ k) = ((x.toNat * 2 ^ k : Nat) : Int) := by simp
  rw [this]
  generalize x.toNat * 2 ^ k = m
  simp [IntKind.wrap, IntKind.bits, IntKind.signed]
theorem u8_in64 (b : BitVec 8) : U b = U (b.setWidth 64) := by
  unfold U
  rw [BitVec.toNat_setWidth, Nat.mod_eq_of_lt (by have := b.isLt; omega)]

/-- What a reader's call leaves: its reader, and nothing else that was there turned. -/
def RLeft (R : Nat) (left : List (BitVec 8)) (bad : Bool) (w w' : World) : Prop := ∃ v', ReaderAt w' R v' left bad ∧ Moves (rS R) w w'

theorem ReaderAt.below {R : Nat} {w w' : World} {v : Value} {left : List (BitVec 8)} {bad : Bool} (h : ReaderAt w R v left bad) (hb : Below w.heap.size w w') : ReaderAt w' R v left bad :=
  ⟨(hb.block R (blk_lt h.blk)).trans h.blk, (h.bytes.below hb).mono hb.size⟩

set_option maxHeartbeats 2000000 in
theorem rnumber_any (R : Nat) (v : Value) (left : List (BitVec 8)) (bad : Bool) (k : Int) (w : World) (hr : ReaderAt w R v left bad) (hl : left.length ≤ 1099511627776) :
    Calls Try.prog 14 #[.pointer (some ⟨R, 0, none⟩), .int .i64 k] w fun e w' => e = .returned (.int .u64 (U (leOf (takenB left (tookN left (mayB k) k))))) ∧ RLeft R (leftB left (tookN left (mayB k) k)) (badB bad (tookN left (mayB k) k)) w w' := by
  have hb : Below w.heap.size w (w.alloc (.cells #[.int .i64 1, .int .i64 2, .int .i64 4, .int .i64 8] 3)) := (Below.refl _ _).alloc (Nat.le_refl _) _
  have hr1 := hr.below hb
  have hk : mayB k = true → 0 ≤ k := fun h => by
    have : k = 1 ∨ k = 2 ∨ k = 4 ∨ k = 8 := by simpa [mayB] using h
    omega
  have ht := take_any R v left bad (mayB k) k _ hr1 hk hl
  have hsmall : (takenB left (tookN left (mayB k) k)).length ≤ 8 := by
    unfold tookN
    split
    · rename_i h
      have : k = 1 ∨ k = 2 ∨ k = 4 ∨ k = 8 := by simpa [mayB] using h.1
      simp [takenB]; omega
    · simp [takenB]
  have HM := Lib.hid (may_any k w)
  have HT := Lib.hid ht
  have HB := Lib.hid hb
  clear hr hr1 ht hb hk
  generalize mayB k = mb at HM HT hsmall ⊢
  generalize tookN left mb k = tn at HT hsmall ⊢
  unfold Took at HT
  generalize takenB left tn = bs at HT hsmall ⊢
  generalize leftB left tn = lb at HT ⊢
  generalize badB bad tn = bb at HT ⊢
  have hs1 : (bs.length : Int) ≤ 8 := by omega
  go_enter Try.func14, Try.ntmps14
  go_wp2_with (first
    | (go_at_call 32; refine HM.out.mono ?_; rintro e w' ⟨rfl, rfl⟩)
    | (go_at_call 31; refine HT.out.mono ?_; rintro e w1 ⟨u, v1, rfl, hm1, hs1, hu1, hr1⟩; have HU := Lib.hid hu1; have HR := Lib.hid hr1; have HM1 := Lib.hid hm1; obtain ⟨au, cu, rfl, hcu, _, hu⟩ := hu1; clear hr1 hm1 hs1 hcu))
  go_loop [14, 5] (fun iv nv => ∃ j : Nat, j ≤ bs.length ∧ iv = .int .i64 j ∧ nv = .int .u64 (U (leAcc bs j))) (fun iv _ => bs.length - (intOf iv).toNat)
  case atStart => exact ⟨0, Nat.zero_le _, rfl, rfl⟩
  case round =>
    obtain ⟨j, hj, rfl, rfl⟩ := hrel
    by_cases hlt : j < bs.length
    · rcases hu with h | ⟨g, off, rfl, hg, hc⟩
      · subst h; simp at hlt
      have c1 := hc j hlt
      clear hc
      have HL := Lib.hid (leAcc_succ bs j)
      generalize bs[j]?.getD 0 = b at c1 HL
      generalize leAcc bs j = q at HL ⊢
      go_wp2
      refine ⟨⟨j + 1, by omega, by go_num, ?_⟩, by simp [intOf]; omega⟩
      rw [HL.out, u8_in64 b, wrap_u64_U, shl_u64, or_u64]
    · obtain rfl : j = bs.length := by omega
      go_wp2
      go_ret
      exact ⟨rfl, _, HR.out, (Moves.of_below HB.out).trans HM1.out (fun _ _ h => h)⟩

/-- What Raw and Text of a reader leave. -/
def RRead (R : Nat) (left : List (BitVec 8)) (bad : Bool) (n : Option Nat) (w : World) (e : Ending) (w' : World) : Prop :=
  ∃ u, e = .returned u ∧ BytesAt w'.heap.size w' u (takenB left n) ∧ RLeft R (leftB left n) (badB bad n) w w'

theorem rread_of {R : Nat} {left : List (BitVec 8)} {bad : Bool} {n : Option Nat} {w w1 w2 : World} {v1 v2 : Value} (hm : Moves (rS R) w w1) (hr : ReaderAt w1 R v1 (leftB left n) (badB bad n)) {k : Nat}
    (hc : w2.ownsRow w1.heap.size 5 1 v2 k (cellsOf (takenB left n))) (hk : k = (takenB left n).length) (hb : Below w1.heap.size w1 w2) : RRead R left bad n w (.returned v2) w2 := by
  subst hk
  exact ⟨_, rfl, BytesAt.of_owns hc, _, hr.below hb, hm.trans (Moves.of_below (S := fun _ => False) hb) (fun _ _ h => h.elim)⟩

set_option maxHeartbeats 1000000 in
theorem rraw_any (R : Nat) (v : Value) (left : List (BitVec 8)) (bad : Bool) (n : Int) (w : World) (hr : ReaderAt w R v left bad) (hl : left.length ≤ 1099511627776) :
    Calls Try.prog 44 #[.pointer (some ⟨R, 0, none⟩), .int .i64 n] w (RRead R left bad (tookN left true n) w) := by
  have hts : (takenB left (tookN left true n)).length ≤ 1099511627776 := by
    unfold tookN
    split
    · simp [takenB]; omega
    · simp [takenB]
  by_cases h0 : 0 ≤ n
  · have hd : decide (0 ≤ n) = true := by simpa using h0
    have HT := Lib.hid (take_any R v left bad true n w hr (fun _ => h0) hl)
    clear hr h0
    generalize tookN left true n = tn at HT hts ⊢
    go_enter Try.func44, Try.ntmps44
    go_wp2_with (first
      | (go_at_call 31; refine HT.out.mono ?_; rintro e w1 ⟨u, v1, rfl, hm1, hs1, hu1, hr1⟩; have HC := Lib.hid (clone_any _ _ _ w1 hu1 (Nat.le_refl _) hts); have HR := Lib.hid hr1; have HM := Lib.hid hm1; clear hu1 hr1 hm1 hs1)
      | (go_at_call 30; refine HC.out.mono ?_; rintro e w2 ⟨u2, rfl, hu2, hb2⟩))
    go_ret
    exact rread_of HM.out HR.out hu2 rfl hb2
  · have hd : decide (0 ≤ n) = false := by simpa using h0
    have ht := take_wrong R v left bad n w hr
    have e : tookN left true n = none := by simp [tookN]; omega
    rw [e] at hts ⊢
    have HT := Lib.hid ht
    clear hr ht h0 e
    go_enter Try.func44, Try.ntmps44
    go_wp2_with (first
      | (go_at_call 31; refine HT.out.mono ?_; rintro e w1 ⟨u, v1, rfl, hm1, hs1, hu1, hr1⟩; have HC := Lib.hid (clone_any _ _ _ w1 hu1 (Nat.le_refl _) hts); have HR := Lib.hid hr1; have HM := Lib.hid hm1; clear hu1 hr1 hm1 hs1)
      | (go_at_call 30; refine HC.out.mono ?_; rintro e w2 ⟨u2, rfl, hu2, hb2⟩))
    go_ret
    exact rread_of HM.out HR.out hu2 rfl hb2

theorem rest_any (R : Nat) (v : Value) (left : List (BitVec 8)) (bad : Bool) (w : World) (hr : ReaderAt w R v left bad) (hl : left.length ≤ 1099511627776) :
    Calls Try.prog 17 #[.pointer (some ⟨R, 0, none⟩)] w fun e w' => ∃ u, e = .returned u ∧ BytesAt w'.heap.size w' u left ∧ Below w.heap.size w w' := by
  have c0 : w.cell? ⟨R, 0, none⟩ = some v := blk_cell hr.blk 0
  have HC := Lib.hid (clone_any w.heap.size _ left w hr.bytes (Nat.le_refl _) hl)
  obtain ⟨a, cap, rfl, _⟩ := hr.bytes
  clear hr
  go_enter Try.func17, Try.ntmps17
  go_wp2_with (go_at_call 30; refine HC.out.mono ?_; rintro e w' ⟨u, rfl, hu, hb⟩)
  go_ret
  exact ⟨_, rfl, BytesAt.of_owns hu, hb⟩

theorem bad_any (R : Nat) (v : Value) (left : List (BitVec 8)) (bad : Bool) (w : World) (hr : ReaderAt w R v left bad) :
    Calls Try.prog 15 #[.pointer (some ⟨R, 0, none⟩)] w fun e w' => e = .returned (.bool bad) ∧ w = w' := by
  have c1 : w.cell? ⟨R, 1, none⟩ = some (.bool bad) := blk_cell hr.blk 1
  clear hr
  go_enter Try.func15, Try.ntmps15
  go_wp2
  go_ret
  exact ⟨rfl, rfl⟩

/-- What NewReader leaves. -/
def NewR (bs : List (BitVec 8)) (w : World) (e : Ending) (w' : World) : Prop := ∃ R v, e = .returned (.pointer (some ⟨R, 0, none⟩)) ∧ w.heap.size ≤ R ∧ ReaderAt w' R v bs false ∧ Below w.heap.size w w' ∧ ∀ k, v.ownBlock = some k → w.heap.size ≤ k
theorem newReader_any (u : Value) (bs : List (BitVec 8)) (w : World) (hu : BytesAt w.heap.size w u bs) (hl : bs.length ≤ 1099511627776) :
    Calls Try.prog 13 #[u] w (NewR bs w) := by
  have HC := Lib.hid (clone_any w.heap.size u bs w hu (Nat.le_refl _) hl)
  clear hu
  go_enter Try.func13, Try.ntmps13
  go_wp2_with (go_at_call 30; refine HC.out.mono ?_; rintro e w1 ⟨v, rfl, hv, hb⟩; obtain ⟨a, c, rfl⟩ := owns_slice hv)
  go_ret
  exact ⟨_, _, rfl, hb.size, ⟨heap_alloc_new _ _, ((BytesAt.of_owns hv).below ((Below.refl _ _).alloc (Nat.le_refl _) _)).mono (by simp)⟩, hb.alloc hb.size _, fun k e => (hv.lt k e).1⟩


/-- How many bytes a text has whose length stands ahead. -/
def textLen (left : List (BitVec 8)) : Int := U (leOf (takenB left (tookN left true 2)))
theorem leOf_lt (bs : List (BitVec 8)) (h : bs.length ≤ 2) : U (leOf bs) < 65536 := by
  have h1 := leOf_toNat bs (by omega)
  have h2 := leNat_lt bs
  have h3 : 256 ^ bs.length ≤ 256 ^ 2 := Nat.pow_le_pow_right (by decide) h
  unfold U
  omega

/-- What Text leaves. -/
def RText (R : Nat) (left : List (BitVec 8)) (bad : Bool) (w : World) (e : Ending) (w' : World) : Prop :=
  ∃ u, e = .returned u ∧ BytesAt w'.heap.size w' u (takenB (leftB left (tookN left true 2)) (tookN (leftB left (tookN left true 2)) true (textLen left))) ∧
    RLeft R (leftB (leftB left (tookN left true 2)) (tookN (leftB left (tookN left true 2)) true (textLen left))) (badB (badB bad (tookN left true 2)) (tookN (leftB left (tookN left true 2)) true (textLen left))) w w'
theorem leftB_len (left : List (BitVec 8)) (n : Option Nat) : (leftB left n).length ≤ left.length := by
  cases n <;> simp [leftB]
set_option maxHeartbeats 1000000 in
theorem rtext_any (R : Nat) (v : Value) (left : List (BitVec 8)) (bad : Bool) (w : World) (hr : ReaderAt w R v left bad) (hl : left.length ≤ 1099511627776) :
    Calls Try.prog 42 #[.pointer (some ⟨R, 0, none⟩)] w (RText R left bad w) := by
  have hn := rnumber_any R v left bad 2 w hr hl
  have h2 : mayB 2 = true := rfl
  rw [h2] at hn
  have hlt : U (leOf (takenB left (tookN left true 2))) < 65536 := leOf_lt _ (by
    unfold tookN
    split
    · simp [takenB]; omega
    · simp [takenB])
  have hlb := leftB_len left (tookN left true 2)
  have hlb2 : (leftB left (tookN left true 2)).length ≤ 1099511627776 := by omega
  have HN := Lib.hid hn
  have HP : Hid (∀ e w', (∃ u, e = .returned u ∧ BytesAt w'.heap.size w' u (takenB (leftB left (tookN left true 2)) (tookN (leftB left (tookN left true 2)) true (U (leOf (takenB left (tookN left true 2)))))) ∧
    RLeft R (leftB (leftB left (tookN left true 2)) (tookN (leftB left (tookN left true 2)) true (U (leOf (takenB left (tookN left true 2)))))) (badB (badB bad (tookN left true 2)) (tookN (leftB left (tookN left true 2)) true (U (leOf (takenB left (tookN left true 2)))))) w w') → RText R left bad w e w') := fun _ _ h => h
  have hge := U_nonneg (leOf (takenB left (tookN left true 2)))
  clear hr hn hlb h2
  generalize leOf (takenB left (tookN left true 2)) = q at HN hlt HP hge
  generalize leftB left (tookN left true 2) = lb at HN hlb2 HP
  generalize badB bad (tookN left true 2) = bb at HN HP
  generalize RText R left bad w = post at HP ⊢
  go_enter Try.func42, Try.ntmps42
  go_wp2_with (first
    | (go_at_call 14; refine HN.out.mono ?_; rintro e w1 ⟨rfl, v1, hr1, hm1⟩; have HR := Lib.hid (rraw_any R v1 lb bb (U q) w1 hr1 hlb2); have HM := Lib.hid hm1; clear hr1 hm1)
    | (go_at_call 44; refine HR.out.mono ?_; rintro e w2 ⟨u2, rfl, hu2, v2, hr2, hm2⟩))
  exact HP.out _ _ ⟨_, rfl, hu2, v2, hr2, HM.out.trans hm2 (fun _ _ h => h)⟩

/-! No reader -/
theorem rnumber_nil (k : Int) (w : World) : Calls Try.prog 14 #[.pointer none, .int .i64 k] w fun e w' => e = .returned (.int .u64 0) ∧ Below w.heap.size w w' := by
  have HM := Lib.hid (may_any k w)
  have HT := Lib.hid (fun W => take_nil (mayB k) k W)
  go_enter Try.func14, Try.ntmps14
  go_wp2_with (first
    | (go_at_call 32; refine HM.out.mono ?_; rintro e w' ⟨rfl, rfl⟩)
    | (go_at_call 31; refine (HT.out _).mono ?_; rintro e w1 ⟨rfl, rfl⟩))
  refine wp_loop_rounds 1 ?_
  rw [rounds_succ]
  go_wp2
  go_ret
  exact ⟨rfl, (Below.refl _ _).alloc (Nat.le_refl _) _⟩
theorem rraw_nil (n : Int) (w : World) : Calls Try.prog 44 #[.pointer none, .int .i64 n] w fun e w' => e = .returned (.slice none 0 0) ∧ Below w.heap.size w w' := by
  have HT := Lib.hid (fun W => take_nil (decide (0 ≤ n)) n W)
  have HC := Lib.hid (fun W => clone_nil W)
  go_enter Try.func44, Try.ntmps44
  go_wp2_with (first
    | (go_at_call 31; refine (HT.out _).mono ?_; rintro e w1 ⟨rfl, rfl⟩)
    | (go_at_call 30; refine (HC.out _).mono ?_; rintro e w2 ⟨rfl, rfl⟩))
  go_ret
  exact ⟨rfl, Below.refl _ _⟩
theorem rtext_nil (w : World) : Calls Try.prog 42 #[.pointer none] w fun e w' => e = .returned (.slice none 0 0) ∧ Below w.heap.size w w' := by
  have HN := Lib.hid (rnumber_nil 2 w)
  have HR := Lib.hid (fun W => rraw_nil 0 W)
  go_enter Try.func42, Try.ntmps42
  go_wp2_with (first
    | (go_at_call 14; refine HN.out.mono ?_; rintro e w1 ⟨rfl, hb1⟩)
    | (go_at_call 44; refine (HR.out _).mono ?_; rintro e w2 ⟨rfl, hb2⟩))
  go_ret
  exact ⟨rfl, hb1.trans (hb2.mono hb1.size)⟩
theorem rest_nil (w : World) : Calls Try.prog 17 #[.pointer none] w fun e w' => e = .returned (.slice none 0 0) ∧ w = w' := by
  go_enter Try.func17, Try.ntmps17
  go_wp2
  go_ret
  exact ⟨rfl, rfl⟩
theorem bad_nil (w : World) : Calls Try.prog 15 #[.pointer none] w fun e w' => e = .returned (.bool true) ∧ w = w' := by
  go_enter Try.func15, Try.ntmps15
  go_wp2
  go_ret
  exact ⟨rfl, rfl⟩

end Go.Proofs.Ytgaabclgoolalaa

/-
  A reader whose bytes lie below a place: what its Number does while there are so many bytes.
  Conditions: none.
-/
import Derived.Test.YtgaabclgoolalaaWire6
namespace Go.Proofs.Ytgaabclgoolalaa
open Go.RowKit

/-- A reader in block R that is not bad; its bytes lie below n₀. -/
def Rd (n₀ : Nat) (w : World) (R : Nat) (left : List (BitVec 8)) : Prop := ∃ v, w.heap[R]? = some (.cells #[v, .bool false] 74 (0, 0)) ∧ BytesAt n₀ w v left
theorem Rd.lt {n₀ : Nat} {w : World} {R : Nat} {left : List (BitVec 8)} (h : Rd n₀ w R left) : R < w.heap.size := by obtain ⟨v, h, _⟩ := h; exact blk_lt h
theorem Rd.at {n₀ : Nat} {w : World} {R : Nat} {left : List (BitVec 8)} (h : Rd n₀ w R left) (hn : n₀ ≤ w.heap.size) : ∃ v, ReaderAt w R v left false := by obtain ⟨v, h, hb⟩ := h; exact ⟨v, h, hb.mono hn⟩
theorem Rd.below {n₀ : Nat} {w w' : World} {R : Nat} {left : List (BitVec 8)} (h : Rd n₀ w R left) (hb : Below w.heap.size w w') (hn : n₀ ≤ w.heap.size) : Rd n₀ w' R left := by
  obtain ⟨v, h, hv⟩ := h
  exact ⟨v, (hb.block R (blk_lt h)).trans h, hv.below (hb.mono hn)⟩
/-- What taking leaves. -/
def TookR (n₀ R n : Nat) (left : List (BitVec 8)) (w : World) (e : Ending) (w' : World) : Prop := ∃ u, e = .returned u ∧ Moves (rS R) w w' ∧ BytesAt n₀ w' u (left.take n) ∧ Rd n₀ w' R (left.drop n)
theorem tookR_yes {n₀ R n : Nat} {w : World} {a : Option Addr} {l c : Nat} {left : List (BitVec 8)} (h : w.heap[R]? = some (.cells #[.slice a l c, .bool false] 74 (0, 0))) {u v' : Value} (hu : BytesAt n₀ w u (left.take n)) (hv : BytesAt n₀ w v' (left.drop n)) :
    TookR n₀ R n left w (.returned u) (w.setCell ⟨R, 0, none⟩ v') :=
  ⟨u, rfl, (Moves.refl (rS R) w).setCell (p := ⟨R, 0, none⟩) (fun _ => (rfl : R = R)) _, hu.beside (i := 0) (x := v') h, v', blk_set h 0 _, hv.beside (i := 0) (x := v') h⟩

set_option maxHeartbeats 1000000 in
theorem takeR_mid (n₀ R : Nat) (ad : Addr) (cap : Nat) (left : List (BitVec 8)) (n : Nat) (w : World) (hblk : w.heap[R]? = some (.cells #[.slice (some ad) left.length cap, .bool false] 74 (0, 0))) (hbytes : BytesAt n₀ w (.slice (some ad) left.length cap) left) (hn : n ≤ left.length) (hc : n < cap) (hl : left.length ≤ 1099511627776) :
    Calls Try.prog 31 #[.pointer (some ⟨R, 0, none⟩), .bool true, .int .i64 n] w (TookR n₀ R n left w) := by
  have c0 : w.cell? ⟨R, 0, none⟩ = some (.slice (some ad) left.length cap) := blk_cell hblk 0
  have f0 : w.frozen? ⟨R, 0, none⟩ = false := blk_frozen hblk 0
  have HF := Lib.hid (tookR_yes hblk (hbytes.pre n hn) (hbytes.suf n hn))
  have d : decide ((left.length : Int) < n) = false := by simp; omega
  have lc : left.length ≤ cap := by obtain ⟨_, _, e, h, _⟩ := hbytes; simp only [Value.slice.injEq] at e; omega
  have l1 : (left.length : Int) ≤ 1099511627776 := by omega
  have l2 : (left.length : Int) ≤ cap := by omega
  have n1 : (n : Int) ≤ left.length := by omega
  have n2 : (n : Int) < cap := by omega
  clear hblk hbytes
  go_enter Try.func31, Try.ntmps31
  go_wp2
  go_ret
  exact HF.out

set_option maxHeartbeats 1000000 in
theorem takeR_all (n₀ R : Nat) (ad : Addr) (left : List (BitVec 8)) (w : World) (hblk : w.heap[R]? = some (.cells #[.slice (some ad) left.length left.length, .bool false] 74 (0, 0))) (hbytes : BytesAt n₀ w (.slice (some ad) left.length left.length) left) (hl : left.length ≤ 1099511627776) :
    Calls Try.prog 31 #[.pointer (some ⟨R, 0, none⟩), .bool true, .int .i64 left.length] w (TookR n₀ R left.length left w) := by
  have c0 : w.cell? ⟨R, 0, none⟩ = some (.slice (some ad) left.length left.length) := blk_cell hblk 0
  have f0 : w.frozen? ⟨R, 0, none⟩ = false := blk_frozen hblk 0
  have HF := Lib.hid (tookR_yes (n := left.length) (v' := .slice (some ad) 0 0) hblk (by rw [List.take_length]; exact hbytes) (by rw [List.drop_length]; exact ⟨_, _, rfl, Nat.le_refl _, fun h => (by cases h), .inl rfl⟩))
  have l1 : (left.length : Int) ≤ 1099511627776 := by omega
  clear hblk hbytes
  go_enter Try.func31, Try.ntmps31
  go_wp2
  go_ret
  exact HF.out

theorem takeR_any (n₀ R n : Nat) (left : List (BitVec 8)) (w : World) (hr : Rd n₀ w R left) (h1 : 1 ≤ n) (hn : n ≤ left.length) (hl : left.length ≤ 1099511627776) :
    Calls Try.prog 31 #[.pointer (some ⟨R, 0, none⟩), .bool true, .int .i64 n] w (TookR n₀ R n left w) := by
  obtain ⟨v, hblk, hb⟩ := hr
  obtain ⟨a, cap, rfl, hc, h0', _⟩ := id hb
  cases a with
  | none =>
    obtain ⟨h1, h2, h3⟩ := hb.none_nil
    omega
  | some ad =>
    by_cases hkc : n < cap
    · exact takeR_mid n₀ R ad cap left n w hblk hb hn hkc hl
    · obtain rfl : n = left.length := by omega
      obtain rfl : cap = left.length := by omega
      exact takeR_all n₀ R ad left w hblk hb hl

set_option maxHeartbeats 2000000 in
theorem numberR_any (n₀ R k : Nat) (left : List (BitVec 8)) (w : World) (hr : Rd n₀ w R left) (hn0 : n₀ ≤ w.heap.size) (hk : mayB k = true) (hk1 : 1 ≤ k) (hk8 : k ≤ 8) (hn : k ≤ left.length) (hl : left.length ≤ 1099511627776) :
    Calls Try.prog 14 #[.pointer (some ⟨R, 0, none⟩), .int .i64 k] w fun e w' => e = .returned (.int .u64 (U (leOf (left.take k)))) ∧ Rd n₀ w' R (left.drop k) ∧ Moves (rS R) w w' := by
  have hb : Below w.heap.size w (w.alloc (.cells #[.int .i64 1, .int .i64 2, .int .i64 4, .int .i64 8] 3)) := (Below.refl _ _).alloc (Nat.le_refl _) _
  have hr1 := hr.below hb hn0
  have ht := takeR_any n₀ R k left _ hr1 hk1 hn hl
  have hlen : (left.take k).length ≤ 8 := by rw [List.length_take]; omega
  have HM := Lib.hid (may_yes k hk w)
  have HT := Lib.hid ht
  have HB := Lib.hid hb
  clear hr hr1 ht hb hk
  unfold TookR at HT
  generalize left.take k = bs at HT hlen ⊢
  generalize left.drop k = lb at HT ⊢
  have hs1 : (bs.length : Int) ≤ 8 := by omega
  clear hn hk1 hk8 hl
  go_enter Try.func14, Try.ntmps14
  go_wp2_with (first
    | (go_at_call 32; refine HM.out.mono ?_; rintro e w' ⟨rfl, rfl⟩)
    | (go_at_call 31; refine HT.out.mono ?_; rintro e w1 ⟨u, rfl, hm1, hu1, hr1⟩; have HU := Lib.hid hu1; have HR := Lib.hid hr1; have HM1 := Lib.hid hm1; obtain ⟨au, cu, rfl, hcu, _, hu⟩ := hu1; clear hr1 hm1 hcu))
  go_loop [14, 5] (fun iv nv => ∃ j : Nat, j ≤ bs.length ∧ iv = .int .i64 j ∧ nv = .int .u64 (U (leAcc bs j))) (fun iv _ => bs.length - (intOf iv).toNat)
  case atStart => exact ⟨0, Nat.zero_le _, rfl, rfl⟩
  case round =>
    obtain ⟨j, hj, rfl, rfl⟩ := hrel
    by_cases hlt : j < bs.length
    · rcases hu with h | ⟨g, off, rfl, hg, hc⟩
      · subst h; simp at hlt
      have c1 := hc j hlt
      clear hc
      have HL := Lib.hid (leAcc_succ bs j)
      generalize bs[j]?.getD 0 = b at c1 HL
      generalize leAcc bs j = q at HL ⊢
      go_wp2
      refine ⟨⟨j + 1, by omega, by go_num, ?_⟩, by simp [intOf]; omega⟩
      rw [HL.out, u8_in64 b, wrap_u64_U, shl_u64, or_u64]
    · obtain rfl : j = bs.length := by omega
      go_wp2
      go_ret
      exact ⟨rfl, HR.out, (Moves.of_below HB.out).trans HM1.out (fun _ _ h => h)⟩
end Go.Proofs.Ytgaabclgoolalaa

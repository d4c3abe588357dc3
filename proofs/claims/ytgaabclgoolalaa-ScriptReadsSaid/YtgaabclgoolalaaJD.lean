/-
  Joined: RefOf, Scr21, Scr29.
  Conditions: none.
-/
import Derived.Test.YtgaabclgoolalaaWire6
import Derived.Test.YtgaabclgoolalaaScr20
import Derived.Test.YtgaabclgoolalaaJU
import Derived.Test.YtgaabclgoolalaaScr10
import Derived.Deep.AppendLies
namespace Go.Proofs.Ytgaabclgoolalaa
open Go.RowKit

theorem of_step (q : BitVec 64) (b : BitVec 8) : IntKind.u64.wrap (IntKind.u64.wrap (256 * U q) + IntKind.u64.wrap (U b)) = U (256#64 * q + b.setWidth 64) := by
  unfold U
  rw [BitVec.toNat_add, BitVec.toNat_mul, BitVec.toNat_setWidth]
  simp [IntKind.wrap, IntKind.bits, IntKind.signed]

set_option maxHeartbeats 1000000 in
theorem refOf_any (n₀ : Nat) (bs : List (BitVec 8)) (v : Value) (w : World) (hv : BytesAt n₀ w v bs) (hl : bs.length ≤ 1099511627776) : Calls Try.prog 35 #[v] w fun e w' => e = .returned (.int .u64 (U (refOf bs))) ∧ w = w' := by
  obtain ⟨a, cap, rfl, _, _, hv⟩ := hv
  have l1 : (bs.length : Int) ≤ 1099511627776 := by omega
  go_enter Try.func35, Try.ntmps35
  go_wp2
  go_loop [3, 4] (fun nv iv => ∃ j : Nat, j ≤ bs.length ∧ iv = .int .i64 ((j : Int) - 1) ∧ nv = .int .u64 (U (refOf (bs.drop j)))) (fun _ iv => (intOf iv + 1).toNat)
  case atStart => exact ⟨bs.length, Nat.le_refl _, rfl, by rw [List.drop_length]; rfl⟩
  case round =>
    obtain ⟨j, hj, rfl, rfl⟩ := hrel
    by_cases hpos : 0 < j
    · obtain ⟨k, rfl⟩ : ∃ k, j = k + 1 := ⟨j - 1, by omega⟩
      rcases hv with h | ⟨g, off, rfl, hg, hc⟩
      · subst h; simp at hj
      have c1 := hc k (by omega)
      have HD : Hid (refOf (bs.drop k) = 256#64 * refOf (bs.drop (k + 1)) + (bs[k]?.getD 0).setWidth 64) := by
        unfold Hid
        rw [List.drop_eq_getElem_cons (show k < bs.length by omega), refOf]
        simp [show k < bs.length by omega]
      clear hc
      generalize bs[k]?.getD 0 = b at c1 HD
      generalize refOf (bs.drop (k + 1)) = q at HD
      have e1 : (((k + 1 : Nat) : Int) - 1) = k := by omega
      rw [e1]
      have hs := of_step q b
      have k0 : (0 : Int) ≤ k := by omega
      have k1 : (k : Int) < bs.length := by omega
      clear e1
      go_wp2
      exact ⟨⟨k, by omega, rfl, by rw [HD.out]⟩, by simp [intOf]⟩
    · obtain rfl : j = 0 := by omega
      rw [List.drop_zero]
      go_wp2
      go_ret
      exact ⟨rfl, rfl⟩

end Go.Proofs.Ytgaabclgoolalaa
namespace Go.Proofs.Ytgaabclgoolalaa
open Go.RowKit
attribute [local go_sem] Oper.semAt_some

/-- Where the document reads on: -1 where it may not. -/
def posOf (b : List (BitVec 8)) (s : RSt) : Int := if s.2 then -1 else b.length - s.1.length
/-- A reader's state is a place in the bytes. -/
def AtB (b : List (BitVec 8)) (s : RSt) : Prop := s = ([], true) ∨ ∃ a, a ≤ b.length ∧ s = (b.drop a, false)
theorem posOf_bad (b : List (BitVec 8)) : posOf b ([], true) = -1 := rfl
theorem posOf_at (b : List (BitVec 8)) (a : Nat) (h : a ≤ b.length) : posOf b (b.drop a, false) = a := by
  unfold posOf
  rw [List.length_drop]
  simp
  omega
set_option maxRecDepth 100000 in
set_option maxHeartbeats 2000000 in
theorem refTake_bad (a : Option Addr) (n c : Nat) (k : Int) (w : World) : Calls Try.prog 18 #[.slice a n c, .int .i64 (-1), .int .i64 k] w fun e w' => e = .returned (.tuple #[.int .u64 0, .int .i64 (-1)]) ∧ w = w' := by
  go_enter Try.func18, Try.ntmps18
  go_wp2
  go_ret2
  exact ⟨rfl, rfl⟩
set_option maxRecDepth 100000 in
set_option maxHeartbeats 2000000 in
theorem refTake_short (a : Option Addr) (n c at_ k : Nat) (w : World) (h : n < at_ + k) (h1 : at_ ≤ n) (hn : n ≤ 1099511627776) : Calls Try.prog 18 #[.slice a n c, .int .i64 at_, .int .i64 k] w fun e w' => e = .returned (.tuple #[.int .u64 0, .int .i64 (-1)]) ∧ w = w' := by
  have h2 : ¬ (at_ : Int) < 0 := by omega
  have h3 : (n : Int) - at_ < k := by omega
  have h4 : IntKind.i64.wrap ((n : Int) - at_) = (n : Int) - at_ := by rw [wrapI]; unfold wrap64; omega
  clear h h1 hn
  go_enter Try.func18, Try.ntmps18
  go_wp2
  go_ret2
  exact ⟨rfl, rfl⟩
set_option maxRecDepth 100000 in
set_option maxHeartbeats 2000000 in
theorem refTake_yes (n₀ : Nat) (b : List (BitVec 8)) (v : Value) (at_ k : Nat) (w : World) (hv : BytesAt n₀ w v b) (h : at_ + k ≤ b.length) (hk : 0 < k) (hn : b.length ≤ 1099511627776) : Calls Try.prog 18 #[v, .int .i64 at_, .int .i64 k] w fun e w' => e = .returned (.tuple #[.int .u64 (U (refOf ((b.drop at_).take k))), .int .i64 ((at_ : Int) + k)]) ∧ w = w' := by
  have hvv := hv
  obtain ⟨a, c, rfl, hc, h0, hb⟩ := hv
  rcases hb with hb | ⟨g, off, rfl, hg, hb⟩
  · rw [hb] at h; simp at h; omega
  · have hp := (hvv.suf at_ (by omega)).pre k (by rw [List.length_drop]; omega)
    have hp : BytesAt n₀ w (.slice (some ⟨g, off + at_, none⟩) k (c - at_)) ((b.drop at_).take k) := by rwa [Addr.add_mid] at hp
    have HOF := Lib.hid (refOf_any n₀ _ _ w hp (by rw [List.length_take, List.length_drop]; omega))
    have h2 : ¬ (at_ : Int) < 0 := by omega
    have h3 : ¬ (b.length : Int) - at_ < k := by omega
    have h4 : IntKind.i64.wrap ((b.length : Int) - at_) = (b.length : Int) - at_ := by rw [wrapI]; unfold wrap64; omega
    have h5 : IntKind.i64.wrap ((at_ : Int) + k) = (at_ : Int) + k := by rw [wrapI]; unfold wrap64; omega
    have h6 : ¬ c = at_ := by omega
    have h7 : (at_ : Int) + k ≤ c := by omega
    have h8 : (at_ : Int) ≤ at_ + k := by omega
    have h9 : ((at_ : Int) + k).toNat = at_ + k := by omega
    have h10 : at_ + k - at_ = k := by omega
    generalize refOf ((b.drop at_).take k) = q at HOF ⊢
    clear hvv hp hb h hk hn
    go_enter Try.func18, Try.ntmps18
    go_wp2_with (go_at_call 35; (with_reducible refine HOF.out.mono ?_); rintro e w1 ⟨rfl, rfl⟩)
    go_ret2
    exact ⟨rfl, rfl⟩
theorem rNum_of_bad (k : Nat) (hk : 0 < k) : rNum ([], true) k = (0, ([], true)) := by
  have ht : tookN [] (mayB k) (k : Int) = none := by
    unfold tookN
    rw [if_neg (by simp; omega)]
  unfold rNum rdN rdL rdB
  dsimp only
  rw [ht]
  rfl
theorem rNum_of_short (k : Nat) (l : List (BitVec 8)) (hk : l.length < k) : rNum (l, false) k = (0, ([], true)) := by
  have ht : tookN l (mayB k) (k : Int) = none := by
    unfold tookN
    rw [if_neg (by omega)]
  unfold rNum rdN rdL rdB
  dsimp only
  rw [ht]
  rfl
theorem took_k' {l : List (BitVec 8)} {k : Nat} (h : k ≤ l.length) : tookN l true k = some k := by
  unfold tookN
  rw [if_pos ⟨rfl, by omega, by omega⟩]
  simp
theorem rNum_of_yes (k : Nat) (hm : mayB k = true) (l : List (BitVec 8)) (hk : k ≤ l.length) : rNum (l, false) k = (leOf (l.take k), (l.drop k, false)) := by
  unfold rNum rdN rdL rdB
  dsimp only
  rw [hm, took_k' hk]
  rfl
theorem rNum_atB {b : List (BitVec 8)} {s : RSt} (k : Nat) (hm : mayB k = true) (hk : 0 < k) (h : AtB b s) : AtB b (rNum s k).2 := by
  rcases h with rfl | ⟨a, ha, rfl⟩
  · rw [rNum_of_bad k hk]; exact .inl rfl
  · by_cases hl : k ≤ (b.drop a).length
    · rw [rNum_of_yes k hm _ hl]
      rw [List.length_drop] at hl
      exact .inr ⟨a + k, by omega, by simp [List.drop_drop]⟩
    · rw [rNum_of_short k _ (by omega)]; exact .inl rfl
/-- The document's take. -/
theorem refTake20 {n₀ : Nat} {b : List (BitVec 8)} {v : Value} {w : World} (hv : BytesAt n₀ w v b) (hn : b.length ≤ 1099511627776) {s : RSt} (h : AtB b s) (k : Nat) (hm : mayB k = true) (hk : 0 < k) (hk8 : k ≤ 8) :
    Calls Try.prog 18 #[v, .int .i64 (posOf b s), .int .i64 k] w fun e w' => e = .returned (.tuple #[.int .u64 (U (rNum s k).1), .int .i64 (posOf b (rNum s k).2)]) ∧ w = w' := by
  rcases h with rfl | ⟨a, ha, rfl⟩
  · obtain ⟨a', c', rfl, _⟩ := hv
    rw [rNum_of_bad k hk]
    exact refTake_bad a' b.length c' k w
  · rw [posOf_at b a ha]
    by_cases hl : k ≤ (b.drop a).length
    · rw [rNum_of_yes k hm _ hl]
      rw [List.length_drop] at hl
      have h1 := refTake_yes n₀ b v a k w hv (by omega) hk hn
      rw [refOf_eq _ (by rw [List.length_take]; omega)] at h1
      have e : posOf b ((b.drop a).drop k, false) = (a : Int) + k := by
        rw [List.drop_drop, posOf_at b (a + k) (by omega)]
        simp
      dsimp only
      rw [e]
      exact h1
    · obtain ⟨a', c', rfl, _⟩ := hv
      rw [rNum_of_short k _ (by omega)]
      rw [List.length_drop] at hl
      exact refTake_short a' b.length c' a k w (by omega) ha hn
theorem rTxt_atB {b : List (BitVec 8)} {s : RSt} (h : AtB b s) : AtB b (rTxt s).2 := by
  have h2 := rNum_atB 2 rfl (by omega) h
  have h2 : AtB b (rNum s 2).2 := h2
  unfold rTxt
  generalize U (rNum s 2).1 = k
  generalize (rNum s 2).2 = s2 at h2
  unfold rRaw tookN
  split
  · rename_i hh
    rcases h2 with rfl | ⟨a, ha, rfl⟩
    · exact .inl (by simp [leftB, badB])
    · obtain ⟨_, h0, h1⟩ := hh
      dsimp only at h1
      rw [List.length_drop] at h1
      refine .inr ⟨a + k.toNat, by omega, ?_⟩
      simp [leftB, badB, List.drop_drop]
  · exact .inl rfl
set_option maxRecDepth 100000 in
set_option maxHeartbeats 4000000 in
/-- The document's text. -/
theorem refText20_any {n₀ : Nat} {b : List (BitVec 8)} {v : Value} {w : World} (hv : BytesAt n₀ w v b) (hn : b.length ≤ 1099511627776) {s : RSt} (h : AtB b s) :
    Calls Try.prog 20 #[v, .int .i64 (posOf b s)] w fun e w' => e = .returned (.tuple #[.string (strB (rTxt s).1), .int .i64 (posOf b (rTxt s).2)]) ∧ w = w' := by
  have HT : Hid (Calls Try.prog 18 #[v, .int .i64 (posOf b s), .int .i64 2] w fun e w' => e = .returned (.tuple #[.int .u64 (U (rNum s 2).1), .int .i64 (posOf b (rNum s 2).2)]) ∧ w = w') := refTake20 hv hn h 2 rfl (by omega) (by omega)
  have h2 : AtB b (rNum s 2).2 := rNum_atB 2 rfl (by omega) h
  have hlt : U (rNum s 2).1 < 65536 := leOf_lt _ (by
    unfold tookN
    split
    · simp [takenB]; omega
    · simp [takenB])
  have hge := U_nonneg (rNum s 2).1
  have h3 : (rNum s 2).2 = ([], true) → U (rNum s 2).1 = 0 := fun e => by
    rcases h with rfl | ⟨a, ha, rfl⟩
    · rw [show rNum ([], true) (2 : Int) = _ from rNum_of_bad 2 (by omega)]; rfl
    · by_cases hl : 2 ≤ (b.drop a).length
      · have := rNum_of_yes 2 rfl (b.drop a) hl
        rw [show rNum (b.drop a, false) 2 = _ from this] at e
        exact absurd (congrArg Prod.snd e) (by simp)
      · rw [show rNum (b.drop a, false) 2 = _ from rNum_of_short 2 _ (by omega)]; rfl
  have h3b : (rNum s 2).2.2 = false → b ≠ [] := fun e hb => by
    subst hb
    rcases h with rfl | ⟨a, ha, rfl⟩
    · rw [show rNum ([], true) (2 : Int) = _ from rNum_of_bad 2 (by omega)] at e; cases e
    · rw [show rNum (([] : List (BitVec 8)).drop a, false) 2 = _ from rNum_of_short 2 _ (by simp)] at e; cases e
  unfold rTxt
  generalize (rNum s 2).1 = q at HT hlt hge h3 ⊢
  generalize (rNum s 2).2 = s2 at HT h2 h3 h3b ⊢
  have hvv := hv
  obtain ⟨a0, c0, rfl, hc0, hz0, hb0⟩ := hv
  obtain ⟨k, hk⟩ : ∃ k : Nat, U q = k := Int.eq_ofNat_of_zero_le hge
  rcases h2 with rfl | ⟨a, ha, rfl⟩
  · have hk0 : U q = 0 := h3 rfl
    have hr : rRaw ([], true) (U q) = ([], ([], true)) := by rw [hk0]; rfl
    rw [hr]
    rw [posOf_bad] at HT ⊢
    clear hlt hge h3 h3b hk hr hk0 hb0
    go_enter Try.func20, Try.ntmps20
    go_wp2_with (go_at_call 18; (with_reducible refine HT.out.mono ?_); rintro e w1 ⟨rfl, rfl⟩)
    go_ret2
    exact ⟨rfl, rfl⟩
  · rw [posOf_at b a ha] at HT
    rw [hk] at HT ⊢
    have hkk : IntKind.i64.wrap (k : Int) = k := by rw [wrapI]; unfold wrap64; omega
    have h4 : IntKind.i64.wrap ((b.length : Int) - a) = (b.length : Int) - a := by rw [wrapI]; unfold wrap64; omega
    have h5 : ¬ (a : Int) < 0 := by omega
    by_cases hl : k ≤ (b.drop a).length
    · have hr : rRaw (b.drop a, false) k = ((b.drop a).take k, ((b.drop a).drop k, false)) := by
        unfold rRaw
        dsimp only
        rw [took_k' hl]
        rfl
      rw [hr]
      dsimp only
      rw [List.length_drop] at hl
      rw [List.drop_drop, posOf_at b (a + k) (by omega)]
      have hak : ((a + k : Nat) : Int) = (a : Int) + k := by simp
      rw [hak]
      have h6 : ¬ (b.length : Int) - a < k := by omega
      have h7 : IntKind.i64.wrap ((a : Int) + k) = (a : Int) + k := by rw [wrapI]; unfold wrap64; omega
      have h8 : (a : Int) + k ≤ c0 := by omega
      have h9 : (a : Int) ≤ a + k := by omega
      have h10 : ((a : Int) + k).toNat = a + k := by omega
      have h11 : a + k - a = k := by omega
      rcases hb0 with hb0 | ⟨g, off, rfl, hg, hb0⟩
      · exact absurd hb0 (h3b rfl)
      · by_cases hca : c0 = a
        · obtain rfl : k = 0 := by omega
          have hp : BytesAt n₀ w (.slice (some ⟨g, off, none⟩) 0 0) [] := ⟨_, _, rfl, Nat.le_refl _, fun h => (by cases h), .inl rfl⟩
          have hcv := conv_str hp
          subst hca
          rw [List.take_zero]
          generalize strB [] = S at hcv ⊢
          clear hvv hp hb0 hr hak hlt hge h3 h3b hl hg
          go_enter Try.func20, Try.ntmps20
          go_wp2_with (go_at_call 18; (with_reducible refine HT.out.mono ?_); rintro e w1 ⟨rfl, rfl⟩)
          go_ret2
          exact ⟨by simp, rfl⟩
        have hp := (hvv.suf a ha).pre k (by rw [List.length_drop]; omega)
        have hp : BytesAt n₀ w (.slice (some ⟨g, off + a, none⟩) k (c0 - a)) ((b.drop a).take k) := by rwa [Addr.add_mid] at hp
        have hcv := conv_str hp
        generalize strB ((b.drop a).take k) = S at hcv ⊢
        clear hvv hp hb0 hr hak hlt hge h3 h3b hl hg
        go_enter Try.func20, Try.ntmps20
        go_wp2_with (go_at_call 18; (with_reducible refine HT.out.mono ?_); rintro e w1 ⟨rfl, rfl⟩)
        go_ret2
        exact ⟨rfl, rfl⟩
    · have hr : rRaw (b.drop a, false) k = ([], ([], true)) := by
        unfold rRaw tookN
        dsimp only
        rw [if_neg (by omega)]
        rfl
      rw [hr]
      rw [List.length_drop] at hl
      have h6 : (b.length : Int) - a < k := by omega
      rw [posOf_bad]
      clear hlt hge h3 h3b hr hb0 hl
      go_enter Try.func20, Try.ntmps20
      go_wp2_with (go_at_call 18; (with_reducible refine HT.out.mono ?_); rintro e w1 ⟨rfl, rfl⟩)
      go_ret2
      exact ⟨rfl, rfl⟩
end Go.Proofs.Ytgaabclgoolalaa
namespace Go.Proofs.Ytgaabclgoolalaa
open Go.RowKit
attribute [local go_sem] Oper.semAt_some

def docC (x : SAct) (a3 : Option Addr) (c3 : Nat) : Array Value := #[.int .i64 x.kind, .string (strB x.key), .string (strB x.val), .int .i64 x.num, .slice a3 x.nums.length c3]
/-- The i-th act of a row's cells. -/
def DElAt (W : World) (cs : List Value) (i : Nat) (x : SAct) : Prop := ∃ a3 c3, (cs[i * 5]? = some (.int .i64 x.kind) ∧ cs[i * 5 + 1]? = some (.string (strB x.key)) ∧ cs[i * 5 + 2]? = some (.string (strB x.val)) ∧ cs[i * 5 + 3]? = some (.int .i64 x.num) ∧ cs[i * 5 + 4]? = some (.slice a3 x.nums.length c3)) ∧ IntsT W (.slice a3 x.nums.length c3) x.nums
def DOfAt (n₀ : Nat) (W : World) (v : Value) (l : List SAct) : Prop := ∃ cs, W.ownsRow n₀ 54 5 v l.length cs ∧ ∀ i, i < l.length → DElAt W cs i (l[i]?.getD default)
theorem DOfAt.on {n₀ : Nat} {W W' : World} {v : Value} {l : List SAct} (h : DOfAt n₀ W v l) (hb : Below W.heap.size W W') : DOfAt n₀ W' v l := by
  obtain ⟨cs, ho, he⟩ := h
  refine ⟨cs, (Moves.of_below (S := fun _ => False) hb).row ho (fun _ _ f => f), fun i hi => ?_⟩
  obtain ⟨a3, c3, h0, k3⟩ := he i hi
  exact ⟨a3, c3, h0, k3.on hb⟩
theorem DOfAt.nil (n₀ : Nat) (W : World) : DOfAt n₀ W (.slice none 0 0) [] := ⟨[], World.ownsRow_nil _ _ _ _, fun i hi => absurd hi (by simp)⟩
theorem DOfAt.slice {n₀ : Nat} {W : World} {v : Value} {l : List SAct} (h : DOfAt n₀ W v l) : ∃ a c, v = .slice a l.length c := by
  obtain ⟨cs, ho, _⟩ := h
  exact owns_slice ho
theorem DOfAt.docs {n₀ : Nat} {W : World} {v : Value} {l : List SAct} (h : DOfAt n₀ W v l) : DocsAt W.heap.size W v l := by
  obtain ⟨cs, ho, he⟩ := h
  rcases ho.2 with ⟨rfl, h0⟩ | ⟨g, cap, cur, rfl, _, hg, hc, _, hcs, htk⟩
  · have : l = [] := List.eq_nil_of_length_eq_zero h0
    subst this
    exact ⟨_, _, rfl, Nat.zero_le _, .inl rfl⟩
  · refine ⟨_, cap, rfl, hc, .inr ⟨g, 0, rfl, blk_lt hg, fun i hi => ?_⟩⟩
    obtain ⟨a3, c3, ⟨h0, h1, h2, h3, h4⟩, k3⟩ := he i hi
    have rd : ∀ j u, cs[j]? = some u → W.cell? ⟨g, j, none⟩ = some u := fun j u hu => by
      rw [blk_cell hg, ← hu, ← htk, List.getElem?_take]
      have hj : j < cs.length := (List.getElem?_eq_some_iff.1 hu).1
      rw [ho.1] at hj
      rw [if_pos hj]
      simp
    rw [Nat.zero_add]
    exact ⟨a3, c3, ⟨rd _ _ h0, rd _ _ h1, rd _ _ h2, rd _ _ h3, rd _ _ h4⟩, k3.1⟩
theorem DOfAt.app {n₀ : Nat} {W W' : World} {v v' : Value} {l : List SAct} {cs : List Value} {x : SAct} {a3 : Option Addr} {c3 : Nat} (ho : W.ownsRow n₀ 54 5 v l.length cs) (he : ∀ i, i < l.length → DElAt W cs i (l[i]?.getD default))
    (h3 : IntsT W (.slice a3 x.nums.length c3) x.nums) (hg : W.grownBy W' v.ownBlock)
    (ho' : W'.ownsRow n₀ 54 5 v' (l.length + 1) (cs ++ (docC x a3 c3).toList)) : DOfAt n₀ W' v' (l ++ [x]) := by
  have hlen := ho.1
  refine ⟨_, by rw [List.length_append, List.length_singleton]; exact ho', fun i hi => ?_⟩
  rw [List.length_append, List.length_singleton] at hi
  have hn2 : 54 ≠ 3 := by decide
  by_cases hil : i < l.length
  · obtain ⟨b3, d3, ⟨q0, q1, q2, q3, q4⟩, k3⟩ := he i hil
    rw [List.getElem?_append_left hil]
    refine ⟨b3, d3, ⟨?_, ?_, ?_, ?_, ?_⟩, k3.grown ho hn2 hg⟩
    · rw [List.getElem?_append_left (by omega)]; exact q0
    · rw [List.getElem?_append_left (by omega)]; exact q1
    · rw [List.getElem?_append_left (by omega)]; exact q2
    · rw [List.getElem?_append_left (by omega)]; exact q3
    · rw [List.getElem?_append_left (by omega)]; exact q4
  · obtain rfl : i = l.length := by omega
    rw [List.getElem?_append_right (Nat.le_refl _), Nat.sub_self]
    refine ⟨a3, c3, ⟨?_, ?_, ?_, ?_, ?_⟩, h3.grown ho hn2 hg⟩
    · rw [List.getElem?_append_right (by omega), show l.length * 5 - cs.length = 0 by omega]; rfl
    · rw [List.getElem?_append_right (by omega), show l.length * 5 + 1 - cs.length = 1 by omega]; rfl
    · rw [List.getElem?_append_right (by omega), show l.length * 5 + 2 - cs.length = 2 by omega]; rfl
    · rw [List.getElem?_append_right (by omega), show l.length * 5 + 3 - cs.length = 3 by omega]; rfl
    · rw [List.getElem?_append_right (by omega), show l.length * 5 + 4 - cs.length = 4 by omega]; rfl
theorem infoDoc : (Try.prog.info? 54).map (fun i => (i.zero, i.size, i.bytes)) = some (some (.agg #[.int .i64 0, .string ⟨#[]⟩, .string ⟨#[]⟩, .int .i64 0, .slice none 0 0]), 5, 72) := by kernel_rfl
/-- Where a round of the document's Unpack is: its act in the block behind wr, what a kind has in block Y. -/
structure DB (wr : World) (k v u : Bool) (Y : Nat) (x : SAct) (a3 : Option Addr) (c3 : Nat) (W : World) : Prop where
  bel : Below wr.heap.size wr W
  act : W.heap[wr.heap.size]? = some (.cells (docC x a3 c3) 54 (0, 0))
  has : W.heap[Y]? = some (.cells #[.bool k, .bool v, .bool u] 55 (0, 0))
  row : W.ownsRow wr.heap.size 3 1 (.slice a3 x.nums.length c3) x.nums.length (ints x.nums)
section
variable {wr W W' : World} {k v u : Bool} {Y : Nat} {x : SAct} {a3 : Option Addr} {c3 : Nat}
theorem DB.on (h : DB wr k v u Y x a3 c3 W) (hb : Below W.heap.size W W') : DB wr k v u Y x a3 c3 W' :=
  ⟨h.bel.trans (hb.mono h.bel.size), (hb.block _ (blk_lt h.act)).trans h.act, (hb.block _ (blk_lt h.has)).trans h.has, (Moves.of_below (S := fun _ => False) hb).row h.row (fun _ _ f => f)⟩
theorem DB.cells (h : DB wr k v u Y x a3 c3 W) :
    (W.cell? ⟨wr.heap.size, 0, none⟩ = some (.int .i64 x.kind) ∧ W.cell? ⟨wr.heap.size, 1, none⟩ = some (.string (strB x.key)) ∧ W.cell? ⟨wr.heap.size, 2, none⟩ = some (.string (strB x.val)) ∧ W.cell? ⟨wr.heap.size, 3, none⟩ = some (.int .i64 x.num) ∧ W.cell? ⟨wr.heap.size, 4, none⟩ = some (.slice a3 x.nums.length c3)) ∧
    (W.cell? ⟨Y, 0, none⟩ = some (.bool k) ∧ W.cell? ⟨Y, 1, none⟩ = some (.bool v) ∧ W.cell? ⟨Y, 2, none⟩ = some (.bool u)) ∧
    (W.frozen? ⟨wr.heap.size, 0, none⟩ = false ∧ W.frozen? ⟨wr.heap.size, 1, none⟩ = false ∧ W.frozen? ⟨wr.heap.size, 2, none⟩ = false ∧ W.frozen? ⟨wr.heap.size, 3, none⟩ = false ∧ W.frozen? ⟨wr.heap.size, 4, none⟩ = false) :=
  ⟨⟨blk_cell h.act 0, blk_cell h.act 1, blk_cell h.act 2, blk_cell h.act 3, blk_cell h.act 4⟩, ⟨blk_cell h.has 0, blk_cell h.has 1, blk_cell h.has 2⟩, ⟨blk_frozen h.act 0, blk_frozen h.act 1, blk_frozen h.act 2, blk_frozen h.act 3, blk_frozen h.act 4⟩⟩
/-- A field other than the numbers is written. -/
theorem DB.set (h : DB wr k v u Y x a3 c3 W) (i : Nat) (p : Value) {x' : SAct} (he : (docC x a3 c3).setIfInBounds i p = docC x' a3 c3) (hn : x'.nums = x.nums) : DB wr k v u Y x' a3 c3 (W.setCell ⟨wr.heap.size, i, none⟩ p) := by
  have hne : ∀ q, q ≠ wr.heap.size → (W.setCell ⟨wr.heap.size, i, none⟩ p).heap[q]? = W.heap[q]? := fun q hq => Below.heap_setCell W ⟨wr.heap.size, i, none⟩ p q hq
  refine ⟨h.bel.setCell (p := ⟨wr.heap.size, i, none⟩) (Nat.le_refl _) p, ?_, (hne _ (blk_ne h.has h.act (by decide))).trans h.has, ?_⟩
  · rw [← he]; exact blk_set h.act i p
  · rw [hn]
    exact (set_moves (W := W) wr.heap.size i p).row h.row (fun q hq e => own_ne h.row h.act (by decide) (by rw [hq, show q = wr.heap.size from e]))
/-- A number more. -/
theorem DB.grown (h : DB wr k v u Y x a3 c3 W) {y : Int} {b3 : Option Addr} {d3 n : Nat} (hn : n = (x.nums ++ [y]).length) (hg : W.grownBy W' (Value.slice a3 x.nums.length c3).ownBlock) (ho : W'.ownsRow wr.heap.size 3 1 (.slice b3 n d3) n (ints (x.nums ++ [y]))) :
    DB wr k v u Y { x with nums := x.nums ++ [y] } b3 d3 (W'.setCell ⟨wr.heap.size, 4, none⟩ (.slice b3 n d3)) := by
  subst hn
  have hb1 : W'.heap[wr.heap.size]? = some (.cells (docC x a3 c3) 54 (0, 0)) := blk_keep h.act hg (own_ne h.row h.act (by decide))
  have hb2 : W'.heap[Y]? = some (.cells #[.bool k, .bool v, .bool u] 55 (0, 0)) := blk_keep h.has hg (own_ne h.row h.has (by decide))
  have hne : ∀ q, q ≠ wr.heap.size → (W'.setCell ⟨wr.heap.size, 4, none⟩ (.slice b3 (x.nums ++ [y]).length d3)).heap[q]? = W'.heap[q]? := fun q hq => Below.heap_setCell W' ⟨wr.heap.size, 4, none⟩ _ q hq
  refine ⟨(h.bel.grown hg h.bel.size (fun q e => (h.row.lt q e).1)).setCell (p := ⟨wr.heap.size, 4, none⟩) (Nat.le_refl _) _, blk_set hb1 4 _, (hne _ (blk_ne hb2 hb1 (by decide))).trans hb2, ?_⟩
  exact (set_moves (W := W') wr.heap.size 4 _).row ho (fun q hq e => own_ne ho hb1 (by decide) (by rw [hq, show q = wr.heap.size from e]))
end
end Go.Proofs.Ytgaabclgoolalaa

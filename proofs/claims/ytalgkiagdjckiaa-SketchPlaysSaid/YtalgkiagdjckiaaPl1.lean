/-
  The law SketchPlays: the sketch of bytes that Pack made; what a round keeps.
  Conditions: none.
-/
import Derived.Test.YtalgkiagdjckiaaRk7
import Derived.Test.YtalgkiagdjckiaaSk12
import Derived.Test.YtalgkiagdjckiaaUnMath
import Derived.Test.YtalgkiagdjckiaaWords
namespace Go.Proofs.Ytalgkiagdjckiaa
open Go.RowKit

theorem pl_n {n k : Nat} (h : n < 256 ^ k) (h8 : k ≤ 7) : (BitVec.ofNat 64 n).toNat % 256 ^ k = n := by
  have h1 : 256 ^ k ≤ 256 ^ 7 := Nat.pow_le_pow_right (by decide) h8
  have h2 : (256 ^ 7 : Nat) = 72057594037927936 := by decide
  rw [BitVec.toNat_ofNat, Nat.mod_eq_of_lt (show n < 2 ^ 64 by omega), Nat.mod_eq_of_lt h]
theorem pk_take (N age : Nat) (C : Nat → Nat → Nat) : (packS N age C).take 2 = leB 2 (BitVec.ofNat 64 N) ∧ ((packS N age C).drop 2).take 4 = leB 4 (BitVec.ofNat 64 age) ∧ (packS N age C).drop 6 = pkTo C (N / 2) 4 := by
  have l2 : (leB 2 (BitVec.ofNat 64 N)).length = 2 := leB_len _ _
  have l4 : (leB 4 (BitVec.ofNat 64 age)).length = 4 := leB_len _ _
  unfold packS pkHead
  rw [List.append_assoc]
  refine ⟨List.take_left' l2, ?_, ?_⟩
  · rw [List.drop_left' l2]
    exact List.take_left' l4
  · rw [← List.append_assoc]
    exact List.drop_left' (by rw [List.length_append, l2, l4])
theorem unW_pack {N age : Nat} (C : Nat → Nat → Nat) (hN : N ≤ 4096) : unW (packS N age C) = N := by
  unfold unW
  rw [(pk_take N age C).1, leNat_leB]
  exact pl_n (Nat.lt_of_le_of_lt hN (by decide)) (by decide)
theorem unA_pack {N age : Nat} (C : Nat → Nat → Nat) (hA : age ≤ 40960) : unA (packS N age C) = age := by
  unfold unA
  rw [(pk_take N age C).2.1, leNat_leB]
  exact pl_n (Nat.lt_of_le_of_lt hA (by decide)) (by decide)
theorem unOk_pack {N age : Nat} {C : Nat → Nat → Nat} (hW : WideOk N) (hA : age < 10 * N) : UnOk (packS N age C) := by
  have hN := hW.le
  obtain ⟨M, hM, _, _⟩ := hW.even
  unfold UnOk
  rw [unW_pack C hN.2, unA_pack C (by omega), packS_len]
  exact ⟨by omega, hW, hA, by omega⟩
theorem cnTo_pack {N age : Nat} {C : Nat → Nat → Nat} (hW : WideOk N) (hC : ∀ r j, C r j ≤ 15) {s i : Nat} (hs : s < 4) (hi : i < N) : cnTo ((packS N age C).drop 6) (N / 2) 4 0 s i = C s i := by
  obtain ⟨M, hM, hM1, hM2⟩ := hW.even
  have eM : N / 2 = M := by omega
  rw [(pk_take N age C).2.2, eM]
  unfold cnTo
  rw [if_pos ⟨hs, by omega, .inl hs⟩]
  unfold cntB
  have hk : i / 2 < M := by omega
  have hq : s * M + i / 2 < 4 * M := by
    have : s * M ≤ 3 * M := Nat.mul_le_mul_right M (by omega)
    omega
  have e1 : (s * M + i / 2) / M = s := by rw [Nat.mul_comm, Nat.mul_add_div (by omega), Nat.div_eq_of_lt hk, Nat.add_zero]
  have e2 : (s * M + i / 2) % M = i / 2 := by rw [Nat.mul_comm, Nat.mul_add_mod, Nat.mod_eq_of_lt hk]
  have hb : ((pkTo C M 4)[s * M + i / 2]?.getD 0).toNat = C s (2 * (i / 2)) + 16 * C s (2 * (i / 2) + 1) := by
    rw [pkTo_range C (by omega) 4, List.getElem?_map, List.getElem?_range hq]
    simp only [Option.map_some, Option.getD_some]
    rw [e1, e2]
    unfold pkB
    have a1 := hC s (2 * (i / 2))
    have a2 := hC s (2 * (i / 2) + 1)
    rw [BitVec.toNat_ofNat]
    omega
  have a1 := hC s (2 * (i / 2))
  have a2 := hC s (2 * (i / 2) + 1)
  rw [hb]
  by_cases h2 : i % 2 = 0
  · rw [if_pos h2]
    have : 2 * (i / 2) = i := by omega
    rw [this] at a1 ⊢
    omega
  · rw [if_neg h2]
    have : 2 * (i / 2) + 1 = i := by omega
    rw [this] at a2 ⊢
    omega
/-- What the law's round keeps: a sketch G, a document's sketch in the box D. -/
structure Pl (w : World) (D T N G : Nat) (b : Nat → Nat) (aS : Nat) (CS : Nat → Nat → Nat) (aR : Nat) (CR : Nat → Nat → Nat) (a : Option Addr) (c : Nat) (l : List Int) (W : World) : Prop where
  tt : 4 * N = T
  sk : SkAt W G b N aS CS
  box : W.heap[D]? = some (.cells (rkC N (aR : Int) (.slice a T c)) 30 (0, 0))
  rf : RfIs W.heap.size W a c N l CR
  below : Below w.heap.size w W
  out : ∀ i, SkS G b i → w.heap.size ≤ i
  dd : w.heap.size ≤ D
section
variable {w W W' : World} {D T N G : Nat} {b : Nat → Nat} {aS aR : Nat} {CS CR : Nat → Nat → Nat} {a : Option Addr} {c : Nat} {l : List Int}
theorem Pl.same (h : Pl w D T N G b aS CS aR CR a c l W) (hb : Below W.heap.size W W') : Pl w D T N G b aS CS aR CR a c l W' :=
  ⟨h.tt, h.sk.same hb, (hb.block _ (blk_lt h.box)).trans h.box, (h.rf.below hb).moved hb.size fun _ _ _ _ => rfl, h.below.trans (hb.mono h.below.size), h.out, h.dd⟩
theorem Pl.not_box (h : Pl w D T N G b aS CS aR CR a c l W) : ¬ SkS G b D := by
  rintro (e | ⟨r, hr, e⟩)
  · exact blk_ne h.box h.sk.blk (by decide) e
  · exact blk_ne h.box (h.sk.row r hr) (by decide) e
theorem Pl.not_row (h : Pl w D T N G b aS CS aR CR a c l W) {g off : Nat} (e : a = some ⟨g, off, none⟩) : ¬ SkS G b g ∧ g ≠ D := by
  obtain ⟨cs, z, hc⟩ := h.rf.typ g off e
  refine ⟨?_, fun e' => by rw [e', h.box] at hc; cases hc⟩
  rintro (e' | ⟨r, hr, e'⟩)
  · rw [e', h.sk.blk] at hc; cases hc
  · rw [e', h.sk.row r hr] at hc; cases hc
theorem Pl.sketch (h : Pl w D T N G b aS CS aR CR a c l W) (hm : Moves (SkS G b) W W') {aS' : Nat} {CS' : Nat → Nat → Nat} (hS : SkAt W' G b N aS' CS') : Pl w D T N G b aS' CS' aR CR a c l W' :=
  ⟨h.tt, hS, (hm.block _ (blk_lt h.box) h.not_box).trans h.box, h.rf.moved hm.size fun g _off e hg => hm.block g hg (h.not_row e).1, (h.below.trans (Below.refl _ _)).trans ((Below.refl _ _).trans (hm.below (B := w.heap.size) h.out h.below.size)), h.out, h.dd⟩
theorem Pl.put (h : Pl w D T N G b aS CS aR CR a c l W) {a' : Option Addr} {c' aR' : Nat} {l' : List Int} {CR' : Nat → Nat → Nat} (hr : RfIs W.heap.size W a' c' N l' CR') : Pl w D T N G b aS CS aR' CR' a' c' l' (W.setRow D (rkC N (aR' : Int) (.slice a' T c'))) := by
  have hn : ∀ i, SkS G b i → i ≠ D := fun i hi e => h.not_box (e ▸ hi)
  refine ⟨h.tt, h.sk.moved (setRow_other1 _ _ _ _ (hn _ (.inl rfl))) (fun r hr => setRow_other1 _ _ _ _ (hn _ (.inr ⟨r, hr, rfl⟩))), setRow_heap1 _ _ _ _ _ _ h.box, hr.moved ?_ fun g off e _hg => ?_, below_setRow1 h.below h.dd _, h.out, h.dd⟩
  · simp [World.setRow]
  · obtain ⟨cs, z, hc⟩ := hr.typ g off e
    exact setRow_other1 _ _ _ _ (fun e' => by rw [e', h.box] at hc; cases hc)
theorem Pl.other (h : Pl w D T N G b aS CS aR CR a c l W) {G' : Nat} {b' : Nat → Nat} {aS' : Nat} {CS' : Nat → Nat → Nat} (hS : SkAt W G' b' N aS' CS') (ho : ∀ i, SkS G' b' i → w.heap.size ≤ i) : Pl w D T N G' b' aS' CS' aR CR a c l W :=
  ⟨h.tt, hS, h.box, h.rf, h.below, ho, h.dd⟩
theorem Pl.cells (h : Pl w D T N G b aS CS aR CR a c l W) : W.cell? ⟨D, 0, none⟩ = some (.int .i64 (N : Int)) ∧ W.cell? ⟨D, 1, none⟩ = some (.int .i64 (aR : Int)) ∧ W.cell? ⟨D, 2, none⟩ = some (.slice a T c) := ⟨blk_cell h.box 0, blk_cell h.box 1, blk_cell h.box 2⟩
theorem Pl.rhalve (h : Pl w D T N G b aS CS aR CR a c l W) : Calls Try.prog 14 #[.agg #[.int .i64 (N : Int), .int .i64 (aR : Int), .slice a T c]] W fun e W' => ∃ a' c' l', e = .returned (.agg (rkC N 0 (.slice a' T c'))) ∧ RfIs W'.heap.size W' a' c' N l' (hlv CR) ∧ Below W.heap.size W W' := by
  have := rhalve_any h.rf (Nat.le_refl _) (aR : Int)
  unfold RkDid at this
  rw [h.tt] at this
  exact this
theorem Pl.rmark (h : Pl w D T N G b aS CS aR CR a c l W) (ha : aR < 10 * N) (x : BitVec 64) : Calls Try.prog 18 #[.agg #[.int .i64 (N : Int), .int .i64 (aR : Int), .slice a T c], .int .u64 (U x)] W fun e W' => ∃ a' c' l', e = .returned (.agg (rkC N ((mrkA N aR : Nat) : Int) (.slice a' T c'))) ∧ RfIs W'.heap.size W' a' c' N l' (mrkC CR N x aR) ∧ Below W.heap.size W W' := by
  have := rmark_any h.rf (Nat.le_refl _) ha x
  unfold RkDid at this
  rw [h.tt] at this
  exact this
theorem Pl.rguess (h : Pl w D T N G b aS CS aR CR a c l W) (x : BitVec 64) : Calls Try.prog 20 #[.agg #[.int .i64 (N : Int), .int .i64 (aR : Int), .slice a T c], .int .u64 (U x)] W fun e W' => e = .returned (.int .i64 ((gss CR N x : Nat) : Int)) ∧ Below W.heap.size W W' := by
  have := rguess_any h.rf (Nat.le_refl _) (aR : Int) x
  rw [h.tt] at this
  exact this
theorem Pl.rpack (h : Pl w D T N G b aS CS aR CR a c l W) (ha : aR < 10 * N) : Calls Try.prog 17 #[.agg #[.int .i64 (N : Int), .int .i64 (aR : Int), .slice a T c]] W fun e W' => ∃ u, e = .returned u ∧ W'.ownsRow W.heap.size 5 1 u (packS N aR CR).length (cellsOf (packS N aR CR)) ∧ Below W.heap.size W W' := by
  have := rpack_any h.rf (Nat.le_refl _) ha
  rw [h.tt] at this
  exact this
end
theorem cnt_zero {N : Nat} : CntIs (List.replicate (4 * N) 0) N (fun _ _ => 0) := by
  refine ⟨by simp, fun r j hr hj => ?_⟩
  have h := rowI_lt hr hj
  simp [h]
/-- The law's two sketches when they are new. -/
theorem Pl.first {w w1 w2 : World} {T N g : Nat} (hN : WideOk N) (hT : 4 * N = T) (h1 : SkAt w1 w.heap.size (fun r => w.heap.size + 1 + r) N 0 (fun _ _ => 0)) (hb1 : Below w.heap.size w w1) (hg : w2.heap[g]? = some (.cells (ints (List.replicate T 0)).toArray 3 (0, 0))) (hb2 : Below w1.heap.size w1 w2) :
    Pl w w2.heap.size T N w.heap.size (fun r => w.heap.size + 1 + r) 0 (fun _ _ => 0) 0 (fun _ _ => 0) (some ⟨g, 0, none⟩) T (List.replicate T 0) ((w2.alloc (.cells (rkC 0 0 (.slice none 0 0)) 30)).setRow w2.heap.size (rkC N 0 (.slice (some ⟨g, 0, none⟩) T T))) := by
  have hb3 : Below w2.heap.size w2 ((w2.alloc (.cells (rkC 0 0 (.slice none 0 0)) 30)).setRow w2.heap.size (rkC N 0 (.slice (some ⟨g, 0, none⟩) T T))) := below_setRow1 ((Below.refl _ w2).alloc (Nat.le_refl _) _) (Nat.le_refl _) _
  have hg3 : ((w2.alloc (.cells (rkC 0 0 (.slice none 0 0)) 30)).setRow w2.heap.size (rkC N 0 (.slice (some ⟨g, 0, none⟩) T T))).heap[g]? = some (.cells (ints (List.replicate T 0)).toArray 3 (0, 0)) := (hb3.block _ (blk_lt hg)).trans hg
  have h12 : Below w.heap.size w w2 := hb1.trans (hb2.mono hb1.size)
  subst hT
  refine ⟨rfl, (h1.same hb2).same hb3, setRow_heap1 _ _ _ _ _ _ (heap_alloc_new w2 _), ⟨hN, fun _ _ => by omega, ?_, cnt_zero, fun g' off e => ?_⟩, h12.trans (hb3.mono h12.size), ?_, h12.size⟩
  · have := IntsAt.of_blk hg3
    simpa using this
  · cases e
    exact ⟨_, _, hg3⟩
  · rintro i (rfl | ⟨r, _, rfl⟩)
    · exact Nat.le_refl _
    · show w.heap.size ≤ w.heap.size + 1 + r; omega
theorem wide_int {X : Int} (h : ¬ ∃ N, WideOk N ∧ (N : Int) = X) : X < 2 ∨ 4096 < X ∨ (2 ≤ X ∧ X ≤ 4096 ∧ bits .and .i64 X (X - 1) ≠ 0) := by
  by_cases h0 : X < 0
  · exact .inl (by omega)
  obtain ⟨N, rfl⟩ := Int.eq_ofNat_of_zero_le (show 0 ≤ X by omega)
  exact wide_not fun hw => h ⟨N, hw, rfl⟩
theorem right_not {X : Int} (h : ¬ ∃ N, WideOk N ∧ (N : Int) = X) (w : World) : Calls Try.prog 9 #[.int .i64 X] w fun e w' => e = .returned (.bool false) ∧ w = w' :=
  right_no (fun m h1 h2 e => h ⟨2 ^ m, ⟨m, h1, h2, rfl⟩, e⟩) w
theorem pl_mod (x : BitVec 64) : ∃ m : Nat, (U x).tmod 16 = (m : Int) ∧ m ≤ 15 := ⟨x.toNat % 16, by unfold U; exact (Int.ofNat_tmod x.toNat 16).symm, by omega⟩
/-- The words' cells. -/
theorem pl_word {w : World} {a : Option Addr} {n c : Nat} {l : List (BitVec 64)} (h : WordsAt w.heap.size w (.slice a n c) l) {k : Nat} (hk : k < l.length) : ∃ g off, a = some ⟨g, off, none⟩ ∧ ∀ V, Below w.heap.size w V → V.cell? ⟨g, off, none⟩ = some (.int .u64 (U (l[0]?.getD 0))) ∧ V.cell? ⟨g, off + k, none⟩ = some (.int .u64 (U (l[k]?.getD 0))) := by
  obtain ⟨g, off, rfl, hg, hc⟩ := h.get hk
  obtain ⟨g', off', e, _, hc0⟩ := h.get (i := 0) (by omega)
  cases e
  exact ⟨g, off, rfl, fun V hb => ⟨(hb.cell (p := ⟨g, off, none⟩) hg).trans hc0, (hb.cell (p := ⟨g, off + k, none⟩) hg).trans hc⟩⟩
theorem pl_out {w W : World} (hb : Below w.heap.size w W) (i : Nat) (h : SkS W.heap.size (fun r => W.heap.size + 1 + r) i) : w.heap.size ≤ i := by
  have := hb.size
  rcases h with rfl | ⟨r, _, rfl⟩
  · exact this
  · show w.heap.size ≤ W.heap.size + 1 + r; omega
/-- Unpack of what Pack made. -/
theorem unpack_pack {W : World} {u : Value} {N age : Nat} {C : Nat → Nat → Nat} (hW : WideOk N) (hA : age < 10 * N) (hC : ∀ r j, C r j ≤ 15) (hu : BytesAt W.heap.size W u (packS N age C)) :
    Calls Try.prog 16 #[u] W fun e W' => e = .returned (.tuple #[.pointer (some ⟨W.heap.size, 0, none⟩), .int .i64 0]) ∧ SkAt W' W.heap.size (fun r => W.heap.size + 1 + r) N age C ∧ Below W.heap.size W W' := by
  have hN := hW.le
  refine (unpack_any hu (Nat.le_refl _) (by rw [packS_len]; omega)).mono fun e W' h => ?_
  rcases h with ⟨_, h1, h2, h3⟩ | ⟨h, _⟩
  · rw [unW_pack C hN.2, unA_pack C (by omega)] at h2
    exact ⟨h1, h2.congr (fun r j hr hj => (cnTo_pack hW hC hr hj).symm) hC, h3⟩
  · exact absurd (unOk_pack hW hA) h
end Go.Proofs.Ytalgkiagdjckiaa

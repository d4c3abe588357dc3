/-
  bits: there, bit, Has, Mark, Clear, for any state of the set.
  Conditions: none.
-/
import Derived.Test.YtpljbjceokoeiaaDoorRows
import Derived.Test.YtpljbjceokoeiaaDoorBitsMath
import Derived.Test.YtpljbjceokoeiaaDoorMoves
import Derived.WalkKit
import Derived.IntWalk
import Derived.StillTailTactics
import Derived.Deep.QuietTactic
import Derived.BigQuiet
import Derived.Outline
import Derived.Deep.DeepCutAuto
namespace Go.Proofs.YtpljbjceokoeiaaDoor
open Go.RowKit

/-- The cells of words. -/
def wcells (ws : List (BitVec 64)) : List Value := ws.map fun b => .int .u64 (U b)
theorem wcells_len (ws : List (BitVec 64)) : (wcells ws).length = ws.length := by simp [wcells]
/-- A set in memory: its block D, its words' block g. -/
structure BitsAt (n₀ : Nat) (w : World) (D g cap : Nat) (s : BSet) : Prop where
  ok : s.Ok
  blk : w.heap[D]? = some (.cells #[.int .i64 s.n, .int .i64 s.hand, .slice (some ⟨g, 0, none⟩) s.ws.length cap] 51 (0, 0))
  row : w.ownsRow n₀ 53 1 (.slice (some ⟨g, 0, none⟩) s.ws.length cap) s.ws.length (wcells s.ws)
  lo : n₀ ≤ D
theorem BitsAt.glo {n₀ : Nat} {w : World} {D g cap : Nat} {s : BSet} (h : BitsAt n₀ w D g cap s) : n₀ ≤ g ∧ g < w.heap.size := h.row.lt g rfl
theorem BitsAt.dlt {n₀ : Nat} {w : World} {D g cap : Nat} {s : BSet} (h : BitsAt n₀ w D g cap s) : D < w.heap.size := (Array.getElem?_eq_some_iff.1 h.blk).1
theorem BitsAt.ne {n₀ : Nat} {w : World} {D g cap : Nat} {s : BSet} (h : BitsAt n₀ w D g cap s) : g ≠ D := by
  rintro rfl
  rcases h.row.2 with ⟨h2, _⟩ | ⟨g', cap', cur, hv, _, hg, _⟩
  · cases h2
  · simp only [Value.slice.injEq, Option.some.injEq, Addr.mk.injEq] at hv
    obtain ⟨⟨rfl, _⟩, _⟩ := hv
    rw [h.blk] at hg
    simp at hg
theorem BitsAt.same {n₀ : Nat} {w w' : World} {D g cap : Nat} {s : BSet} (h : BitsAt n₀ w D g cap s) (hb : Below w.heap.size w w') : BitsAt n₀ w' D g cap s := by
  refine ⟨h.ok, (hb.block D h.dlt).trans h.blk, ?_, h.lo⟩
  obtain ⟨h1, h2⟩ := h.row
  refine ⟨h1, ?_⟩
  rcases h2 with h2 | ⟨g', cap', cur, hv, hg, hh, r⟩
  · exact .inl h2
  · exact .inr ⟨g', cap', cur, hv, hg, (hb.block g' (Array.getElem?_eq_some_iff.1 hh).1).trans hh, r⟩
theorem BitsAt.drewN {n₀ : Nat} {w : World} {D g cap : Nat} {s : BSet} (h : BitsAt n₀ w D g cap s) (k : Nat) : BitsAt n₀ (w.drewN k) D g cap s := ⟨h.ok, h.blk, h.row, h.lo⟩
theorem BitsAt.cells {n₀ : Nat} {w : World} {D g cap : Nat} {s : BSet} (h : BitsAt n₀ w D g cap s) : w.cell? ⟨D, 0, none⟩ = some (.int .i64 s.n) ∧ w.cell? ⟨D, 1, none⟩ = some (.int .i64 s.hand) ∧ w.cell? ⟨D, 2, none⟩ = some (.slice (some ⟨g, 0, none⟩) s.ws.length cap) :=
  ⟨cell_of_row _ _ 0 _ _ _ h.blk, cell_of_row _ _ 1 _ _ _ h.blk, cell_of_row _ _ 2 _ _ _ h.blk⟩
theorem BitsAt.word {n₀ : Nat} {w : World} {D g cap : Nat} {s : BSet} (h : BitsAt n₀ w D g cap s) {i : Nat} (hi : i < s.ws.length) : w.cell? ⟨g, i, none⟩ = some (.int .u64 (U (s.ws[i]?.getD 0#64))) := by
  rw [h.row.cellAt i (by omega)]
  simp [wcells, hi]
/-- The words' cell set. -/
theorem BitsAt.put {n₀ : Nat} {w : World} {D g cap : Nat} {s : BSet} (h : BitsAt n₀ w D g cap s) {i : Nat} (x : BitVec 64) (hok : ({ s with ws := s.ws.set i x } : BSet).Ok) :
    BitsAt n₀ (w.setCell ⟨g, i, none⟩ (.int .u64 (U x))) D g cap { s with ws := s.ws.set i x } ∧ Moves (fun k => k = D ∨ k = g) w (w.setCell ⟨g, i, none⟩ (.int .u64 (U x))) := by
  have hs := h.row.stored i (.int .u64 (U x))
  have e : (wcells s.ws).set i (.int .u64 (U x)) = wcells (s.ws.set i x) := by simp [wcells, List.map_set]
  refine ⟨⟨hok, ?_, ?_, h.lo⟩, (Moves.refl _ w).setCell (p := ⟨g, i, none⟩) (fun _ => .inr rfl) _⟩
  · rw [Below.heap_setCell _ _ _ _ (fun e => h.ne e.symm), h.blk]
    simp
  · have := hs.1
    rw [e] at this
    simpa using this

theorem bit_pow (i : Nat) : IntKind.u64.wrap ((2 : Int) ^ (i % 64)) = U (bitOf i) := by
  rw [wrap_u64_mod]
  congr 1
  unfold bitOf
  apply BitVec.eq_of_toNat_eq
  have h : i % 64 < 64 := Nat.mod_lt _ (by decide)
  have h2 : 2 ^ (i % 64) < 2 ^ 64 := Nat.pow_lt_pow_right (by decide) h
  rw [BitVec.toNat_ofInt, BitVec.toNat_twoPow, Nat.mod_eq_of_lt h2]
  have e : ((2 : Int) ^ (i % 64)) = ((2 ^ (i % 64) : Nat) : Int) := by simp
  rw [e, Int.emod_eq_of_lt (Int.natCast_nonneg _) (by exact_mod_cast h2)]
  exact Int.toNat_natCast _
theorem andNot_u64 (x y : BitVec 64) : bits .andNot .u64 (U x) (U y) = U (x &&& ~~~ y) := by
  show IntKind.u64.wrap (((BitVec.ofInt 64 (U x)) &&& ~~~ (BitVec.ofInt 64 (U y))).toNat : Int) = _
  rw [ofInt_U, ofInt_U]; exact wrap_u64_U (x &&& ~~~ y)
theorem and_u64 (x y : BitVec 64) : bits .and .u64 (U x) (U y) = U (x &&& y) := by
  show IntKind.u64.wrap (((BitVec.ofInt 64 (U x)) &&& (BitVec.ofInt 64 (U y))).toNat : Int) = _
  rw [ofInt_U, ofInt_U]; exact wrap_u64_U (x &&& y)
theorem or_u64 (x y : BitVec 64) : bits .or .u64 (U x) (U y) = U (x ||| y) := by
  show IntKind.u64.wrap (((BitVec.ofInt 64 (U x)) ||| (BitVec.ofInt 64 (U y))).toNat : Int) = _
  rw [ofInt_U, ofInt_U]; exact wrap_u64_U (x ||| y)
set_option maxHeartbeats 400000 in
theorem bit_any (i : Nat) (w : World) : Calls Tryd.prog 24 #[.int .i64 i] w fun e w' => e = .returned (.int .u64 (U (bitOf i))) ∧ w' = w := by
  have HP := Lib.hid (bit_pow i)
  go_enter Tryd.func24, Tryd.ntmps24
  go_wp2
  go_ret
  rw [← HP.out]
  exact ⟨rfl, rfl⟩

/-- Is there such a number? -/
def inB (n : Nat) (i : Int) : Bool := decide (0 ≤ i ∧ i < n)
theorem there_nil (i : Int) (w : World) : Calls Tryd.prog 23 #[.pointer none, .int .i64 i] w fun e w' => e = .returned (.bool false) ∧ w' = w := by
  go_enter Tryd.func23, Tryd.ntmps23
  go_wp2
  go_ret
  exact ⟨rfl, rfl⟩
set_option maxHeartbeats 400000 in
theorem there_any (n : Nat) (i : Int) (D : Nat) (w : World) (h : w.cell? ⟨D, 0, none⟩ = some (.int .i64 n)) : Calls Tryd.prog 23 #[.pointer (some ⟨D, 0, none⟩), .int .i64 i] w fun e w' => e = .returned (.bool (inB n i)) ∧ w' = w := by
  by_cases h0 : 0 ≤ i
  · by_cases h1 : i < n
    · have HE : Hid (inB n i = true) := by unfold Hid inB; simp [h0, h1]
      have e1 : decide (i < n) = true := by simpa using h1
      go_enter Tryd.func23, Tryd.ntmps23
      go_wp2
      go_ret
      rw [HE.out]
      exact ⟨rfl, rfl⟩
    · have HE : Hid (inB n i = false) := by unfold Hid inB; simp [h1]
      have e1 : decide (i < n) = false := by simpa using h1
      go_enter Tryd.func23, Tryd.ntmps23
      go_wp2
      go_ret
      rw [HE.out]
      exact ⟨rfl, rfl⟩
  · have HE : Hid (inB n i = false) := by unfold Hid inB; simp [h0]
    have e1 : decide (0 ≤ i) = false := by simpa using h0
    go_enter Tryd.func23, Tryd.ntmps23
    go_wp2
    go_ret
    rw [HE.out]
    exact ⟨rfl, rfl⟩

theorem has_nil (i : Int) (w : World) : Calls Tryd.prog 13 #[.pointer none, .int .i64 i] w fun e w' => e = .returned (.bool false) ∧ ∃ n, w' = w.drewN n := by
  go_enter Tryd.func13, Tryd.ntmps13
  go_wp2
  go_quiet ((go_at_call 23; exact Calls.quiet_of_same (there_nil _ _)))
  go_wp2
  go_ret
  exact ⟨rfl, _, rfl⟩
/-- Is a number taken? -/
def BSet.hasB (s : BSet) (i : Int) : Bool := inB s.n i && s.has i.toNat
set_option maxHeartbeats 1000000 in
theorem has_any {n₀ : Nat} {w : World} {D g cap : Nat} {s : BSet} (h : BitsAt n₀ w D g cap s) (i : Int) : Calls Tryd.prog 13 #[.pointer (some ⟨D, 0, none⟩), .int .i64 i] w fun e w' => e = .returned (.bool (s.hasB i)) ∧ ∃ n, w' = w.drewN n := by
  obtain ⟨c0, c1, c2⟩ := h.cells
  by_cases hin : 0 ≤ i ∧ i < s.n
  · obtain ⟨h0, h1⟩ := hin
    obtain ⟨i, rfl⟩ := Int.eq_ofNat_of_zero_le h0
    have hi : i < s.n := by omega
    have hT : ∀ W : World, W.cell? ⟨D, 0, none⟩ = some (.int .i64 s.n) → Calls Tryd.prog 23 #[.pointer (some ⟨D, 0, none⟩), .int .i64 i] W fun e w' => e = .returned (.bool true) ∧ w' = W := by
      have e : inB s.n i = true := by unfold inB; simp [hi]
      intro W hc
      have := there_any s.n i D W hc
      rwa [e] at this
    have HT := Lib.hid hT
    have c3 := h.word (h.ok.div hi)
    have hd := h.ok.div hi
    have hcap : s.ws.length ≤ 1024 := by have := h.ok.len; have := h.ok.n2; omega
    have i1 : (i : Int) ≤ 65536 := by have := h.ok.n2; omega
    have d0 : (0 : Int) ≤ (i : Int) / 64 := by omega
    have d1 : (i : Int) / 64 < s.ws.length := by omega
    have dn : ((i : Int) / 64).toNat = i / 64 := by omega
    have e1 := and_u64 (s.ws[i / 64]?.getD 0#64) (bitOf i)
    have HB : Hid (s.hasB i = !decide (s.ws[i / 64]?.getD 0#64 &&& bitOf i = 0#64)) := by
      unfold Hid BSet.hasB BSet.has inB
      have e := and_bitOf (s.ws[i / 64]?.getD 0#64) i
      rw [Bool.eq_iff_iff]
      simp only [Int.toNat_natCast, Bool.and_eq_true, decide_eq_true_eq, Bool.not_eq_true', decide_eq_false_iff_not, e]
      simp [hi]
    generalize s.ws[i / 64]?.getD 0#64 = x at c3 e1 HB
    have e2 : (U (x &&& bitOf i) == 0) = decide (x &&& bitOf i = 0#64) := by
      rw [show (0 : Int) = U (0#64) from rfl, U_beq]
    have HE2 := Lib.hid e2
    generalize s.ws.length = L at c2 hd hcap d1
    clear hT h h0 h1 e2
    go_enter Tryd.func13, Tryd.ntmps13
    go_wp2
    go_quiet ((first | (go_at_call 23; exact Calls.quiet_of_same (HT.out _ c0)) | (go_at_call 24; exact Calls.quiet_of_same (bit_any i _))))
    go_wp2
    go_ret
    refine ⟨?_, _, rfl⟩
    rw [HB.out, ← HE2.out]
    rfl
  · have hT : ∀ W : World, W.cell? ⟨D, 0, none⟩ = some (.int .i64 s.n) → Calls Tryd.prog 23 #[.pointer (some ⟨D, 0, none⟩), .int .i64 i] W fun e w' => e = .returned (.bool false) ∧ w' = W := by
      have e : inB s.n i = false := by unfold inB; simpa using hin
      intro W hc
      have := there_any s.n i D W hc
      rwa [e] at this
    have HT := Lib.hid hT
    have HB : Hid (s.hasB i = false) := by
      have e : inB s.n i = false := by unfold inB; simpa using hin
      unfold Hid BSet.hasB; rw [e]; rfl
    clear hT h hin
    go_enter Tryd.func13, Tryd.ntmps13
    go_wp2
    go_quiet ((go_at_call 23; exact Calls.quiet_of_same (HT.out _ c0)))
    go_wp2
    go_ret
    rw [HB.out]
    exact ⟨rfl, _, rfl⟩

/-- Is a number there and free? -/
def BSet.freeB (s : BSet) (i : Int) : Bool := inB s.n i && !s.has i.toNat
def BSet.markI (s : BSet) (i : Int) : BSet := if s.freeB i then s.mark i.toNat else s
def BSet.clearI (s : BSet) (i : Int) : BSet := if s.hasB i then s.clear i.toNat else s
/-- What a call leaves: its answer, the set, all else as it was. -/
def BitsDid (n₀ D g cap : Nat) (s : BSet) (r : Value) (w : World) (e : Ending) (w' : World) : Prop := e = .returned r ∧ BitsAt n₀ w' D g cap s ∧ Moves (fun k => k = D ∨ k = g) w w'
set_option maxHeartbeats 1000000 in
theorem mark_any {n₀ : Nat} {w : World} {D g cap : Nat} {s : BSet} (h : BitsAt n₀ w D g cap s) (i : Int) : Calls Tryd.prog 10 #[.pointer (some ⟨D, 0, none⟩), .int .i64 i] w (BitsDid n₀ D g cap (s.markI i) (.bool (s.freeB i)) w) := by
  obtain ⟨c0, c1, c2⟩ := h.cells
  have HT := Lib.hid (there_any s.n i D w c0)
  have HH := Lib.hid (has_any h i)
  by_cases hf : s.freeB i = true
  · have hf0 := hf
    unfold BSet.freeB at hf0
    rw [Bool.and_eq_true] at hf0
    obtain ⟨hin, hno⟩ := hf0
    have hhas : s.hasB i = false := by unfold BSet.hasB; rw [hin]; simpa using hno
    unfold inB at hin
    have hin2 : 0 ≤ i ∧ i < s.n := by simpa using hin
    obtain ⟨h0, h1⟩ := hin2
    have hinB : inB s.n i = true := hin
    obtain ⟨i, rfl⟩ := Int.eq_ofNat_of_zero_le h0
    have hi : i < s.n := by omega
    rw [hhas] at HH
    rw [hinB] at HT
    have HM : Hid (s.markI (i : Int) = s.mark i) := by unfold Hid BSet.markI; rw [if_pos hf]; rfl
    have HFB := Lib.hid hf
    have hd := h.ok.div hi
    have HPUT := Lib.hid (fun W (hW : BitsAt n₀ W D g cap s) => hW.put (i := i / 64) (s.ws[i / 64]?.getD 0#64 ||| bitOf i) (ok_mark h.ok hi))
    have HWD := Lib.hid (fun W (hW : BitsAt n₀ W D g cap s) => hW.word hd)
    have HC := Lib.hid (fun W (hW : BitsAt n₀ W D g cap s) => hW.cells)
    have HFR := Lib.hid (fun W (hW : BitsAt n₀ W D g cap s) => hW.row.frozenAt (i / 64))
    have HO := Lib.hid h
    have hcap : s.ws.length ≤ 1024 := by have := h.ok.len; have := h.ok.n2; omega
    have i1 : (i : Int) ≤ 65536 := by have := h.ok.n2; omega
    have d0 : (0 : Int) ≤ (i : Int) / 64 := by omega
    have d1 : (i : Int) / 64 < s.ws.length := by omega
    have dn : ((i : Int) / 64).toNat = i / 64 := by omega
    have e1 := or_u64 (s.ws[i / 64]?.getD 0#64) (bitOf i)
    have HMK : Hid (s.mark i = { s with ws := s.ws.set (i / 64) (s.ws[i / 64]?.getD 0#64 ||| bitOf i) }) := rfl
    clear h hf hno hhas hin hinB h1 c0 c1 c2
    go_enter Tryd.func10, Tryd.ntmps10
    go_upto_region 3 with (first
      | (go_at_call 23; (with_reducible refine HT.out.mono ?_); rintro e w' ⟨rfl, hw⟩; obtain rfl := hw.symm)
      | (go_at_call 13; (with_reducible refine HH.out.mono ?_); rintro e w' ⟨rfl, nq, rfl⟩))
    have HO2 := Lib.hid (HO.out.drewN nq)
    obtain ⟨W, hW⟩ : ∃ W, w.drewN nq = W := ⟨_, rfl⟩
    have M0 := (Moves.refl (fun k => k = D ∨ k = g) w).drewN nq
    rw [hW] at HO2 M0 ⊢
    have HM0 := Lib.hid M0
    obtain ⟨c0, c1, c2⟩ := HC.out _ HO2.out
    have c3 := HWD.out _ HO2.out
    have cf := HFR.out _ HO2.out
    obtain ⟨x, hx⟩ : ∃ x, s.ws[i / 64]?.getD 0#64 = x := ⟨_, rfl⟩
    rw [hx] at c3 e1
    have hx0 := Lib.hid hx
    have HBIT := Lib.hid (fun W => bit_any i W)
    have hw64 : IntKind.i64.wrap ((i : Int) / 64) = (i : Int) / 64 := IntWalk.i64_in _ (by omega)
    clear hW M0 hx
    refine wp_region_still_tail 12 (by kernel_rfl) (by kernel_rfl) ?_
    simp only [List.take_succ_cons, List.take_zero, List.drop_succ_cons, List.drop_zero]
    repeat still_step
    still_call (HBIT.out _)
    repeat still_step
    refine wpStill_nil ?_
    change wpList _ _ _ _ _ W.drew
    go_wp2
    go_ret
    have p := HPUT.out W HO2.out
    rw [hx0.out] at p
    exact ⟨by rw [HFB.out]; rfl, by rw [HM.out, HMK.out, hx0.out]; exact p.1.drewN 1, HM0.out.trans p.2.drew (fun _ _ h => h)⟩
  · have HM : Hid (s.markI i = s) := by unfold Hid BSet.markI; rw [if_neg hf]
    have HFB : Hid (s.freeB i = false) := by unfold Hid; simpa using hf
    by_cases hin : inB s.n i = true
    · have hhas : s.hasB i = true := by unfold BSet.freeB at hf; rw [hin] at hf; unfold BSet.hasB; rw [hin]; simpa using hf
      rw [hhas] at HH
      rw [hin] at HT
      have HO := Lib.hid h
      clear h hf hhas hin c0 c1 c2
      go_enter Tryd.func10, Tryd.ntmps10
      go_wp2_with (first
        | (go_at_call 23; (with_reducible refine HT.out.mono ?_); rintro e w' ⟨rfl, hw⟩; obtain rfl := hw.symm)
        | (go_at_call 13; (with_reducible refine HH.out.mono ?_); rintro e w' ⟨rfl, nq, rfl⟩))
      go_ret
      exact ⟨by rw [HFB.out]; rfl, by rw [HM.out]; exact HO.out.drewN nq, (Moves.refl _ w).drewN nq⟩
    · have hin2 : inB s.n i = false := by simpa using hin
      rw [hin2] at HT
      have HO := Lib.hid h
      clear h hf hin2 hin c0 c1 c2
      go_enter Tryd.func10, Tryd.ntmps10
      go_wp2_with (first
        | (go_at_call 23; (with_reducible refine HT.out.mono ?_); rintro e w' ⟨rfl, hw⟩; obtain rfl := hw.symm))
      go_ret
      exact ⟨by rw [HFB.out]; rfl, by rw [HM.out]; exact HO.out, Moves.refl _ w⟩
set_option maxHeartbeats 1000000 in
theorem clear_any {n₀ : Nat} {w : World} {D g cap : Nat} {s : BSet} (h : BitsAt n₀ w D g cap s) (i : Int) : Calls Tryd.prog 12 #[.pointer (some ⟨D, 0, none⟩), .int .i64 i] w (BitsDid n₀ D g cap (s.clearI i) (.bool (s.hasB i)) w) := by
  have HH := Lib.hid (has_any h i)
  by_cases hf : s.hasB i = true
  · have hf0 := hf
    unfold BSet.hasB at hf0
    rw [Bool.and_eq_true] at hf0
    obtain ⟨hin, hno⟩ := hf0
    unfold inB at hin
    have hin2 : 0 ≤ i ∧ i < s.n := by simpa using hin
    obtain ⟨h0, h1⟩ := hin2
    obtain ⟨i, rfl⟩ := Int.eq_ofNat_of_zero_le h0
    have hi : i < s.n := by omega
    rw [hf] at HH
    have HM : Hid (s.clearI (i : Int) = s.clear i) := by unfold Hid BSet.clearI; rw [if_pos hf]; rfl
    have HFB := Lib.hid hf
    have hd := h.ok.div hi
    have HPUT := Lib.hid (fun W (hW : BitsAt n₀ W D g cap s) => hW.put (i := i / 64) (s.ws[i / 64]?.getD 0#64 &&& ~~~ bitOf i) (ok_clear h.ok hi))
    have HWD := Lib.hid (fun W (hW : BitsAt n₀ W D g cap s) => hW.word hd)
    have HC := Lib.hid (fun W (hW : BitsAt n₀ W D g cap s) => hW.cells)
    have HFR := Lib.hid (fun W (hW : BitsAt n₀ W D g cap s) => hW.row.frozenAt (i / 64))
    have HO := Lib.hid h
    have hcap : s.ws.length ≤ 1024 := by have := h.ok.len; have := h.ok.n2; omega
    have i1 : (i : Int) ≤ 65536 := by have := h.ok.n2; omega
    have d0 : (0 : Int) ≤ (i : Int) / 64 := by omega
    have d1 : (i : Int) / 64 < s.ws.length := by omega
    have dn : ((i : Int) / 64).toNat = i / 64 := by omega
    have e1 := andNot_u64 (s.ws[i / 64]?.getD 0#64) (bitOf i)
    have HMK : Hid (s.clear i = { s with ws := s.ws.set (i / 64) (s.ws[i / 64]?.getD 0#64 &&& ~~~ bitOf i) }) := rfl
    clear h hf hno hin h1
    go_enter Tryd.func12, Tryd.ntmps12
    go_upto_region 3 with (first
      | (go_at_call 13; (with_reducible refine HH.out.mono ?_); rintro e w' ⟨rfl, nq, rfl⟩))
    have HO2 := Lib.hid (HO.out.drewN nq)
    obtain ⟨W, hW⟩ : ∃ W, w.drewN nq = W := ⟨_, rfl⟩
    have M0 := (Moves.refl (fun k => k = D ∨ k = g) w).drewN nq
    rw [hW] at HO2 M0 ⊢
    have HM0 := Lib.hid M0
    obtain ⟨c0, c1, c2⟩ := HC.out _ HO2.out
    have c3 := HWD.out _ HO2.out
    have cf := HFR.out _ HO2.out
    obtain ⟨x, hx⟩ : ∃ x, s.ws[i / 64]?.getD 0#64 = x := ⟨_, rfl⟩
    rw [hx] at c3 e1
    have hx0 := Lib.hid hx
    have HBIT := Lib.hid (fun W => bit_any i W)
    have hw64 : IntKind.i64.wrap ((i : Int) / 64) = (i : Int) / 64 := IntWalk.i64_in _ (by omega)
    clear hW M0 hx
    refine wp_region_still_tail 12 (by kernel_rfl) (by kernel_rfl) ?_
    simp only [List.take_succ_cons, List.take_zero, List.drop_succ_cons, List.drop_zero]
    repeat still_step
    still_call (HBIT.out _)
    repeat still_step
    refine wpStill_nil ?_
    change wpList _ _ _ _ _ W.drew
    go_wp2
    go_ret
    have p := HPUT.out W HO2.out
    rw [hx0.out] at p
    exact ⟨by rw [HFB.out]; rfl, by rw [HM.out, HMK.out, hx0.out]; exact p.1.drewN 1, HM0.out.trans p.2.drew (fun _ _ h => h)⟩
  · have HM : Hid (s.clearI i = s) := by unfold Hid BSet.clearI; rw [if_neg hf]
    have hf2 : s.hasB i = false := by simpa using hf
    rw [hf2] at HH
    have HFB := Lib.hid hf2
    have HO := Lib.hid h
    clear h hf hf2
    go_enter Tryd.func12, Tryd.ntmps12
    go_wp2_with (go_at_call 13; (with_reducible refine HH.out.mono ?_); rintro e w' ⟨rfl, nq, rfl⟩)
    go_ret
    exact ⟨by rw [HFB.out]; rfl, by rw [HM.out]; exact HO.out.drewN nq, (Moves.refl _ w).drewN nq⟩
end Go.Proofs.YtpljbjceokoeiaaDoor

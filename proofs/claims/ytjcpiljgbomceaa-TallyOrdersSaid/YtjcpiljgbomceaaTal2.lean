/-
  tally: Add, Reset, countOf.
  Conditions: none.
-/
import Derived.Test.YtjcpiljgbomceaaTal1
import Derived.Outline
import Derived.Deep.DeepCutAuto
import Derived.Laws.Rows
import Derived.Laws.Tables
import Derived.Deep.LoopGhost
namespace Go.Proofs.Ytjcpiljgbomceaa
open Go.RowKit

theorem wrapI {x : Int} (h0 : -9223372036854775808 ≤ x) (h1 : x ≤ 9223372036854775807) : IntKind.i64.wrap x = x := by rw [IntKind.wrap_i64]; omega
/-- A count with n more. -/
def addC (c n : Int) : Int := c + min n (1152921504606846976 - c)
theorem addC_ok {c n : Int} (h : 0 ≤ c ∧ c ≤ 1152921504606846976) (hn : 0 ≤ n) : 0 ≤ addC c n ∧ addC c n ≤ 1152921504606846976 ∧ c ≤ addC c n := by unfold addC; omega
/-- The counts with n more of a kind. -/
def addL (l : List Int) (k : Nat) (n : Int) : List Int := l.set k (addC (l[k]?.getD 0) n)
theorem addL_len (l : List Int) (k : Nat) (n : Int) : (addL l k n).length = l.length := by simp [addL]
theorem addL_ok {l : List Int} {k : Nat} {n : Int} (h : CountOk l) (hk : k < l.length) (hn : 0 ≤ n) : CountOk (addL l k n) := by
  refine ⟨by rw [addL_len]; exact h.1, fun i hi => ?_⟩
  rw [addL_len] at hi
  unfold addL
  by_cases e : i = k
  · subst e
    have := addC_ok (h.2 i hi) hn
    rw [List.getElem?_set_self hi]
    exact ⟨this.1, this.2.1⟩
  · rw [List.getElem?_set_ne (fun h => e h.symm)]; exact h.2 i hi
theorem TalAt.set {w : World} {T g : Nat} {l : List Int} (h : TalAt w T g l) {k : Nat} (hk : k < l.length) {n : Int} (hn : 0 ≤ n) :
    TalAt (w.setCell ⟨g, k, none⟩ (.int .i64 (addC (l[k]?.getD 0) n))) T g (addL l k n) ∧ Moves (fun b => b = g) w (w.setCell ⟨g, k, none⟩ (.int .i64 (addC (l[k]?.getD 0) n))) := by
  refine ⟨⟨addL_ok h.ok hk hn, ?_, ?_⟩, (Moves.refl (fun b => b = g) w).setCell (p := ⟨g, k, none⟩) (fun _ => rfl) _⟩
  · rw [addL_len, Below.heap_setCell _ _ _ _ h.ne]; exact h.blk
  · rw [blk_set h.row]
    simp only [List.setIfInBounds_toArray, ints_set]
    rfl
/-- What Add leaves. -/
def AddDid (T g : Nat) (l : List Int) (w : World) (e : Ending) (w' : World) : Prop := e = .returned (.int .i64 0) ∧ TalAt w' T g l ∧ Moves (fun b => b = g) w w'
set_option maxHeartbeats 1000000 in
theorem add_any {w : World} {T g : Nat} {l : List Int} (h : TalAt w T g l) {k : Nat} (hk : k < l.length) (n : Int) (hn : 0 ≤ n) (hn2 : n ≤ 9223372036854775807) :
    Calls Try.prog 11 #[.pointer (some ⟨T, 0, none⟩), .int .i64 k, .int .i64 n] w (AddDid T g (addL l k n) w) := by
  have HK := Lib.hid (has_eq (.inr ⟨T, g, rfl, h⟩) k (hasK_yes hk))
  have HS := Lib.hid (h.set hk hn)
  have c0 := h.cells
  have c1 := h.count hk
  have f1 := blk_frozen h.row k
  have hc := h.ok.2 k hk
  have k1 : (k : Int) < l.length := by omega
  clear h hk
  unfold addC at HS
  generalize (l[k]?.getD 0) = c at *
  have hc1 := hc.1
  have hc2 := hc.2
  have e1 : IntKind.i64.wrap (1152921504606846976 - c) = 1152921504606846976 - c := wrapI (by omega) (by omega)
  clear hc
  by_cases hm : n ≤ 1152921504606846976 - c
  · have e2 : IntKind.i64.wrap (c + n) = c + n := wrapI (by clear e1; omega) (by clear e1; omega)
    have hmin : min n (1152921504606846976 - c) = n := by omega
    rw [hmin] at HS
    clear hmin
    go_enter Try.func11, Try.ntmps11
    go_upto_region 3 with (go_at_call 18; (with_reducible refine HK.out.mono ?_); rintro e w' ⟨rfl, rfl⟩)
    go_still_tail 18, (by kernel_rfl)
    change wpList _ _ _ _ _ w.drew
    go_wp2
    all_goals go_ret
    all_goals exact ⟨rfl, HS.out.1.drewN 1, HS.out.2.drew⟩
  · have e2 : IntKind.i64.wrap (c + (1152921504606846976 - c)) = 1152921504606846976 := by
      rw [show c + (1152921504606846976 - c) = 1152921504606846976 by omega]; decide
    have hmin : c + min n (1152921504606846976 - c) = 1152921504606846976 := by omega
    rw [hmin] at HS
    have hm' : 1152921504606846976 - c < n := by omega
    clear hmin hm
    go_enter Try.func11, Try.ntmps11
    go_upto_region 3 with (go_at_call 18; (with_reducible refine HK.out.mono ?_); rintro e w' ⟨rfl, rfl⟩)
    go_still_tail 18, (by kernel_rfl)
    change wpList _ _ _ _ _ w.drew
    go_wp2
    all_goals go_ret
    all_goals exact ⟨rfl, HS.out.1.drewN 1, HS.out.2.drew⟩
theorem add_not {w : World} {p : Value} {l : List Int} (h : TalIs w p l) (i n : Int) (hno : hasK l i = false ∨ n < 0) :
    Calls Try.prog 11 #[p, .int .i64 i, .int .i64 n] w fun e w' => e = .returned (.int .i64 1) ∧ w = w' := by
  cases hk : hasK l i with
  | false =>
    have HK := Lib.hid (has_eq h i hk)
    clear hk hno
    rcases h with ⟨rfl, rfl⟩ | ⟨T, g, rfl, _⟩
    all_goals
      go_enter Try.func11, Try.ntmps11
      go_wp2_with (go_at_call 18; (with_reducible refine HK.out.mono ?_); rintro e w' ⟨rfl, rfl⟩)
      go_ret
      exact ⟨rfl, rfl⟩
  | true =>
    have hn : n < 0 := by rcases hno with h | h <;> simp_all
    have HK := Lib.hid (has_eq h i hk)
    clear hk hno
    rcases h with ⟨rfl, rfl⟩ | ⟨T, g, rfl, _⟩
    all_goals
      go_enter Try.func11, Try.ntmps11
      go_wp2_with (go_at_call 18; (with_reducible refine HK.out.mono ?_); rintro e w' ⟨rfl, rfl⟩)
      go_ret
      exact ⟨rfl, rfl⟩
theorem zeroInt (W : World) : (zeroValue 3).run Try.prog W = .ok (.int .i64 0) W := by kernel_rfl
theorem run_clear_ints {w : World} {g : Nat} {l : List Int} (h : w.heap[g]? = some (.cells (ints l).toArray 3 (0, 0))) (hl : 0 < l.length) (c : Nat) (ty : TypeId) :
    (Builtin.clear_ #[23] ty #[.slice (some ⟨g, 0, none⟩) l.length c]).run Try.prog w = .ok (.tuple #[]) (w.setRow g (ints (List.replicate l.length 0)).toArray) := by
  have hzc : (Builtin.zeroCells (Value.int .i64 0).cells l.length).toList = ints (List.replicate l.length 0) := by
    rw [ints_rep]
    simp [Builtin.zeroCells, Value.cells]
    apply List.ext_getElem
    · simp
    · intro i h1 h2
      simp [Nat.mod_one]
  have hst := run_storeAll (P := Try.prog) (g := g) (cs := (ints (List.replicate l.length 0)).toArray) h (by simp [ints_len]) (by simpa using ints_one _)
  generalize ints (List.replicate l.length 0) = zs at hzc hst ⊢
  obtain ⟨m, hm⟩ : ∃ m, l.length = m + 1 := ⟨l.length - 1, by omega⟩
  rw [hm] at hzc ⊢
  simp [Builtin.clear_, run_underlying Try.underlying23, hzc, hst]
theorem TalAt.zero {w : World} {T g : Nat} {l : List Int} (h : TalAt w T g l) :
    TalAt (w.setRow g (ints (List.replicate l.length 0)).toArray) T g (List.replicate l.length 0) ∧ Moves (fun b => b = g) w (w.setRow g (ints (List.replicate l.length 0)).toArray) := by
  refine ⟨⟨⟨by simpa using h.ok.1, fun i hi => ?_⟩, ?_, ?_⟩, ⟨rfl, rfl, rfl, by simp, fun k _ hk => setRow_other _ _ _ _ hk⟩⟩
  · have hi' : i < l.length := by simpa using hi
    simp [hi']
  · rw [List.length_replicate, setRow_other _ _ _ _ h.ne]; exact h.blk
  · exact setRow_heap _ _ _ _ _ _ h.row
theorem reset_any {w : World} {T g : Nat} {l : List Int} (h : TalAt w T g l) (hl : 0 < l.length) : Calls Try.prog 16 #[.pointer (some ⟨T, 0, none⟩)] w fun e w' => e = .returned (.tuple #[]) ∧ TalAt w' T g (List.replicate l.length 0) ∧ Moves (fun b => b = g) w w' := by
  have hc := run_clear_ints h.row hl l.length
  have HZ := Lib.hid h.zero
  have c0 := h.cells
  generalize w.setRow g (ints (List.replicate l.length 0)).toArray = W at *
  clear h hl
  go_enter Try.func16, Try.ntmps16
  go_wp2
  go_end0
  exact ⟨rfl, HZ.out⟩
theorem reset_nil (w : World) : Calls Try.prog 16 #[.pointer none] w fun e w' => e = .returned (.tuple #[]) ∧ w = w' := by
  go_enter Try.func16, Try.ntmps16
  go_wp2
  go_end0
  exact ⟨rfl, rfl⟩
/-- What was counted of a kind, 0 where it is none. -/
def wasK (l : List Int) (k : Nat) : Int := max (l[k]?.getD 0) 0
theorem countOf_any {w : World} {v : Value} {l : List Int} (h : IntsAt w.heap.size w v l) (hl : l.length ≤ 1073741824) (k : Nat) :
    Calls Try.prog 19 #[v, .int .i64 k] w fun e w' => e = .returned (.int .i64 (wasK l k)) ∧ w = w' := by
  obtain ⟨a, c, rfl⟩ := h.slice
  have l1 : (l.length : Int) ≤ 1073741824 := by omega
  by_cases hk : k < l.length
  · obtain ⟨g, off, rfl, hg, c0⟩ := h.get hk
    have k1 : (k : Int) < l.length := by omega
    unfold wasK
    generalize (l[k]?.getD 0) = x at *
    clear h hk
    by_cases hx : 0 < x
    · have HM : Hid (max x 0 = x) := by unfold Hid; omega
      have hx2 : ¬ x < 0 := by omega
      go_enter Try.func19, Try.ntmps19
      go_wp2
      all_goals go_ret
      all_goals exact ⟨by rw [HM.out]; rfl, rfl⟩
    · have HM : Hid (max x 0 = 0) := by unfold Hid; omega
      rcases Int.lt_or_eq_of_le (show x ≤ 0 by omega) with hx2 | rfl
      all_goals go_enter Try.func19, Try.ntmps19
      all_goals go_wp2
      all_goals go_ret
      all_goals first | exact ⟨by rw [HM.out]; rfl, rfl⟩ | exact ⟨rfl, rfl⟩
  · have k1 : (l.length : Int) ≤ k := by omega
    have HR : Hid (wasK l k = 0) := by unfold Hid wasK; rw [List.getElem?_eq_none (by omega)]; rfl
    clear h hk
    go_enter Try.func19, Try.ntmps19
    go_wp2
    go_ret
    exact ⟨by rw [HR.out]; rfl, rfl⟩
end Go.Proofs.Ytjcpiljgbomceaa

/-
  A region that draws its order, inside a round of a range over a function: its head only reads, its tail comes in one order: walked once, in the order of the text.
  Conditions: none.
-/
import Derived.Test.YtalgkiagdjckiaaQuietR
import Derived.StillTailTactics
namespace Go.Proofs.Ytalgkiagdjckiaa
open Go.RowKit
variable {P : Program} {ops : Array Oper}

theorem rows_round {n l : Nat} {row : String} {args : Array Value} {w : World} {R : Value → World → Prop} (h : Rows P row args w R) : RowsIn (Fence.wide.inRound l) n P row args w R :=
  fun c cs _ => let ⟨v, w', r, s⟩ := h c cs; ⟨v, w', r, stepsIn_wide.2 s⟩
/-- What an operation does outside of a round it does inside of one. -/
theorem wpIn_of_wp {n l : Nat} {o : Oper} (hnd : ∀ c, o.op ≠ .defer c) {a : Act} {w : World} {K : Act → World → Prop} {Q : Exit → Act → World → Prop} (h : o.wp P a w K Q) : o.wpIn (Fence.wide.inRound l) n P a w K Q := by
  unfold Oper.wp at h
  unfold Oper.wpIn
  refine ⟨fun _ _ => trivial, ?_⟩
  rw [Oper.semAt_plain _ _ _ hnd]
  have hd : (Fence.wide.inRound l).depth.isSome = true → 1 ≤ n := fun e => absurd e (by simp [Fence.wide])
  cases hr : (execOp a.eval o).run P w with
  | halt x w' =>
    rw [hr] at h
    cases x with
    | panic v => exact h
    | _ => exact h.elim
  | ok x w' =>
    rw [hr] at h
    cases x with
    | enter f args => exact ⟨hd, CallsIn.inRound l (callsIn_wide.2 h)⟩
    | row r args => exact ⟨hd, rows_round h⟩
    | value v => exact h
    | skip => exact h
    | defer d => exact h
    | _ => exact h.elim
theorem anyIn_of_any {n l : Nat} (hp : plainOps ops = true) {md : Region.Mode} {Q : Exit → Act → World → Prop} (hno : ¬ LetsOut Q) : ∀ (fuel : Nat) (listed : Array Bool) (a : Act) (w : World), wpAny P md ops Q fuel listed a w → wpAnyIn (Fence.wide.inRound l) n P md ops Q fuel listed a w
  | 0, _, _, _, h => h
  | fuel + 1, listed, a, w, h => by
    refine ⟨h.1, fun i hi => ?_⟩
    have hh := h.2 i hi
    unfold wpOp at hh
    unfold wpOpIn
    cases ho : ops[i]? with
    | none => rw [ho] at hh; exact anyIn_of_any hp hno fuel _ a w hh
    | some o =>
      rw [ho] at hh
      simp only at hh ⊢
      by_cases hw : Region.wanted o (yielded ops a.tmps) = true
      · simp only [hw, if_true] at hh ⊢
        exact Oper.wpIn_mono (fun a' w' h' => anyIn_of_any hp hno fuel _ a' w' h') (wpIn_of_wp (plain_op hp ho) (hh.resolve_right fun h => hno h.2))
      · simp only [hw, Bool.false_eq_true, if_false] at hh ⊢
        exact ⟨fun _ _ => trivial, anyIn_of_any hp hno fuel _ _ w hh⟩
/-- The head read once, then the tail. -/
theorem any_tail {w : World} {l : List Oper} {a : Act} {Q : Exit → Act → World → Prop} (n : Nat) (hB : Region.lexTailB .any l.toArray n = true)
    (h : wpStill P l.toArray w (fun a' => wpList P l.toArray Q (l.drop n) a' w) (l.take n) a) : wpAny P .any l.toArray Q l.toArray.size (Array.replicate l.toArray.size false) a w := by
  simp only [Region.lexTailB, Bool.and_eq_true, decide_eq_true_eq] at hB
  obtain ⟨⟨⟨⟨b1, b2⟩, b3⟩, b4⟩, b5⟩ := hB
  have e2 : n < l.length := by simpa using b2
  have e3 : (l.take n).length = n := List.length_take_of_le (Nat.le_of_lt e2)
  have e4 : (l.drop n).length = l.toArray.size - n := by simp
  have e5 : (l.take n).length + (l.toArray.size - n) = l.toArray.size := by rw [e3]; simp; omega
  have start : HeadInv .any l.toArray n (Array.replicate l.toArray.size false) := by
    refine ⟨Array.size_replicate, ?_, ?_⟩
    · intro j oj _ hl
      rw [getD_replicate_false] at hl; cases hl
    · intro t _ ht
      exact getD_in (by rw [Array.size_replicate]; exact ht) (getD_replicate_false _ _)
  have head := wpAnyL_lex (md := .any) (g := l.toArray.size - n) b1 b3 b4 b2 (l.take n) 0 _ a (fun j hj => by rw [e3] at hj; simp [hj]) (by rw [e3]; exact Nat.zero_add n) start (by rw [e3]; exact b5) h
  have all := wpAny_of_head (Q' := Q) (g := l.toArray.size - n) (fun listed a' hL => by
    have t := wpAny_of_seq (md := .any) (Q' := Q) (l.drop n) n listed a' w (fun j => by simp [List.getElem?_drop]) (by rw [e4]; exact hL.1) hL.2
    rwa [e4] at t) _ _ _ head
  rwa [e5] at all
theorem wpIn_region_tail {id n l : Nat} {Q : Exit → Act → World → Prop} {a : Act} {w : World} {os : List Oper} (m : Nat) (hp : plainOps os.toArray = true) (hno : ¬ LetsOut Q) (hm : P.follows .mixedOrders = true) (hB : Region.lexTailB .any os.toArray m = true)
    (h : wpStill P os.toArray w.drew (fun a' => wpList P os.toArray Q (os.drop m) a' w.drew) (os.take m) a) : (Code.region id os.toArray true).wpIn (Fence.wide.inRound l) n P Q a w :=
  wpIn_region_any hm (anyIn_of_any hp hno _ _ _ _ (any_tail m hB h))
end Go.Proofs.Ytalgkiagdjckiaa

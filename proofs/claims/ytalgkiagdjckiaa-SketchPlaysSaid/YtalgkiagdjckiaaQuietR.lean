/-
  A region that draws its order, inside a round of a range over a function: its operations only read, its callees write nothing that was there, nothing is deferred: walked once, in the order of the text.
  Conditions: none.
-/
import Derived.Test.YtalgkiagdjckiaaQuietB
import Derived.Sort.QuietIn
import Derived.OwnWalkIn
namespace Go.Proofs.Ytalgkiagdjckiaa
open Go.RowKit
variable {F : Fence} {n : Nat} {P : Program} {ops : Array Oper} {C : World → Prop}

/-- Nothing is deferred. -/
def plainOps (ops : Array Oper) : Bool := ops.all fun o => match o.op with
  | .defer _ => false
  | _ => true
theorem plain_op (hp : plainOps ops = true) {i : Nat} {o : Oper} (ho : ops[i]? = some o) : ∀ c, o.op ≠ .defer c := by
  intro c h
  have hm : o ∈ ops := Array.mem_of_getElem? ho
  have := (Array.all_eq_true'.1 hp) o hm
  rw [h] at this
  cases this
theorem round_op {o : Oper} {a : Act} {K : Act → Prop} {K' : Act → World → Prop} {Q' : Exit → Act → World → Prop} {w : World} (hnd : ∀ c, o.op ≠ .defer c) (hw : C w) (hk : ∀ a w', C w' → K a → K' a w')
    (ha : o.askedIn F P a C) (hq : o.quietIn F n P a C K) : o.wpIn F n P a w K' Q' := by
  obtain ⟨v, hv, hn⟩ := hq
  have hs := hv w hw
  unfold Oper.quietAtIn at hs
  unfold Oper.wpIn
  refine ⟨ha w hw, ?_⟩
  rw [Oper.semAt_plain F _ _ hnd]
  revert hs
  cases (execOp a.eval o).run P w with
  | halt x w' => intro hs; exact hs.elim
  | ok x w' =>
    cases x with
    | value u =>
      rintro ⟨rfl, rfl⟩
      exact hk _ _ hw hn
    | skip =>
      rintro ⟨rfl, rfl⟩
      exact hk _ _ hw hn
    | enter f args =>
      rintro ⟨rfl, hd, hc⟩
      refine ⟨hd, hc.mono ?_⟩
      rintro e w'' ⟨rfl, hcw⟩
      exact hk _ _ hcw hn
    | _ => intro hs; exact hs.elim
theorem round_any (hp : plainOps ops = true) {md : Region.Mode} {Q : Act → Prop} {Q' : Exit → Act → World → Prop} (hQ : ∀ a w, C w → Q a → Q' .normal a w) : ∀ (fuel : Nat) (listed : Array Bool) (a : Act) (w : World), C w →
    wpAnyQIn F n P md ops C Q fuel listed a → wpAnyIn F n P md ops Q' fuel listed a w
  | 0, _, a, w, hw, h => ⟨h.1, hQ a w hw h.2⟩
  | fuel + 1, listed, a, w, hw, h => by
    refine ⟨fun h0 => hQ a w hw (h.1 h0), fun i hi => ?_⟩
    have hh := h.2 i hi
    unfold qOpIn at hh
    unfold wpOpIn
    cases ho : ops[i]? with
    | none =>
      rw [ho] at hh
      exact round_any hp hQ fuel _ a w hw hh
    | some o =>
      rw [ho] at hh
      obtain ⟨ha, hh⟩ := hh
      by_cases hwant : Region.wanted o (yielded ops a.tmps) = true
      · simp only [hwant, if_true] at hh ⊢
        exact round_op (plain_op hp ho) hw (fun a' w' hw' hk => round_any hp hQ fuel _ a' w' hw' hk) ha hh
      · simp only [hwant, Bool.false_eq_true, if_false] at hh ⊢
        exact ⟨ha w hw, round_any hp hQ fuel _ _ w hw hh⟩
theorem wpIn_region_round {id : Nat} {Q : Exit → Act → World → Prop} {a : Act} {w : World} {l : List Oper} (hp : plainOps l.toArray = true) (hm : P.follows .mixedOrders = true) (hB : Region.lexB .any l.toArray = true)
    (h : wpQuietIn F n P l.toArray (fun w' => ∃ p : After w, w' = p.v) (fun a' => ∀ w', (∃ p : After w, w' = p.v) → Q .normal a' w') l a) : (Code.region id l.toArray true).wpIn F n P Q a w := by
  simp only [Region.lexB, Bool.and_eq_true] at hB
  refine wpIn_region_any hm (round_any (C := fun w' => ∃ p : After w, w' = p.v) hp (Q := fun a' => ∀ w', (∃ p : After w, w' = p.v) → Q .normal a' w') (fun _ w' hw' h => h w' hw') _ _ _ _ ⟨⟨w.drew, (Below.refl _ w).drew⟩, rfl⟩ ?_)
  have := wpAnyQIn_lex (F := F) (n := n) (C := fun w' => ∃ p : After w, w' = p.v) (md := .any) hB.1 l 0 (Array.replicate l.toArray.size false) a (by simp) (by simpa using hB.2) h
  simpa using this
theorem after_callIn {f : FuncId} {args : Array Value} {w : World} {p : After w} {v : Value}
    (h : CallsIn F n P f args p.v fun e w' => e = .returned v ∧ Below p.v.heap.size p.v w') : CallsIn F n P f args p.v fun e w'' => e = .returned v ∧ ∃ q : After w, w'' = q.v :=
  h.mono fun _ w' ⟨he, hb⟩ => ⟨he, ⟨w', p.h.trans (hb.mono p.h.size)⟩, rfl⟩
end Go.Proofs.Ytalgkiagdjckiaa

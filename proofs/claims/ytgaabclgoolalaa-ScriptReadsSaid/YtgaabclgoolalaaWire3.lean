/-
  A writer's calls: wire.NewWriter, Number, Text, Raw, Full, Bytes.
  Conditions: none.
-/
import Derived.Test.YtgaabclgoolalaaWire2
import Derived.Test.YtgaabclgoolalaaClone
import Derived.Outline
namespace Go.Proofs.Ytgaabclgoolalaa
open Go.RowKit

theorem newWriter_any (limit : Int) (w : World) :
    Calls Try.prog 25 #[.int .i64 limit] w fun e w' => e = .returned (.pointer (some ⟨w.heap.size, 0, none⟩)) ∧ w' = w.alloc (.cells #[.slice none 0 0, .int .i64 (max limit 0), .bool false] 81) := by
  go_enter Try.func25, Try.ntmps25
  go_wp2
  all_goals go_ret
  all_goals first
    | exact ⟨rfl, by rw [show max limit 0 = 0 by omega]⟩
    | exact ⟨rfl, by rw [show max limit 0 = limit by omega]⟩

/-- What a writer has behind bytes that are to be written ('none': what may not be). -/
def wRow (row : List (BitVec 8)) (limit : Int) (full : Bool) : Option (List (BitVec 8)) → List (BitVec 8)
  | none => row
  | some bs => if full = true ∨ limit < row.length + bs.length then row else row ++ bs
def wFull (row : List (BitVec 8)) (limit : Int) (full : Bool) : Option (List (BitVec 8)) → Bool
  | none => true
  | some bs => full || decide (limit < row.length + bs.length)
/-- What a call leaves of a writer. -/
def Wrote (n₀ B : Nat) (v : Value) (row : List (BitVec 8)) (limit : Int) (full : Bool) (x : Option (List (BitVec 8))) (w : World) (e : Ending) (w' : World) : Prop :=
  e = .returned (.tuple #[]) ∧ ∃ v', WriterAt n₀ w' B v' (wRow row limit full x) limit (wFull row limit full x) ∧ WStep B v v' w w'

theorem WriterAt.drewN {n₀ B : Nat} {w : World} {v : Value} {row : List (BitVec 8)} {limit : Int} {full : Bool} (h : WriterAt n₀ w B v row limit full) (k : Nat) : WriterAt n₀ (w.drewN k) B v row limit full := ⟨h.blk, h.own⟩
theorem WriterAt.ne {n₀ B : Nat} {w : World} {v : Value} {row : List (BitVec 8)} {limit : Int} {full : Bool} (h : WriterAt n₀ w B v row limit full) : v.ownBlock ≠ some B := own_ne h.own h.blk (by decide)
theorem WriterAt.fill {n₀ B : Nat} {w : World} {v : Value} {row : List (BitVec 8)} {limit : Int} {full : Bool} (h : WriterAt n₀ w B v row limit full) (k : Nat) :
    WriterAt n₀ ((w.drewN k).setCell ⟨B, 2, none⟩ (.bool true)) B v row limit true ∧ WStep B v v w ((w.drewN k).setCell ⟨B, 2, none⟩ (.bool true)) :=
  ⟨⟨blk_set (h.drewN k).blk 2 _, ownsRow_setCell_other (h.drewN k).own h.ne _⟩, ⟨((Moves.refl _ w).drewN k).setCell (p := ⟨B, 2, none⟩) (fun _ => .inl rfl) _, fun _ e => .inl e⟩⟩

theorem WriterAt.appended {n₀ B : Nat} {w w1 : World} {v v1 : Value} {row bs : List (BitVec 8)} {limit : Int} {full : Bool} (h : WriterAt n₀ w B v row limit full)
    (hown : w1.ownsRow n₀ 5 1 v1 (row ++ bs).length (cellsOf (row ++ bs))) (hgrow : w.grownBy w1 v.ownBlock) (hat : v1.ownBlock = v.ownBlock ∨ v1.ownBlock = some w.heap.size) :
    WriterAt n₀ (w1.setCell ⟨B, 0, none⟩ v1) B v1 (row ++ bs) limit full ∧ WStep B v v1 w (w1.setCell ⟨B, 0, none⟩ v1) := by
  refine ⟨⟨blk_set (blk_keep h.blk hgrow h.ne) 0 _, ownsRow_setCell_other hown (fun e => ?_) _⟩, ⟨(Moves.of_grown hgrow (fun _ e => .inr e)).setCell (p := ⟨B, 0, none⟩) (fun _ => .inl rfl) _, fun i hi => ?_⟩⟩
  · rcases hat with e' | e'
    · exact h.ne (e'.symm.trans e)
    · rw [e'] at e; have := blk_lt h.blk; simp at e; omega
  · rcases hat with e | e
    · exact .inl (e.symm.trans hi)
    · rw [e] at hi; right; simp at hi; omega
theorem WStep.before {B k : Nat} {v v' : Value} {w w' : World} (h : WStep B v v' (w.drewN k) w') : WStep B v v' w w' := ⟨⟨h.moves.os, h.moves.tape, h.moves.output, h.moves.size, h.moves.block⟩, h.own⟩

theorem WriterAt.below {n₀ B : Nat} {w w' : World} {v : Value} {row : List (BitVec 8)} {limit : Int} {full : Bool} (h : WriterAt n₀ w B v row limit full) (hb : Below w.heap.size w w') : WriterAt n₀ w' B v row limit full :=
  ⟨(hb.block B (blk_lt h.blk)).trans h.blk, (Moves.of_below (S := fun _ => False) hb).row h.own (fun _ _ h => h)⟩
/-- A text ahead of which its length stands. -/
def textB (bs : List (BitVec 8)) : Option (List (BitVec 8)) := if bs.length ≤ 65535 then some (leB 2 (BitVec.ofNat 64 bs.length) ++ bs) else none
def numB (x : BitVec 64) (k : Int) : Option (List (BitVec 8)) := if mayB k = true then some (leB k.toNat x) else none

theorem wrote_no {n₀ B : Nat} {v : Value} {row : List (BitVec 8)} {limit : Int} {full : Bool} {x : Option (List (BitVec 8))} {w : World} (h : WriterAt n₀ w B v row limit full) (k : Nat) (hx : ∀ bs, x = some bs → limit < row.length + bs.length) :
    Wrote n₀ B v row limit full x w (.returned (.tuple #[])) ((w.drewN k).setCell ⟨B, 2, none⟩ (.bool true)) := by
  have hf := h.fill k
  refine ⟨rfl, v, ?_, hf.2⟩
  have h1 : wRow row limit full x = row := by
    cases x with
    | none => rfl
    | some bs => simp [wRow, hx bs rfl]
  have h2 : wFull row limit full x = true := by
    cases x with
    | none => rfl
    | some bs => simp [wFull, hx bs rfl]
  rw [h1, h2]
  exact hf.1
theorem wrote_full {n₀ B : Nat} {v : Value} {row : List (BitVec 8)} {limit : Int} {bs : List (BitVec 8)} {w : World} (h : WriterAt n₀ w B v row limit true) (k : Nat) :
    Wrote n₀ B v row limit true (some bs) w (.returned (.tuple #[])) (w.drewN k) :=
  ⟨rfl, v, by simpa [wRow, wFull] using h.drewN k, (Moves.refl _ w).drewN k, fun _ e => .inl e⟩

theorem WriterAt.alloc {n₀ B : Nat} {w : World} {v : Value} {row : List (BitVec 8)} {limit : Int} {full : Bool} (h : WriterAt n₀ w B v row limit full) (o : Obj) : WriterAt n₀ (w.alloc o) B v row limit full := ⟨blk_alloc h.blk o, h.own.alloc o⟩
theorem WStep.behind {B : Nat} {v v' : Value} {w w0 w' : World} (hb : Below w.heap.size w w0) (h : WStep B v v' w0 w') : WStep B v v' w w' :=
  ⟨(Moves.of_below hb).trans h.moves (fun _ _ h => h), fun i hi => by
    rcases h.own i hi with e | e
    · exact .inl e
    · right; have := hb.size; omega⟩
theorem Wrote.behind {n₀ B : Nat} {v : Value} {row : List (BitVec 8)} {limit : Int} {full : Bool} {x : Option (List (BitVec 8))} {w w0 w' : World} {e : Ending} (hb : Below w.heap.size w w0) (h : Wrote n₀ B v row limit full x w0 e w') : Wrote n₀ B v row limit full x w e w' := by
  obtain ⟨he, v', h1, h2⟩ := h
  exact ⟨he, v', h1, h2.behind hb⟩

theorem may_yes (k : Int) (h : mayB k = true) (w : World) : Calls Try.prog 32 #[.int .i64 k] w fun e w' => e = .returned (.bool true) ∧ w.alloc (.cells #[.int .i64 1, .int .i64 2, .int .i64 4, .int .i64 8] 3) = w' :=
  (may_any k w).mono fun _ _ ⟨h1, h2⟩ => ⟨by rw [h1, h], h2.symm⟩
theorem may_no (k : Int) (h : mayB k = false) (w : World) : Calls Try.prog 32 #[.int .i64 k] w fun e w' => e = .returned (.bool false) ∧ w.alloc (.cells #[.int .i64 1, .int .i64 2, .int .i64 4, .int .i64 8] 3) = w' :=
  (may_any k w).mono fun _ _ ⟨h1, h2⟩ => ⟨by rw [h1, h], h2.symm⟩

set_option maxHeartbeats 2000000 in
theorem number_any (n₀ B : Nat) (v : Value) (row : List (BitVec 8)) (limit : Int) (full : Bool) (x : BitVec 64) (k : Int) (w : World) (hw : WriterAt n₀ w B v row limit full) (h0 : 0 ≤ limit) (h1 : limit ≤ 9223372036854775807)
    (hr : row.length ≤ 549755813888) (hn : n₀ ≤ w.heap.size) :
    Calls Try.prog 26 #[.pointer (some ⟨B, 0, none⟩), .int .u64 (U x), .int .i64 k] w (Wrote n₀ B v row limit full (numB x k) w) := by
  obtain ⟨av, capv, rfl⟩ := owns_slice hw.own
  have hb : Below w.heap.size w (w.alloc (.cells #[.int .i64 1, .int .i64 2, .int .i64 4, .int .i64 8] 3)) := (Below.refl _ _).alloc (Nat.le_refl _) _
  have hw1 := hw.alloc (.cells #[.int .i64 1, .int .i64 2, .int .i64 4, .int .i64 8] 3)
  have hn1 : n₀ ≤ (w.alloc (.cells #[.int .i64 1, .int .i64 2, .int .i64 4, .int .i64 8] 3)).heap.size := by simp; omega
  cases hmay : mayB k with
  | false =>
    have HM := Lib.hid (may_no k hmay w)
    have HT := Lib.hid (takes_wrong B row.length av capv limit k full _ hw1.blk)
    have HF := Lib.hid (fun j => (wrote_no (x := numB x k) hw1 j (by intro bs e; simp [numB, hmay] at e)).behind hb)
    clear hw hw1 hb hmay
    go_enter Try.func26, Try.ntmps26
    go_wp2_with (first
      | (go_at_call 32; refine HM.out.mono ?_; rintro e w' ⟨rfl, rfl⟩)
      | (go_at_call 36; refine HT.out.mono ?_; rintro e w' ⟨rfl, j, rfl⟩))
    go_end0
    exact HF.out _
  | true =>
    obtain ⟨kn, rfl, hk8⟩ : ∃ kn : Nat, k = kn ∧ kn ≤ 8 := by
      have : k = 1 ∨ k = 2 ∨ k = 4 ∨ k = 8 := by simpa [mayB] using hmay
      exact ⟨k.toNat, by omega, by omega⟩
    have hnum : numB x kn = some (leB kn x) := by simp [numB, hmay]
    have HM := Lib.hid (may_yes kn hmay w)
    have HN := Lib.hid hnum
    clear hmay hnum
    have k8 : (kn : Int) ≤ 8 := by omega
    by_cases hroom : (kn : Int) ≤ limit - row.length
    · have HT := Lib.hid (takes_yes B row.length av capv limit kn full _ hw1.blk h0 h1 (by omega) hroom)
      cases full with
      | true =>
        have HF := Lib.hid (fun j => (wrote_full (bs := leB kn x) hw1 j).behind hb)
        clear hw hw1 hb
        go_enter Try.func26, Try.ntmps26
        go_wp2_with (first
          | (go_at_call 32; refine HM.out.mono ?_; rintro e w' ⟨rfl, rfl⟩)
          | (go_at_call 36; refine HT.out.mono ?_; rintro e w' ⟨rfl, j, rfl⟩))
        go_end0
        rw [HN.out]
        exact HF.out _
      | false =>
        have hfin : wRow row limit false (some (leB kn x)) = row ++ leB kn x ∧ wFull row limit false (some (leB kn x)) = false := by
          constructor
          · simp [wRow, leB_len]; omega
          · simp [wFull, leB_len]; omega
        have HP := Lib.hid (fun j => put_any n₀ B _ row limit false x kn _ (hw1.drewN j) hk8 (by omega) hn1)
        have HB := Lib.hid hb
        clear hw hw1 hb
        go_enter Try.func26, Try.ntmps26
        go_wp2_with (first
          | (go_at_call 32; refine HM.out.mono ?_; rintro e w' ⟨rfl, rfl⟩)
          | (go_at_call 36; refine HT.out.mono ?_; rintro e w' ⟨rfl, j, rfl⟩)
          | (go_at_call 37; refine (HP.out _).mono ?_; rintro e w2 ⟨rfl, v2, hA2, hS2⟩))
        go_end0
        exact ⟨rfl, v2, by rw [HN.out, hfin.1, hfin.2]; exact hA2, hS2.before.behind HB.out⟩
    · have HT := Lib.hid (takes_more B row.length av capv limit kn full _ hw1.blk h0 h1 (by omega) (by omega))
      have HF := Lib.hid (fun j => (wrote_no (x := some (leB kn x)) hw1 j (by intro bs' e; cases e; rw [leB_len]; omega)).behind hb)
      clear hw hw1 hb
      go_enter Try.func26, Try.ntmps26
      go_wp2_with (first
        | (go_at_call 32; refine HM.out.mono ?_; rintro e w' ⟨rfl, rfl⟩)
        | (go_at_call 36; refine HT.out.mono ?_; rintro e w' ⟨rfl, j, rfl⟩))
      go_end0
      rw [HN.out]
      exact HF.out _

theorem bytes_any (n₀ B : Nat) (v : Value) (row : List (BitVec 8)) (limit : Int) (full : Bool) (w : World) (hw : WriterAt n₀ w B v row limit full) (hr : row.length ≤ 1099511627776) :
    Calls Try.prog 29 #[.pointer (some ⟨B, 0, none⟩)] w fun e w' => ∃ u, e = .returned u ∧ w'.ownsRow w.heap.size 5 1 u row.length (cellsOf row) ∧ Below w.heap.size w w' := by
  have c0 : w.cell? ⟨B, 0, none⟩ = some v := blk_cell hw.blk 0
  obtain ⟨av, capv, rfl⟩ := owns_slice hw.own
  have HC := Lib.hid (clone_any w.heap.size _ row w (BytesAt.of_owns hw.own) (Nat.le_refl _) hr)
  clear hw
  go_enter Try.func29, Try.ntmps29
  go_wp2_with (go_at_call 30; refine HC.out.mono ?_; rintro e w' ⟨u, rfl, hu, hb⟩)
  go_ret
  exact ⟨_, rfl, hu, hb⟩

end Go.Proofs.Ytgaabclgoolalaa

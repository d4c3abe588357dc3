/-
  script.kinds: the map of what the acts of a kind have.
  Conditions: none.
-/
import Derived.Test.YtgaabclgoolalaaIntMap
import Derived.Test.YtgaabclgoolalaaMem
namespace Go.Proofs.Ytgaabclgoolalaa
open Go.RowKit Go.MapKept

section
variable {P : Program} {w : World}
theorem findNow_no (k : Int) : ∀ (es : List MapEntry) (i : Nat), (∀ e ∈ es, ∃ j, e.key = .int .i64 j ∧ j ≠ k) → Instr.findNow (.int .i64) (.int .i64 k) es i = some none
  | [], _, _ => rfl
  | e :: es, i, h => by
    obtain ⟨j, hj, hne⟩ := h e (by simp)
    unfold Instr.findNow
    rw [hj]
    unfold Instr.sameNow
    have : (k == j) = false := by simpa using fun e => hne e.symm
    simp only [this, if_true]
    exact findNow_no k es (i + 1) (fun e he => h e (by simp [he]))
/-- A new key goes behind the others. -/
theorem run_mapUpdate_new {t K E : TypeId} (ht : P.underlying t = some (.map K E)) (hK : P.underlying K = some (.int .i64)) {b : Nat} {es : Array MapEntry} {c : Nat} (hb : w.heap[b]? = some (.map es c)) (k : Int) (v : Value) (hno : ∀ e ∈ es.toList, ∃ j, e.key = .int .i64 j ∧ j ≠ k) :
    (Instr.mapUpdate t (.map (some b)) (.int .i64 k) v).run P w = .ok () (w.putObj b (.map (es.push { key := .int .i64 k, val := v, born := c }) (c + 1))) := by
  have hfk := run_findKey (w := w) hK (findNow_no k es.toList 0 hno)
  have hck : (Instr.checkKey false 10000 K (.int .i64 k)).run P w = .ok () w := by
    unfold Instr.checkKey
    simp [run_underlying hK]
  unfold Instr.mapUpdate
  simp [run_underlying ht, Go.MapKept.run_getObj_map hb, hck, hfk, run_setObj_map _ hb, World.putObj]
end
/-- A kind's name. -/
def nm (i : Nat) : ByteArray :=
  match i with
  | 0 => ⟨#[103, 101, 116]⟩
  | 1 => ⟨#[115, 101, 116]⟩
  | 2 => ⟨#[100, 101, 108, 101, 116, 101]⟩
  | 3 => ⟨#[102, 108, 117, 115, 104]⟩
  | 4 => ⟨#[99, 104, 101, 99, 107, 112, 111, 105, 110, 116]⟩
  | 5 => ⟨#[116, 105, 99, 107]⟩
  | 6 => ⟨#[97, 114, 109]⟩
  | 7 => ⟨#[99, 114, 97, 115, 104]⟩
  | 8 => ⟨#[114, 111, 116]⟩
  | 9 => ⟨#[115, 116, 97, 116, 115]⟩
  | _ => ⟨#[]⟩
/-- Has it a key? -/
def wk (i : Nat) : Bool :=
  match i with
  | 0 => true
  | 1 => true
  | 2 => true
  | 3 => false
  | 4 => false
  | 5 => false
  | 6 => false
  | 7 => false
  | 8 => false
  | 9 => false
  | _ => false
/-- Has it a value? -/
def wv (i : Nat) : Bool :=
  match i with
  | 0 => false
  | 1 => true
  | 2 => false
  | 3 => false
  | 4 => false
  | 5 => false
  | 6 => false
  | 7 => false
  | 8 => false
  | 9 => false
  | _ => false
/-- Has it a number? -/
def wu (i : Nat) : Bool :=
  match i with
  | 0 => false
  | 1 => true
  | 2 => false
  | 3 => false
  | 4 => false
  | 5 => true
  | 6 => true
  | 7 => false
  | 8 => false
  | 9 => false
  | _ => false
/-- How many numbers it has at least. -/
def wl (i : Nat) : Int :=
  match i with
  | 0 => 0
  | 1 => 0
  | 2 => 0
  | 3 => 0
  | 4 => 0
  | 5 => 0
  | 6 => 0
  | 7 => 0
  | 8 => 3
  | 9 => 0
  | _ => 0
/-- How many numbers it has at most. -/
def wm (i : Nat) : Int :=
  match i with
  | 0 => 0
  | 1 => 0
  | 2 => 0
  | 3 => 0
  | 4 => 0
  | 5 => 0
  | 6 => 0
  | 7 => 100
  | 8 => 3
  | 9 => 0
  | _ => 0
/-- What the acts of a kind have, as a value. -/
def whatV (i : Nat) : Value := .agg #[.string (nm i), .bool (wk i), .bool (wv i), .bool (wu i), .int .i64 (wl i), .int .i64 (wm i)]
/-- The map's entries. -/
def kindEs (n : Nat) : Array MapEntry := ((List.range n).map fun (i : Nat) => ({ key := .int .i64 (i : Int), val := whatV i, born := i } : MapEntry)).toArray
theorem kindEs_push (n : Nat) : kindEs (n + 1) = (kindEs n).push { key := .int .i64 (n : Int), val := whatV n, born := n } := by
  unfold kindEs
  rw [List.range_succ, List.map_append]
  simp
theorem kindEs_no (n : Nat) : ∀ e ∈ (kindEs n).toList, ∃ j : Int, e.key = .int .i64 j ∧ j ≠ n := by
  intro e he
  simp only [kindEs, List.mem_map, List.mem_range] at he
  obtain ⟨i, hi, rfl⟩ := he
  exact ⟨i, rfl, by omega⟩
/-- A map of the first kinds stands in block b. -/
structure KindsAt (w : World) (b n : Nat) (W : World) : Prop where
  at_ : W.heap[b]? = some (.map (kindEs n) n)
  bel : Below w.heap.size w W
theorem KindsAt.up {w W : World} {b n : Nat} (h : KindsAt w b n W) (hb : w.heap.size ≤ b) (v : Value) (k : Int) (hv : v = whatV n) (hk : k = n) : ∃ W', (Instr.mapUpdate 63 (.map (some b)) (.int .i64 k) v).run Try.prog W = .ok () W' ∧ KindsAt w b (n + 1) W' := by
  subst hv hk
  refine ⟨_, run_mapUpdate_new Try.underlying63 Try.underlying3 h.at_ (n : Int) (whatV n) (kindEs_no n), ?_, ?_⟩
  · rw [← kindEs_push]
    have := blk_lt h.at_
    simp [World.putObj, this]
  · exact h.bel.trans (Moves.below (S := fun k => k = b) ⟨rfl, rfl, rfl, by rw [World.putObj_size]; exact Nat.le_refl _, fun k hk hne => World.putObj_heap_other hne⟩ (fun j hj => by omega) h.bel.size)
set_option maxRecDepth 100000 in
set_option maxHeartbeats 2000000 in
theorem kinds_any (w : World) : Calls Try.prog 24 #[] w fun e w' => e = .returned (.map (some w.heap.size)) ∧ KindsAt w w.heap.size 10 w' := by
  have h0 : KindsAt w w.heap.size 0 (w.alloc (.map #[] 0)) := ⟨show _ = some (Obj.map #[] 0) from heap_alloc_new _ _, (Below.refl _ w).alloc (Nat.le_refl _) _⟩
  obtain ⟨W1, u0, h1⟩ := h0.up (Nat.le_refl _) (.agg #[.string ⟨#[103, 101, 116]⟩, .bool true, .bool false, .bool false, .int .i64 0, .int .i64 0]) 0 rfl rfl
  obtain ⟨W2, u1, h2⟩ := h1.up (Nat.le_refl _) (.agg #[.string ⟨#[115, 101, 116]⟩, .bool true, .bool true, .bool true, .int .i64 0, .int .i64 0]) 1 rfl rfl
  obtain ⟨W3, u2, h3⟩ := h2.up (Nat.le_refl _) (.agg #[.string ⟨#[100, 101, 108, 101, 116, 101]⟩, .bool true, .bool false, .bool false, .int .i64 0, .int .i64 0]) 2 rfl rfl
  obtain ⟨W4, u3, h4⟩ := h3.up (Nat.le_refl _) (.agg #[.string ⟨#[102, 108, 117, 115, 104]⟩, .bool false, .bool false, .bool false, .int .i64 0, .int .i64 0]) 3 rfl rfl
  obtain ⟨W5, u4, h5⟩ := h4.up (Nat.le_refl _) (.agg #[.string ⟨#[99, 104, 101, 99, 107, 112, 111, 105, 110, 116]⟩, .bool false, .bool false, .bool false, .int .i64 0, .int .i64 0]) 4 rfl rfl
  obtain ⟨W6, u5, h6⟩ := h5.up (Nat.le_refl _) (.agg #[.string ⟨#[116, 105, 99, 107]⟩, .bool false, .bool false, .bool true, .int .i64 0, .int .i64 0]) 5 rfl rfl
  obtain ⟨W7, u6, h7⟩ := h6.up (Nat.le_refl _) (.agg #[.string ⟨#[97, 114, 109]⟩, .bool false, .bool false, .bool true, .int .i64 0, .int .i64 0]) 6 rfl rfl
  obtain ⟨W8, u7, h8⟩ := h7.up (Nat.le_refl _) (.agg #[.string ⟨#[99, 114, 97, 115, 104]⟩, .bool false, .bool false, .bool false, .int .i64 0, .int .i64 100]) 7 rfl rfl
  obtain ⟨W9, u8, h9⟩ := h8.up (Nat.le_refl _) (.agg #[.string ⟨#[114, 111, 116]⟩, .bool false, .bool false, .bool false, .int .i64 3, .int .i64 3]) 8 rfl rfl
  obtain ⟨W10, u9, h10⟩ := h9.up (Nat.le_refl _) (.agg #[.string ⟨#[115, 116, 97, 116, 115]⟩, .bool false, .bool false, .bool false, .int .i64 0, .int .i64 0]) 9 rfl rfl
  have H10 := Lib.hid h10
  have hmm := @run_makeMap Try.prog
  clear h0 h1 h2 h3 h4 h5 h6 h7 h8 h9 h10
  go_enter Try.func24, Try.ntmps24
  go_wp2
  go_ret
  exact ⟨rfl, H10.out⟩
end Go.Proofs.Ytgaabclgoolalaa

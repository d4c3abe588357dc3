/-
  sketch: the mathematics of guesses and marks.
  Conditions: none.
-/
import Derived.Test.YtalgkiagdjckiaaSk6
namespace Go.Proofs.Ytalgkiagdjckiaa
open Go.RowKit

theorem gss_min (C : Nat → Nat → Nat) (N : Nat) (h : BitVec 64) : gss C N h = min (min (min (min 15 (C 0 (plc N h 0))) (C 1 (plc N h 1))) (C 2 (plc N h 2))) (C 3 (plc N h 3)) := rfl
theorem le_gss {C : Nat → Nat → Nat} {N : Nat} {h : BitVec 64} {m : Nat} : m ≤ gss C N h ↔ m ≤ 15 ∧ ∀ r, r < 4 → m ≤ C r (plc N h r) := by
  rw [gss_min]
  constructor
  · intro hm
    have h0 : m ≤ 15 ∧ m ≤ C 0 (plc N h 0) ∧ m ≤ C 1 (plc N h 1) ∧ m ≤ C 2 (plc N h 2) ∧ m ≤ C 3 (plc N h 3) := by
      generalize C 0 (plc N h 0) = a at *
      generalize C 1 (plc N h 1) = b at *
      generalize C 2 (plc N h 2) = c at *
      generalize C 3 (plc N h 3) = d at *
      omega
    refine ⟨h0.1, fun r hr => ?_⟩
    have : r = 0 ∨ r = 1 ∨ r = 2 ∨ r = 3 := by omega
    rcases this with rfl | rfl | rfl | rfl
    · exact h0.2.1
    · exact h0.2.2.1
    · exact h0.2.2.2.1
    · exact h0.2.2.2.2
  · rintro ⟨h1, h2⟩
    have a := h2 0 (by decide)
    have b := h2 1 (by decide)
    have c := h2 2 (by decide)
    have d := h2 3 (by decide)
    exact Nat.le_min.2 ⟨Nat.le_min.2 ⟨Nat.le_min.2 ⟨Nat.le_min.2 ⟨h1, a⟩, b⟩, c⟩, d⟩
theorem gss_le_row {C : Nat → Nat → Nat} {N : Nat} {h : BitVec 64} {r : Nat} (hr : r < 4) : gss C N h ≤ C r (plc N h r) := (le_gss.1 (Nat.le_refl _)).2 r hr
theorem gss_eq {C : Nat → Nat → Nat} {N : Nat} {h : BitVec 64} {n : Nat} (hn : n ≤ 15) (hC : ∀ r, r < 4 → C r (plc N h r) = n) : gss C N h = n :=
  Nat.le_antisymm (by have := gss_le_row (C := C) (N := N) (h := h) (r := 0) (by decide); rwa [hC 0 (by decide)] at this) (le_gss.2 ⟨hn, fun r hr => Nat.le_of_eq (hC r hr).symm⟩)

/-- The counts behind a growth. -/
def grw (C : Nat → Nat → Nat) (N : Nat) (h : BitVec 64) (l s i : Nat) : Nat := if (s < 4 ∧ i = plc N h s) ∧ C s i = l ∧ C s i < 15 then C s i + 1 else C s i
theorem grow1_eq (C : Nat → Nat → Nat) (N : Nat) (h : BitVec 64) (l r s i : Nat) : grow1 C N h l r s i = if (s = r ∧ i = plc N h r) ∧ C s i = l ∧ C s i < 15 then C s i + 1 else C s i := by
  unfold grow1
  by_cases h1 : C r (plc N h r) = l ∧ C r (plc N h r) < 15
  · rw [if_pos h1]
    show (if _ then _ else _) = _
    by_cases h2 : s = r ∧ i = plc N h r
    · obtain ⟨rfl, rfl⟩ := h2
      rw [if_pos ⟨rfl, rfl⟩, if_pos ⟨⟨rfl, rfl⟩, h1⟩]
    · rw [if_neg h2, if_neg (fun h => h2 h.1)]
  · rw [if_neg h1]
    by_cases h2 : s = r ∧ i = plc N h r
    · obtain ⟨rfl, rfl⟩ := h2
      rw [if_neg (fun h => h1 h.2)]
    · rw [if_neg (fun h => h2 h.1)]
theorem grow1_other (C : Nat → Nat → Nat) (N : Nat) (h : BitVec 64) (l r s i : Nat) (hs : s ≠ r) : grow1 C N h l r s i = C s i := by
  rw [grow1_eq, if_neg (fun h => hs h.1.1)]
theorem grow1_row (C : Nat → Nat → Nat) (N : Nat) (h : BitVec 64) (l s i : Nat) (hs : s < 4) : grow1 C N h l s s i = grw C N h l s i := by
  rw [grow1_eq]
  unfold grw
  by_cases h1 : (s = s ∧ i = plc N h s) ∧ C s i = l ∧ C s i < 15
  · rw [if_pos h1, if_pos ⟨⟨hs, h1.1.2⟩, h1.2⟩]
  · rw [if_neg h1, if_neg (fun e => h1 ⟨⟨rfl, e.1.2⟩, e.2⟩)]
theorem grw_congr {C D : Nat → Nat → Nat} {N : Nat} {h : BitVec 64} {l s i : Nat} (e : C s i = D s i) : grw C N h l s i = grw D N h l s i := by unfold grw; rw [e]
theorem growL_eq (C : Nat → Nat → Nat) (N : Nat) (h : BitVec 64) (l : Nat) : growL N h l rows4 C = grw C N h l := by
  funext s i
  show grow1 (grow1 (grow1 (grow1 C N h l 0) N h l 1) N h l 2) N h l 3 s i = _
  by_cases h4 : s < 4
  · have : s = 0 ∨ s = 1 ∨ s = 2 ∨ s = 3 := by omega
    rcases this with rfl | rfl | rfl | rfl
    · rw [grow1_other _ _ _ _ _ _ _ (by decide), grow1_other _ _ _ _ _ _ _ (by decide), grow1_other _ _ _ _ _ _ _ (by decide), grow1_row _ _ _ _ _ _ (by decide)]
    · rw [grow1_other _ _ _ _ _ _ _ (by decide), grow1_other _ _ _ _ _ _ _ (by decide), grow1_row _ _ _ _ _ _ (by decide)]
      exact grw_congr (grow1_other _ _ _ _ _ _ _ (by decide))
    · rw [grow1_other _ _ _ _ _ _ _ (by decide), grow1_row _ _ _ _ _ _ (by decide)]
      exact grw_congr (by rw [grow1_other _ _ _ _ _ _ _ (by decide), grow1_other _ _ _ _ _ _ _ (by decide)])
    · rw [grow1_row _ _ _ _ _ _ (by decide)]
      exact grw_congr (by rw [grow1_other _ _ _ _ _ _ _ (by decide), grow1_other _ _ _ _ _ _ _ (by decide), grow1_other _ _ _ _ _ _ _ (by decide)])
  · rw [grow1_other _ _ _ _ _ _ _ (by omega), grow1_other _ _ _ _ _ _ _ (by omega), grow1_other _ _ _ _ _ _ _ (by omega), grow1_other _ _ _ _ _ _ _ (by omega)]
    unfold grw
    rw [if_neg (fun e => h4 e.1.1)]
theorem grw_ge (C : Nat → Nat → Nat) (N : Nat) (h : BitVec 64) (l s i : Nat) : C s i ≤ grw C N h l s i := by unfold grw; split <;> omega
theorem grw_le (C : Nat → Nat → Nat) (N : Nat) (h : BitVec 64) (l s i : Nat) : grw C N h l s i ≤ C s i + 1 := by unfold grw; split <;> omega
/-- No guess falls by a growth. -/
theorem gss_mono {C D : Nat → Nat → Nat} {N : Nat} {h : BitVec 64} (hCD : ∀ s i, C s i ≤ D s i) : gss C N h ≤ gss D N h :=
  le_gss.2 ⟨gss_le _ _ _, fun _ hr => Nat.le_trans (gss_le_row hr) (hCD _ _)⟩
/-- The guess behind a growth of one's own. -/
theorem gss_grw (C : Nat → Nat → Nat) (N : Nat) (h : BitVec 64) : min (gss C N h + 1) 15 ≤ gss (grw C N h (gss C N h)) N h := by
  refine le_gss.2 ⟨Nat.min_le_right _ _, fun r hr => ?_⟩
  have h1 := gss_le_row (C := C) (N := N) (h := h) hr
  unfold grw
  by_cases h2 : C r (plc N h r) = gss C N h ∧ C r (plc N h r) < 15
  · rw [if_pos ⟨⟨hr, rfl⟩, h2⟩]; omega
  · rw [if_neg (fun e => h2 e.2)]
    have h3 := gss_le C N h
    by_cases e : C r (plc N h r) = gss C N h
    · have : ¬ C r (plc N h r) < 15 := fun hl => h2 ⟨e, hl⟩
      omega
    · omega
/-- From counts that are the same at a number's places: all grow. -/
theorem grw_all {C : Nat → Nat → Nat} {N : Nat} {h : BitVec 64} {n : Nat} (hn : n < 15) (hC : ∀ r, r < 4 → C r (plc N h r) = n) : ∀ r, r < 4 → grw C N h n r (plc N h r) = n + 1 := by
  intro r hr
  unfold grw
  rw [if_pos ⟨⟨hr, rfl⟩, hC r hr, by rw [hC r hr]; exact hn⟩, hC r hr]
theorem hlv_row4 {C : Nat → Nat → Nat} {N : Nat} {h : BitVec 64} {n : Nat} (hC : ∀ r, r < 4 → C r (plc N h r) = n) : ∀ r, r < 4 → hlv C r (plc N h r) = n / 2 := by
  intro r hr
  unfold hlv
  rw [hC r hr]
theorem mrkC_young {C : Nat → Nat → Nat} {N : Nat} {k : BitVec 64} {age : Nat} (h : age + 1 ≠ 10 * N) : mrkC C N k age = grw C N k (gss C N k) := by
  unfold mrkC; rw [if_neg h, growL_eq]
theorem mrkC_old {C : Nat → Nat → Nat} {N : Nat} {k : BitVec 64} {age : Nat} (h : age + 1 = 10 * N) : mrkC C N k age = hlv (grw C N k (gss C N k)) := by
  unfold mrkC; rw [if_pos h, growL_eq]
end Go.Proofs.Ytalgkiagdjckiaa

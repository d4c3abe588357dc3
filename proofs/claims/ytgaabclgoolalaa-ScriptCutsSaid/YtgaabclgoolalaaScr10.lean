/-
  The document's acts in memory; sgraffitolaw20's light, of.
  Conditions: none.
-/
import Derived.Test.YtgaabclgoolalaaScr9
namespace Go.Proofs.Ytgaabclgoolalaa
open Go.RowKit
attribute [local go_sem] Oper.semAt_some

theorem bel_al {w W : World} {o : Obj} (h : Below w.heap.size w W) : Below w.heap.size w (W.alloc o) := h.alloc h.size o
theorem bel_bw2 {w W : World} {e : TypeId} {s : ByteArray} (h : Below w.heap.size w W) : Below w.heap.size w (Lib.bytesWorld W e s) := bel_bw h h.size
/-- A document's act stands at a place. -/
def DocAt (n : Nat) (W : World) (g o : Nat) (x : SAct) : Prop := ∃ a3 c3, (W.cell? ⟨g, o, none⟩ = some (.int .i64 x.kind) ∧ W.cell? ⟨g, o + 1, none⟩ = some (.string (strB x.key)) ∧ W.cell? ⟨g, o + 2, none⟩ = some (.string (strB x.val)) ∧ W.cell? ⟨g, o + 3, none⟩ = some (.int .i64 x.num) ∧ W.cell? ⟨g, o + 4, none⟩ = some (.slice a3 x.nums.length c3)) ∧ IntsAt n W (.slice a3 x.nums.length c3) x.nums
theorem DocAt.below {n : Nat} {W W' : World} {g o : Nat} {x : SAct} (h : DocAt n W g o x) (hg : g < n) (hb : Below n W W') : DocAt n W' g o x := by
  obtain ⟨a3, c3, ⟨h0, h1, h2, h3, h4⟩, k3⟩ := h
  exact ⟨a3, c3, ⟨(hb.cell (p := ⟨g, _, none⟩) hg).trans h0, (hb.cell (p := ⟨g, _, none⟩) hg).trans h1, (hb.cell (p := ⟨g, _, none⟩) hg).trans h2, (hb.cell (p := ⟨g, _, none⟩) hg).trans h3, (hb.cell (p := ⟨g, _, none⟩) hg).trans h4⟩, k3.below hb⟩
theorem DocAt.mono {n m : Nat} {W : World} {g o : Nat} {x : SAct} (h : DocAt n W g o x) (hm : n ≤ m) : DocAt m W g o x := by
  obtain ⟨a3, c3, h0, k3⟩ := h
  exact ⟨a3, c3, h0, k3.mono hm⟩
/-- A row of the document's acts. -/
def DocsAt (n : Nat) (W : World) (v : Value) (l : List SAct) : Prop := ∃ a c, v = .slice a l.length c ∧ l.length ≤ c ∧ (l = [] ∨ ∃ g off, a = some ⟨g, off, none⟩ ∧ g < n ∧ ∀ i, i < l.length → DocAt n W g (off + i * 5) (l[i]?.getD default))
theorem DocsAt.below {n : Nat} {W W' : World} {v : Value} {l : List SAct} (h : DocsAt n W v l) (hb : Below n W W') : DocsAt n W' v l := by
  obtain ⟨a, c, hv, hc, h⟩ := h
  refine ⟨a, c, hv, hc, ?_⟩
  rcases h with h | ⟨g, off, ha, hg, h⟩
  · exact .inl h
  · exact .inr ⟨g, off, ha, hg, fun i hi => (h i hi).below hg hb⟩
theorem DocsAt.mono {n m : Nat} {W : World} {v : Value} {l : List SAct} (h : DocsAt n W v l) (hm : n ≤ m) : DocsAt m W v l := by
  obtain ⟨a, c, hv, hc, h⟩ := h
  refine ⟨a, c, hv, hc, ?_⟩
  rcases h with h | ⟨g, off, ha, hg, h⟩
  · exact .inl h
  · exact .inr ⟨g, off, ha, by omega, fun i hi => (h i hi).mono hm⟩
theorem DocsAt.next {W W' : World} {v : Value} {l : List SAct} (h : DocsAt W.heap.size W v l) (hb : Below W.heap.size W W') : DocsAt W'.heap.size W' v l := (h.below hb).mono hb.size
theorem DocsAt.slice {n : Nat} {W : World} {v : Value} {l : List SAct} (h : DocsAt n W v l) : ∃ a c, v = .slice a l.length c ∧ l.length ≤ c := by
  obtain ⟨a, c, hv, hc, _⟩ := h; exact ⟨a, c, hv, hc⟩
theorem DocsAt.get {n : Nat} {W : World} {a : Option Addr} {k c : Nat} {l : List SAct} (h : DocsAt n W (.slice a k c) l) {i : Nat} (hi : i < l.length) : ∃ g off, a = some ⟨g, off, none⟩ ∧ g < n ∧ DocAt n W g (off + i * 5) (l[i]?.getD default) := by
  obtain ⟨a', c', e, hc, h⟩ := h
  cases e
  rcases h with h | ⟨g, off, ha, hg, h⟩
  · rw [h] at hi; exact absurd hi (by simp)
  · exact ⟨g, off, ha, hg, h i hi⟩
/-- Are acts few, and short? -/
def litA (x : SAct) : Bool := decide (x.key.length ≤ 200) && (decide (x.val.length ≤ 500) && decide (x.nums.length ≤ 120))
def lightL (l : List SAct) : Bool := decide (l.length ≤ 60) && l.all litA
theorem lit_at {l : List SAct} (h : ∀ i, i < l.length → litA (l[i]?.getD default) = true) : l.all litA = true := by
  rw [List.all_eq_true]
  intro x hx
  obtain ⟨i, hi, rfl⟩ := List.mem_iff_getElem.1 hx
  have := h i hi
  rwa [List.getElem?_eq_getElem hi] at this
theorem lit_no {l : List SAct} {i : Nat} (hi : i < l.length) (h : litA (l[i]?.getD default) = false) : l.all litA = false := by
  rw [Bool.eq_false_iff]
  intro h9
  rw [List.all_eq_true] at h9
  rw [List.getElem?_eq_getElem hi] at h
  have h8 : litA l[i] = false := h
  rw [h9 _ (List.getElem_mem hi)] at h8
  cases h8
set_option maxRecDepth 100000 in
set_option maxHeartbeats 4000000 in
theorem light_any (v : Value) (l : List SAct) (w : World) (hE : DocsAt w.heap.size w v l) : Calls Try.prog 10 #[v] w fun e w' => e = .returned (.bool (lightL l)) ∧ Below w.heap.size w w' := by
  obtain ⟨a, c, rfl, hc⟩ := hE.slice
  by_cases hbig : 60 < l.length
  · have h1 : (60 : Int) < l.length := by omega
    have HR : Hid (lightL l = false) := by unfold Hid lightL; rw [decide_eq_false (by omega)]; rfl
    clear hE hbig
    go_enter Try.func10, Try.ntmps10
    go_wp2
    go_ret
    exact ⟨by rw [HR.out]; try rfl, Below.refl _ _⟩
  · have h1 : (l.length : Int) ≤ 60 := by omega
    have HL : Hid (decide (l.length ≤ 60) = true) := by unfold Hid; rw [decide_eq_true (by omega)]
    have HE := Lib.hid hE
    clear hE hbig
    go_enter Try.func10, Try.ntmps10
    go_wp2
    go_loop [3] (fun i => ∃ j : Nat, j ≤ l.length ∧ i = .int .i64 j ∧ ∀ i, i < j → litA (l[i]?.getD default) = true) (fun i => l.length - (intOf i).toNat)
    case atStart => exact ⟨0, Nat.zero_le _, rfl, fun i hi => absurd hi (by omega)⟩
    case round =>
      obtain ⟨j, hj, rfl, hA⟩ := hrel
      have HA := Lib.hid hA
      clear hA
      by_cases hlt : j < l.length
      · obtain ⟨g, off, rfl, hg, a3, c3, ⟨e0, e1, e2, e3, e4⟩, _⟩ := HE.out.get hlt
        have j1 : (j : Int) < l.length := by omega
        have HLT := Lib.hid hlt
        obtain ⟨x, hx⟩ : ∃ x, (l[j]?.getD default) = x := ⟨_, rfl⟩
        rw [hx] at e1 e2 e4
        have HX := Lib.hid hx
        have s1 : (strB x.key).size = x.key.length := strB_size _
        have s2 : (strB x.val).size = x.val.length := strB_size _
        clear e0 e3 hx hlt hg hj
        by_cases hk : x.key.length ≤ 200
        · have k1 : ¬ (200 : Int) < x.key.length := by omega
          by_cases hv : x.val.length ≤ 500
          · have v1 : ¬ (500 : Int) < x.val.length := by omega
            by_cases hn : x.nums.length ≤ 120
            · have n1 : ¬ (120 : Int) < x.nums.length := by omega
              have HR : Hid (litA x = true) := by unfold Hid litA; simp [hk, hv, hn]
              clear hk hv hn
              go_wp2
              exact ⟨⟨j + 1, HLT.out, by go_num, fun i hi => by
                by_cases h9 : i < j
                · exact HA.out i h9
                · obtain rfl : i = j := by omega
                  rw [HX.out]; exact HR.out⟩, by have := HLT.out; simp [intOf]; omega⟩
            · have n1 : (120 : Int) < x.nums.length := by omega
              have HR : Hid (lightL l = false) := by
                unfold Hid lightL
                rw [lit_no HLT.out (by rw [HX.out]; unfold litA; simp [hn]), Bool.and_false]
              clear hk hv hn
              go_wp2
              go_ret
              exact ⟨by rw [HR.out]; try rfl, Below.refl _ _⟩
          · have v1 : (500 : Int) < x.val.length := by omega
            have HR : Hid (lightL l = false) := by
              unfold Hid lightL
              rw [lit_no HLT.out (by rw [HX.out]; unfold litA; simp [hv]), Bool.and_false]
            clear hk hv
            go_wp2
            go_ret
            exact ⟨by rw [HR.out]; try rfl, Below.refl _ _⟩
        · have k1 : (200 : Int) < x.key.length := by omega
          have HR : Hid (lightL l = false) := by
            unfold Hid lightL
            rw [lit_no HLT.out (by rw [HX.out]; unfold litA; simp [hk]), Bool.and_false]
          clear hk
          go_wp2
          go_ret
          exact ⟨by rw [HR.out]; try rfl, Below.refl _ _⟩
      · obtain rfl : j = l.length := by omega
        have HR : Hid (lightL l = true) := by unfold Hid lightL; rw [HL.out, lit_at HA.out]; rfl
        clear hj
        go_wp2
        go_ret
        exact ⟨by rw [HR.out]; try rfl, Below.refl _ _⟩
end Go.Proofs.Ytgaabclgoolalaa

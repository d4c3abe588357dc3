/-
  The document's device in memory; sgraffitoref04's act, there, Right.
  Conditions: none.
-/
import Derived.Test.YtadglpnmhpmebaaPastC
import Derived.Test.YtadglpnmhpmebaaPastOut
import Derived.Laws.Rows
import Derived.Deep.AppendLies
namespace Go.Proofs.Ytadglpnmhpmebaa
open Go.RowKit
attribute [-go_sem] Instr.build Instr.fill

/-- A row that is read: m things of so many cells, at the beginning of a block below n. -/
def RowF (n : Nat) (W : World) (v : Value) (e : TypeId) (size m : Nat) (f : Nat → Value) : Prop := (m = 0 ∧ v = .slice none 0 0) ∨ ∃ g c, 0 < m ∧ v = .slice (some ⟨g, 0, none⟩) m c ∧ m ≤ c ∧ g < n ∧ (∀ i, i < m * size → W.cell? ⟨g, i, none⟩ = some (f i)) ∧ ∃ cs sp, W.heap[g]? = some (.cells cs e sp)
section
variable {n n' : Nat} {W W' : World} {v : Value} {e : TypeId} {size m : Nat} {f : Nat → Value}
theorem RowF.below (h : RowF n W v e size m f) (hb : Below n W W') : RowF n W' v e size m f := by
  rcases h with h | ⟨g, c, hm, hv, hc, hg, h, cs, sp, ht⟩
  · exact .inl h
  · exact .inr ⟨g, c, hm, hv, hc, hg, fun i hi => (hb.cell (p := ⟨g, i, none⟩) hg).trans (h i hi), cs, sp, (hb.block g hg).trans ht⟩
theorem RowF.mono (h : RowF n W v e size m f) (hn : n ≤ n') : RowF n' W v e size m f := by
  rcases h with h | ⟨g, c, hm, hv, hc, hg, h⟩
  · exact .inl h
  · exact .inr ⟨g, c, hm, hv, hc, Nat.lt_of_lt_of_le hg hn, h⟩
theorem RowF.slice (h : RowF n W v e size m f) : ∃ a c, v = .slice a m c := by
  rcases h with ⟨rfl, rfl⟩ | ⟨g, c, _, rfl, _⟩
  · exact ⟨_, _, rfl⟩
  · exact ⟨_, _, rfl⟩
/-- A block of another type turns. -/
theorem RowF.turn (h : RowF n W v e size m f) {X : Nat} {cx : Array Value} {T : TypeId} {sx : Nat × Nat} (hX : W.heap[X]? = some (.cells cx T sx)) (hT : T ≠ e) (hn : n ≤ W.heap.size) (hm' : Moves (fun k => k = X) W W') : RowF n W' v e size m f := by
  rcases h with h | ⟨g, c, hm, hv, hc, hg, h, cs, sp, ht⟩
  · exact .inl h
  · have hne : ¬ g = X := fun e' => by
      rw [e', hX] at ht
      cases ht
      exact hT rfl
    exact .inr ⟨g, c, hm, hv, hc, hg, fun i hi => (hm'.cell (p := ⟨g, i, none⟩) (Nat.lt_of_lt_of_le hg hn) hne).trans (h i hi), cs, sp, (hm'.block g (Nat.lt_of_lt_of_le hg hn) hne).trans ht⟩
end
/-- A row of texts. -/
abbrev StrsF (n : Nat) (W : World) (v : Value) (m : Nat) (f : Nat → List (BitVec 8)) : Prop := RowF n W v 9 1 m fun i => .string (strB (f i))
/-- A row of loose writes. -/
def wrC (l : List (Nat × List (BitVec 8))) (i : Nat) : Value := if i % 2 = 0 then .int .i64 ((l[i / 2]?.getD default).1 : Int) else .string (strB (l[i / 2]?.getD default).2)
abbrev WrsF (n : Nat) (W : World) (v : Value) (l : List (Nat × List (BitVec 8))) : Prop := RowF n W v 76 2 l.length (wrC l)
/-- A row of rows of texts. -/
def PstF (n : Nat) (W : World) (v : Value) (m : Nat) (p : Nat → List (List (BitVec 8))) : Prop := ∃ us : Nat → Value, RowF n W v 29 1 m us ∧ ∀ k, k < m → StrsF n W (us k) (p k).length fun i => (p k)[i]?.getD []
def rdC (size : Nat) (vF vL vP : Value) (armed acts : Int) (down : Bool) : Array Value := #[.int .i64 size, vF, vL, vP, .int .i64 armed, .int .i64 acts, .bool down]
/-- The document's device. -/
def RefAt (n : Nat) (W : World) (vF vL vP : Value) (d : Dev) : Prop := StrsF n W vF d.sectors d.fast ∧ WrsF n W vL d.loose ∧ PstF n W vP d.sectors d.pasts
section
variable {n n' : Nat} {W W' : World} {vF vL vP : Value} {d : Dev}
theorem PstF.below {v : Value} {m : Nat} {p : Nat → List (List (BitVec 8))} (h : PstF n W v m p) (hb : Below n W W') : PstF n W' v m p := by
  obtain ⟨us, h1, h2⟩ := h
  exact ⟨us, h1.below hb, fun k hk => (h2 k hk).below hb⟩
theorem PstF.mono {v : Value} {m : Nat} {p : Nat → List (List (BitVec 8))} (h : PstF n W v m p) (hn : n ≤ n') : PstF n' W v m p := by
  obtain ⟨us, h1, h2⟩ := h
  exact ⟨us, h1.mono hn, fun k hk => (h2 k hk).mono hn⟩
theorem RefAt.below (h : RefAt n W vF vL vP d) (hb : Below n W W') : RefAt n W' vF vL vP d := ⟨h.1.below hb, h.2.1.below hb, h.2.2.below hb⟩
theorem RefAt.mono (h : RefAt n W vF vL vP d) (hn : n ≤ n') : RefAt n' W vF vL vP d := ⟨h.1.mono hn, h.2.1.mono hn, h.2.2.mono hn⟩
theorem RefAt.next (h : RefAt W.heap.size W vF vL vP d) (hb : Below W.heap.size W W') : RefAt W'.heap.size W' vF vL vP d := (h.below hb).mono hb.size
theorem RefAt.turn (h : RefAt n W vF vL vP d) {X : Nat} {cx : Array Value} {sx : Nat × Nat} (hX : W.heap[X]? = some (.cells cx 33 sx)) (hn : n ≤ W.heap.size) (hm : Moves (fun k => k = X) W W') : RefAt n W' vF vL vP d := by
  obtain ⟨h1, h2, us, h3, h4⟩ := h
  exact ⟨h1.turn hX (by decide) hn hm, h2.turn hX (by decide) hn hm, us, h3.turn hX (by decide) hn hm, fun k hk => (h4 k hk).turn hX (by decide) hn hm⟩
theorem RefAt.act (h : RefAt n W vF vL vP d) : RefAt n W vF vL vP d.act := h
end
def rd0 : Array Value := rdC 0 (.slice none 0 0) (.slice none 0 0) (.slice none 0 0) 0 0 false
theorem rd_sz (size : Nat) (vF vL vP : Value) (armed acts : Int) (down : Bool) : (Try.prog.info? 33).map (·.size) = some (rdC size vF vL vP armed acts down).size := by show _ = some 7; kernel_rfl
theorem rd_one {size : Nat} {a1 a2 a3 : Option Addr} {n1 n2 n3 c1 c2 c3 : Nat} {armed acts : Int} {down : Bool} : (rdC size (.slice a1 n1 c1) (.slice a2 n2 c2) (.slice a3 n3 c3) armed acts down).all (·.oneCell') = true := by simp [rdC, Value.oneCell']
set_option maxRecDepth 100000 in
set_option maxHeartbeats 4000000 in
theorem refRight04_any (s z : Int) (w : World) : Calls Try.prog 7 #[.int .i64 s, .int .i64 z] w fun e w' => e = .returned (.bool (decide ((1 ≤ s ∧ s ≤ 16384) ∧ (96 ≤ z ∧ z ≤ 512)))) ∧ w = w' := by
  by_cases h1 : 1 ≤ s
  · by_cases h2 : s ≤ 16384
    · by_cases h3 : 96 ≤ z
      · by_cases h4 : z ≤ 512
        · have hd : decide ((1 ≤ s ∧ s ≤ 16384) ∧ (96 ≤ z ∧ z ≤ 512)) = true := by simp [h1, h2, h3, h4]
          rw [hd]
          clear hd
          go_enter Try.func7, Try.ntmps7
          go_wp2
          go_ret
          exact ⟨rfl, rfl⟩
        · have hd : decide ((1 ≤ s ∧ s ≤ 16384) ∧ (96 ≤ z ∧ z ≤ 512)) = false := by simp [h4]
          rw [hd]
          clear hd
          go_enter Try.func7, Try.ntmps7
          go_wp2
          go_ret
          exact ⟨rfl, rfl⟩
      · have hd : decide ((1 ≤ s ∧ s ≤ 16384) ∧ (96 ≤ z ∧ z ≤ 512)) = false := by simp [h3]
        rw [hd]
        clear hd
        go_enter Try.func7, Try.ntmps7
        go_wp2
        go_ret
        exact ⟨rfl, rfl⟩
    · have hd : decide ((1 ≤ s ∧ s ≤ 16384) ∧ (96 ≤ z ∧ z ≤ 512)) = false := by simp [h2]
      rw [hd]
      clear hd
      go_enter Try.func7, Try.ntmps7
      go_wp2
      go_ret
      exact ⟨rfl, rfl⟩
  · have hd : decide ((1 ≤ s ∧ s ≤ 16384) ∧ (96 ≤ z ∧ z ≤ 512)) = false := by simp [h1]
    rw [hd]
    clear hd
    go_enter Try.func7, Try.ntmps7
    go_wp2
    go_ret
    exact ⟨rfl, rfl⟩
set_option maxRecDepth 100000 in
set_option maxHeartbeats 4000000 in
theorem there_any (size m : Nat) (a1 : Option Addr) (c1 : Nat) (vL vP : Value) (armed acts : Int) (down : Bool) (at_ : Int) (w : World) : Calls Try.prog 40 #[.agg (rdC size (.slice a1 m c1) vL vP armed acts down), .int .i64 at_] w fun e w' => e = .returned (.bool (decide (0 ≤ at_ ∧ at_ < m))) ∧ Below w.heap.size w w' := by
  have hX : (w.alloc (.cells (rdC size (.slice a1 m c1) vL vP armed acts down) 33)).heap[w.heap.size]? = some (.cells (rdC size (.slice a1 m c1) vL vP armed acts down) 33 (0, 0)) := heap_alloc_new _ _
  have hB : Below w.heap.size w (w.alloc (.cells (rdC size (.slice a1 m c1) vL vP armed acts down) 33)) := (Below.refl _ _).alloc (Nat.le_refl _) _
  have HB := Lib.hid hB
  have c1' := blk_cell hX 1
  unfold rdC at c1' HB ⊢
  clear hX hB
  by_cases h1 : 0 ≤ at_
  · by_cases h2 : at_ < (m : Int)
    · have hd : decide (0 ≤ at_ ∧ at_ < (m : Int)) = true := by simp [h1, h2]
      rw [hd]
      clear hd
      go_enter Try.func40, Try.ntmps40
      go_wp2
      go_ret
      exact ⟨rfl, HB.out⟩
    · have hd : decide (0 ≤ at_ ∧ at_ < (m : Int)) = false := by simp [h2]
      rw [hd]
      clear hd
      go_enter Try.func40, Try.ntmps40
      go_wp2
      go_ret
      exact ⟨rfl, HB.out⟩
  · have hd : decide (0 ≤ at_ ∧ at_ < (m : Int)) = false := by simp [h1]
    rw [hd]
    clear hd
    go_enter Try.func40, Try.ntmps40
    go_wp2
    go_ret
    exact ⟨rfl, HB.out⟩
end Go.Proofs.Ytadglpnmhpmebaa

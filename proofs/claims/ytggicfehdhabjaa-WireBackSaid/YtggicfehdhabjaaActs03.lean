/-
  A slice of wire's acts that came in, as a list; sgraffitolaw03.light.
  Conditions: none.
-/
import Derived.Test.YtggicfehdhabjaaOpenB
import Derived.Test.YtggicfehdhabjaaWireAwake
namespace Go.Proofs.Ytggicfehdhabjaa
open Go.ChangeShapes Go.WideShapes Go.ChangeAt Go.RowKit Go.Deep

/-- An act. -/
structure Act3 where
  kind : Int
  len : Int
  n : BitVec 64
  b : List (BitVec 8)
instance : Inhabited Act3 := ⟨⟨0, 0, 0#64, []⟩⟩
/-- An act that can be read. -/
def Act3.wf (x : Act3) : Prop := (-9223372036854775808 ≤ x.kind ∧ x.kind ≤ 9223372036854775807) ∧ (-9223372036854775808 ≤ x.len ∧ x.len ≤ 9223372036854775807) ∧ x.b.length ≤ maxLen
/-- The four cells of an act. -/
def ActAt (n₀ : Nat) (w : World) (g o : Nat) (x : Act3) : Prop :=
  w.cell? ⟨g, o, none⟩ = some (.int .i64 x.kind) ∧ w.cell? ⟨g, o + 1, none⟩ = some (.int .i64 x.len) ∧ w.cell? ⟨g, o + 2, none⟩ = some (.int .u64 (U x.n)) ∧ ∃ u, w.cell? ⟨g, o + 3, none⟩ = some u ∧ BytesAt n₀ w u x.b
/-- A slice of acts. -/
def ActsAt (n₀ : Nat) (w : World) (v : Value) (l : List Act3) : Prop :=
  ∃ a cap, v = .slice a l.length cap ∧ l.length ≤ cap ∧ (∀ x ∈ l, x.wf) ∧ (l = [] ∨ ∃ g off, a = some ⟨g, off, none⟩ ∧ g < n₀ ∧ ∀ i, i < l.length → ActAt n₀ w g (off + i * 4) (l[i]?.getD default))

section
variable {H : Type} {enc : TypeId × Value → H}
theorem open_acts {W : World} {base : Nat} {v : Value} {d : DataW H} {p : List MemPlace} (o : Value.okWide Try.prog W .any base 32 v) (h : DataW.Trod enc Try.prog W 0 (fun _ => true) true 32 v d p) : ∃ l, ActsAt W.heap.size W v l ∧ l.length ≤ maxLen := by
  obtain ⟨a, len, cap, rfl, hl, hm, ha, hr⟩ := open_structs Try.underlying32 Try.underlying37 (by kernel_rfl) (by kernel_rfl) (by decide) o h
  rcases hr with rfl | ⟨g, off, rfl, hg, hf⟩
  · exact ⟨[], ⟨a, cap, rfl, Nat.zero_le _, by simp, .inl rfl⟩, Nat.zero_le _⟩
  · have each : ∀ i, i < len → ∃ x : Act3, x.wf ∧ ActAt W.heap.size W g (off + i * 4) x := by
      intro i hi
      obtain ⟨u0, _, _, c0, t0⟩ := hf i hi 0 _ rfl
      obtain ⟨u1, _, _, c1, t1⟩ := hf i hi 1 _ rfl
      obtain ⟨u2, _, _, c2, t2⟩ := hf i hi 2 _ rfl
      obtain ⟨u3, _, _, c3, t3⟩ := hf i hi 3 _ rfl
      obtain ⟨kind, rfl, w0⟩ := int_cell t0
      obtain ⟨ln, rfl, w1⟩ := int_cell t1
      obtain ⟨n, rfl⟩ := u64_cell t2
      obtain ⟨bs, hb, hbl⟩ := bytes_cell t3
      exact ⟨⟨kind, ln, n, bs⟩, ⟨wf_i64 w0, wf_i64 w1, hbl⟩, c0, c1, c2, u3, c3, hb⟩
    refine ⟨(List.range len).map fun i => if hi : i < len then Classical.choose (each i hi) else default, ⟨some ⟨g, off, none⟩, cap, by simp, by simpa using hl, ?_, .inr ⟨g, off, rfl, hg, fun i hi => ?_⟩⟩, by simpa using hm⟩
    · intro x hx
      obtain ⟨i, hi, rfl⟩ := List.mem_map.1 hx
      have hi := List.mem_range.1 hi
      rw [dif_pos hi]
      exact (Classical.choose_spec (each i hi)).1
    · have hi' : i < len := by simpa using hi
      simp only [List.getElem?_map, List.getElem?_range hi', Option.map_some, Option.getD_some, dif_pos hi']
      exact (Classical.choose_spec (each i hi')).2
end

theorem ActAt.below {n₀ : Nat} {w w' : World} {g o : Nat} {x : Act3} (h : ActAt n₀ w g o x) (hb : Below n₀ w w') (hg : g < n₀) : ActAt n₀ w' g o x := by
  obtain ⟨h0, h1, h2, u, h3, h4⟩ := h
  exact ⟨(hb.cell (p := ⟨g, o, none⟩) hg).trans h0, (hb.cell (p := ⟨g, o + 1, none⟩) hg).trans h1, (hb.cell (p := ⟨g, o + 2, none⟩) hg).trans h2, u, (hb.cell (p := ⟨g, o + 3, none⟩) hg).trans h3, h4.below hb⟩

/-- Are acts few, and short? -/
def lightB (l : List Act3) : Bool := decide (l.length ≤ 40) && l.all fun x => decide (x.b.length ≤ 300)

set_option maxHeartbeats 1000000 in
theorem light_any (l : List Act3) (v : Value) (w : World) (hv : ActsAt w.heap.size w v l) (hm : l.length ≤ maxLen) : Calls Try.prog 14 #[v] w fun e w' => e = .returned (.bool (lightB l)) ∧ w = w' := by
  unfold maxLen at hm
  obtain ⟨a, cap, rfl, hcap, hwf, hv⟩ := hv
  by_cases hbig : 40 < l.length
  · have hL : lightB l = false := by simp [lightB]; omega
    have HL := Lib.hid hL
    have b1 : (40 : Int) < l.length := by omega
    clear hL hwf hv
    go_enter Try.func14, Try.ntmps14
    go_wp2
    go_ret
    exact ⟨by rw [HL.out]; rfl, rfl⟩
  have b1 : (l.length : Int) ≤ 40 := by omega
  go_enter Try.func14, Try.ntmps14
  go_wp2
  go_loop [3] (fun i => ∃ k : Nat, k ≤ l.length ∧ i = .int .i64 k ∧ ∀ j, j < k → (l[j]?.getD default).b.length ≤ 300) (fun i => l.length - (intOf i).toNat)
  case atStart => exact ⟨0, Nat.zero_le _, rfl, fun j hj => absurd hj (by omega)⟩
  case round =>
    obtain ⟨k, hk, rfl, hno⟩ := hrel
    by_cases hlt : k < l.length
    · rcases hv with h | ⟨g, off, rfl, hg, hc⟩
      · subst h; simp at hlt
      obtain ⟨_, _, _, u, c3, hu⟩ := hc k hlt
      have HN := Lib.hid hno
      have HW := Lib.hid hwf
      clear hno hc hwf
      have k0 : (0 : Int) ≤ k := by omega
      have k1 : (k : Int) < l.length := by omega
      obtain ⟨x, hx⟩ : ∃ x, l[k]?.getD default = x := ⟨_, rfl⟩
      have hmem : x ∈ l := by rw [← hx]; simp [hlt]
      rw [hx] at hu
      have HX := Lib.hid hx
      clear hx
      have hm2 : x.b.length ≤ 9223372036854775807 := by have := (HW.out x hmem).2.2; unfold maxLen at this; exact this
      obtain ⟨au, cu, rfl, _, _, _⟩ := hu
      by_cases hlong : 300 < x.b.length
      · have hL : lightB l = false := by
          unfold lightB
          rw [Bool.and_eq_false_iff]
          right
          rw [List.all_eq_false]
          exact ⟨x, hmem, by simp; omega⟩
        have HL := Lib.hid hL
        have hl1 : (300 : Int) < x.b.length := by omega
        clear hL hlong hmem
        go_wp2
        go_ret
        exact ⟨by rw [HL.out]; rfl, rfl⟩
      · have hl1 : (x.b.length : Int) ≤ 300 := by omega
        go_wp2
        go_round
        case rel =>
          refine ⟨k + 1, by omega, by go_num, fun j hj => ?_⟩
          by_cases hjk : j = k
          · subst hjk; rw [HX.out]; omega
          · exact HN.out j (by omega)
        case measure => simp [intOf]; omega
    · obtain rfl : k = l.length := by omega
      have hL : lightB l = true := by
        unfold lightB
        rw [Bool.and_eq_true]
        refine ⟨by simp; omega, ?_⟩
        rw [List.all_eq_true]
        intro x hx
        obtain ⟨j, hj, rfl⟩ := List.mem_iff_getElem.1 hx
        have := hno j hj
        simpa [hj] using this
      have HL := Lib.hid hL
      clear hL hno hv hwf
      go_wp2
      go_ret
      exact ⟨by rw [HL.out]; rfl, rfl⟩

end Go.Proofs.Ytggicfehdhabjaa

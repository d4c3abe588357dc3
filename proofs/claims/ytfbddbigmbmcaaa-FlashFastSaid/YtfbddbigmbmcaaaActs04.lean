/-
  flash's acts as lists; sgraffitolaw04.light, bytes and did.
  Conditions: none.
-/
import Derived.Test.YtfbddbigmbmcaaaOpenC
import Derived.Test.YtfbddbigmbmcaaaFlashApart
import Derived.Test.YtfbddbigmbmcaaaAwake04
namespace Go.Proofs.Ytfbddbigmbmcaaa
open Go.ChangeShapes Go.WideShapes Go.ChangeAt Go.RowKit Go.Deep

/-- An act. -/
structure Act4 where
  kind : Int
  at_ : Int
  len : Int
  b : BitVec 8
  fates : List Int
instance : Inhabited Act4 := ⟨⟨0, 0, 0, 0#8, []⟩⟩
def Act4.wf (x : Act4) : Prop := (-9223372036854775808 ≤ x.kind ∧ x.kind ≤ 9223372036854775807) ∧ (-9223372036854775808 ≤ x.at_ ∧ x.at_ ≤ 9223372036854775807) ∧ (-9223372036854775808 ≤ x.len ∧ x.len ≤ 9223372036854775807) ∧ x.fates.length ≤ maxLen
/-- The five cells of an act. -/
def ActAt4 (n₀ : Nat) (w : World) (g o : Nat) (x : Act4) : Prop :=
  w.cell? ⟨g, o, none⟩ = some (.int .i64 x.kind) ∧ w.cell? ⟨g, o + 1, none⟩ = some (.int .i64 x.at_) ∧ w.cell? ⟨g, o + 2, none⟩ = some (.int .i64 x.len) ∧ w.cell? ⟨g, o + 3, none⟩ = some (.int .u8 (U x.b)) ∧ ∃ u, w.cell? ⟨g, o + 4, none⟩ = some u ∧ IntsIn n₀ w u x.fates
/-- A slice of acts. -/
def ActsAt4 (n₀ : Nat) (w : World) (v : Value) (l : List Act4) : Prop :=
  ∃ a cap, v = .slice a l.length cap ∧ l.length ≤ cap ∧ (∀ x ∈ l, x.wf) ∧ (l = [] ∨ ∃ g off, a = some ⟨g, off, none⟩ ∧ g < n₀ ∧ ∀ i, i < l.length → ActAt4 n₀ w g (off + i * 5) (l[i]?.getD default))
theorem ActAt4.below {n₀ : Nat} {w w' : World} {g o : Nat} {x : Act4} (h : ActAt4 n₀ w g o x) (hb : Below n₀ w w') (hg : g < n₀) : ActAt4 n₀ w' g o x := by
  obtain ⟨h0, h1, h2, h3, u, h4, h5⟩ := h
  exact ⟨(hb.cell (p := ⟨g, o, none⟩) hg).trans h0, (hb.cell (p := ⟨g, o + 1, none⟩) hg).trans h1, (hb.cell (p := ⟨g, o + 2, none⟩) hg).trans h2, (hb.cell (p := ⟨g, o + 3, none⟩) hg).trans h3, u, (hb.cell (p := ⟨g, o + 4, none⟩) hg).trans h4, h5.below hb⟩

section
variable {H : Type} {enc : TypeId × Value → H}
set_option maxRecDepth 100000 in
/-- A slice of structs in a cell. -/
theorem structs_cell {W : World} {fuel : Nat} {v : Value} {y : DataW H × List MemPlace} {t e : TypeId} {fs : Array Field} (ht : Try.prog.underlying t = some (.slice e)) (he : Try.prog.underlying e = some (.struct fs)) (hone : oneCellFields Try.prog fs = true) (hC : Try.prog.cellsOf e = fs.size) (hpos : 0 < fs.size)
    (hf : DataW.trod enc Try.prog W 0 (fun _ => true) true fuel t [v] = some y) :
    ∃ a len cap, v = .slice a len cap ∧ len ≤ cap ∧ len ≤ maxLen ∧ (a = none → cap = 0) ∧ (len = 0 ∨ ∃ g off, a = some ⟨g, off, none⟩ ∧ g < W.heap.size ∧ ∀ i, i < len → ∀ (j : Nat) (f : Field), fs[j]? = some f →
      ∃ (u : Value) (y : DataW H × List MemPlace) (n : Nat), W.cell? ⟨g, off + (i * fs.size + j), none⟩ = some u ∧ DataW.trod enc Try.prog W 0 (fun _ => true) true n f.type [u] = some y) := by
  rcases open_slice ht hf with ⟨hcs, _⟩ | ⟨x, l, c, m, n, D, Pl, hcs, _, hl, hm, hmm, _, hi⟩
  · simp at hcs
    subst hcs
    exact ⟨none, 0, 0, rfl, Nat.le_refl _, Nat.zero_le _, fun _ => rfl, .inl rfl⟩
  · simp at hcs
    subst hcs
    simp only [if_true] at hmm
    subst hmm
    refine ⟨some x, l, m, rfl, hl, by omega, fun h => (by cases h), ?_⟩
    by_cases h0 : l = 0
    · exact .inl h0
    · have key : ∀ i, i < l → ∀ (j : Nat) (f : Field), fs[j]? = some f → ∃ (u : Value) (y : DataW H × List MemPlace) (n : Nat), W.cell? (x.add (i * fs.size + j)) = some u ∧ DataW.trod enc Try.prog W 0 (fun _ => true) true n f.type [u] = some y := by
        intro i hil j f hj
        obtain ⟨cs', hc, ht'⟩ := hi i (by omega)
        rw [hC] at hc
        obtain ⟨ys, n', _, _, hlen, hyl, hfl⟩ := DataW.trod_struct he ht'
        obtain ⟨_, hcl, hat⟩ := World.cells?_some hc
        obtain ⟨ho, hk⟩ := hone_of hone j f hj
        have hjl : j < fs.size := (Array.getElem?_eq_some_iff.1 hj).1
        have h1 := hfl j f hj
        rw [ho, hk] at h1
        have htk : (cs'.drop j).take 1 = [cs'[j]'(by omega)] := by
          rw [List.drop_eq_getElem_cons (by omega)]
          rfl
        rw [htk] at h1
        have hys : ys[j]? = some (ys[j]'(by omega)) := List.getElem?_eq_getElem (by omega)
        refine ⟨_, _, n', ?_, h1.trans hys⟩
        rw [← Go.Deep.add_add, hat j hjl]
        exact List.getElem?_eq_getElem (by omega)
      obtain ⟨u0, _, _, h1, _⟩ := key 0 (by omega) 0 (fs[0]) (by simp [hpos])
      obtain ⟨b, off, spot⟩ := x
      obtain rfl := cell_at (by simpa using h1)
      refine .inr ⟨b, off, rfl, ?_, fun i hil j f hj => ?_⟩
      · have := World.block_lt_of_cell? _ _ h1
        rw [add_plain] at this
        exact this
      · obtain ⟨u, y, n', hu, hy⟩ := key i hil j f hj
        rw [add_plain] at hu
        exact ⟨u, y, n', hu, hy⟩
set_option maxRecDepth 100000 in
theorem u8_cell {W : World} {fuel : Nat} {v : Value} {y : DataW H × List MemPlace} (h : DataW.trod enc Try.prog W 0 (fun _ => true) true fuel 5 [v] = some y) : ∃ x : BitVec 8, v = .int .u8 (U x) := by
  obtain ⟨n, h1, _, h2⟩ := DataW.trod_int Try.underlying5 h
  obtain ⟨x, rfl⟩ := wf_u8 h2
  exact ⟨x, by simpa using h1⟩
set_option maxRecDepth 100000 in
theorem slice_of_cell {W : World} {fuel : Nat} {v : Value} {y : DataW H × List MemPlace} {t e : TypeId} (ht : Try.prog.underlying t = some (.slice e)) (h : DataW.trod enc Try.prog W 0 (fun _ => true) true fuel t [v] = some y) : v.cells = #[v] := by
  rcases open_slice ht h with ⟨hcs, _⟩ | ⟨x, l, c, m, n, D, Pl, hcs, _⟩
  · simp at hcs; subst hcs; rfl
  · simp at hcs; subst hcs; rfl
set_option maxRecDepth 100000 in
theorem acts4_cell {W : World} {fuel : Nat} {v : Value} {y : DataW H × List MemPlace} (h : DataW.trod enc Try.prog W 0 (fun _ => true) true fuel 22 [v] = some y) : ∃ l, ActsAt4 W.heap.size W v l ∧ l.length ≤ maxLen := by
  obtain ⟨a, len, cap, rfl, hl, hm, ha, hr⟩ := structs_cell Try.underlying22 Try.underlying37 (by kernel_rfl) (by kernel_rfl) (by decide) h
  rcases hr with rfl | ⟨g, off, rfl, hg, hf⟩
  · exact ⟨[], ⟨a, cap, rfl, Nat.zero_le _, by simp, .inl rfl⟩, Nat.zero_le _⟩
  · have each : ∀ i, i < len → ∃ x : Act4, x.wf ∧ ActAt4 W.heap.size W g (off + i * 5) x := by
      intro i hi
      obtain ⟨u0, _, _, c0, t0⟩ := hf i hi 0 _ rfl
      obtain ⟨u1, _, _, c1, t1⟩ := hf i hi 1 _ rfl
      obtain ⟨u2, _, _, c2, t2⟩ := hf i hi 2 _ rfl
      obtain ⟨u3, _, _, c3, t3⟩ := hf i hi 3 _ rfl
      obtain ⟨u4, _, _, c4, t4⟩ := hf i hi 4 _ rfl
      obtain ⟨kind, rfl, w0⟩ := int_cell t0
      obtain ⟨at_, rfl, w1⟩ := int_cell t1
      obtain ⟨ln, rfl, w2⟩ := int_cell t2
      obtain ⟨b, rfl⟩ := u8_cell t3
      obtain ⟨fs, hb, hbl⟩ := ints_cell t4 (slice_of_cell Try.underlying35 t4)
      exact ⟨⟨kind, at_, ln, b, fs⟩, ⟨wf_i64 w0, wf_i64 w1, wf_i64 w2, hbl⟩, c0, c1, c2, c3, u4, c4, hb⟩
    refine ⟨(List.range len).map fun i => if hi : i < len then Classical.choose (each i hi) else default, ⟨some ⟨g, off, none⟩, cap, by simp, by simpa using hl, ?_, .inr ⟨g, off, rfl, hg, fun i hi => ?_⟩⟩, by simpa using hm⟩
    · intro x hx
      obtain ⟨i, hi, rfl⟩ := List.mem_map.1 hx
      have hi := List.mem_range.1 hi
      rw [dif_pos hi]
      exact (Classical.choose_spec (each i hi)).1
    · have hi' : i < len := by simpa using hi
      simp only [List.getElem?_map, List.getElem?_range hi', Option.map_some, Option.getD_some, dif_pos hi']
      exact (Classical.choose_spec (each i hi')).2
set_option maxRecDepth 100000 in
theorem open_acts4 {W : World} {base : Nat} {v : Value} {d : DataW H} {p : List MemPlace} (o : Value.okWide Try.prog W .any base 22 v) (h : DataW.Trod enc Try.prog W 0 (fun _ => true) true 22 v d p) : ∃ l, ActsAt4 W.heap.size W v l ∧ l.length ≤ maxLen := by
  obtain ⟨a, len, cap, rfl⟩ := okWide_slice Try.underlying22 o
  obtain ⟨fuel, hf⟩ := h
  exact acts4_cell hf
end

/-- Are acts few? -/
def light4B (l : List Act4) : Bool := decide (l.length ≤ 40) && l.all fun x => decide (x.fates.length ≤ 60)
set_option maxRecDepth 100000 in
set_option maxHeartbeats 1000000 in
theorem light4_any (l : List Act4) (v : Value) (n₀ : Nat) (w : World) (hv : ActsAt4 n₀ w v l) (hm : l.length ≤ maxLen) : Calls Try.prog 6 #[v] w fun e w' => e = .returned (.bool (light4B l)) ∧ w = w' := by
  unfold maxLen at hm
  obtain ⟨a, cap, rfl, hcap, hwf, hv⟩ := hv
  by_cases hbig : 40 < l.length
  · have hL : light4B l = false := by simp [light4B]; omega
    have HL := Lib.hid hL
    have b1 : (40 : Int) < l.length := by omega
    clear hL hwf hv
    go_enter Try.func6, Try.ntmps6
    go_wp2
    go_ret
    exact ⟨by rw [HL.out]; rfl, rfl⟩
  have b1 : (l.length : Int) ≤ 40 := by omega
  go_enter Try.func6, Try.ntmps6
  go_wp2
  go_loop [3] (fun i => ∃ k : Nat, k ≤ l.length ∧ i = .int .i64 k ∧ ∀ j, j < k → (l[j]?.getD default).fates.length ≤ 60) (fun i => l.length - (intOf i).toNat)
  case atStart => exact ⟨0, Nat.zero_le _, rfl, fun j hj => absurd hj (by omega)⟩
  case round =>
    obtain ⟨k, hk, rfl, hno⟩ := hrel
    by_cases hlt : k < l.length
    · rcases hv with h | ⟨g, off, rfl, hg, hc⟩
      · subst h; simp at hlt
      obtain ⟨_, _, _, _, u, c3, hu⟩ := hc k hlt
      have HN := Lib.hid hno
      have HW := Lib.hid hwf
      clear hno hc hwf
      have k0 : (0 : Int) ≤ k := by omega
      have k1 : (k : Int) < l.length := by omega
      obtain ⟨x, hx⟩ : ∃ x, l[k]?.getD default = x := ⟨_, rfl⟩
      have hmem : x ∈ l := by rw [← hx]; simp [hlt]
      rw [hx] at hu
      have HX := Lib.hid hx
      clear hx
      have hm2 : x.fates.length ≤ 9223372036854775807 := by have := (HW.out x hmem).2.2.2; unfold maxLen at this; exact this
      obtain ⟨au, cu, rfl, _⟩ := hu
      by_cases hlong : 60 < x.fates.length
      · have hL : light4B l = false := by
          unfold light4B
          rw [Bool.and_eq_false_iff]
          right
          rw [List.all_eq_false]
          exact ⟨x, hmem, by simp; omega⟩
        have HL := Lib.hid hL
        have hl1 : (60 : Int) < x.fates.length := by omega
        clear hL hlong hmem
        go_wp2
        go_ret
        exact ⟨by rw [HL.out]; rfl, rfl⟩
      · have hl1 : (x.fates.length : Int) ≤ 60 := by omega
        go_wp2
        go_round
        case rel =>
          refine ⟨k + 1, by omega, by go_num, fun j hj => ?_⟩
          by_cases hjk : j = k
          · subst hjk; rw [HX.out]; omega
          · exact HN.out j (by omega)
        case measure => simp [intOf]; omega
    · obtain rfl : k = l.length := by omega
      have hL : light4B l = true := by
        unfold light4B
        rw [Bool.and_eq_true]
        refine ⟨by simp; omega, ?_⟩
        rw [List.all_eq_true]
        intro x hx
        obtain ⟨j, hj, rfl⟩ := List.mem_iff_getElem.1 hx
        have := hno j hj
        simpa [hj] using this
      have HL := Lib.hid hL
      clear hL hno hv hwf
      go_wp2
      go_ret
      exact ⟨by rw [HL.out]; rfl, rfl⟩

end Go.Proofs.Ytfbddbigmbmcaaa

/-
  bits: Copy; sgraffitolaw07: same, its acts.
  Conditions: none.
-/
import Derived.Test.YtpljbjceokoeiaaDoorPl7A
import Derived.Test.YtpljbjceokoeiaaDoorBits3
import Derived.Test.YtpljbjceokoeiaaDoorInts
import Derived.Test.YtpljbjceokoeiaaDoorOpenBn
import Derived.Laws.CopyOwn
import Derived.BigQuiet
import Derived.Deep.QuietTactic
namespace Go.Proofs.YtpljbjceokoeiaaDoor
open Go.ChangeShapes Go.WideShapes Go.ChangeAt Go.RowKit Go.Deep

theorem info_partsU64 {i : Option TypeInfo} {z : Value} {s b : Nat} (h : i.map (fun i => (i.zero, i.size, i.bytes)) = some (some z, s, b)) : ∃ i0, i = some i0 ∧ i0.zero = some z ∧ i0.size = s ∧ i0.bytes = b := by
  cases i with
  | none => cases h
  | some i0 => simp at h; exact ⟨i0, rfl, h.1, h.2.1, h.2.2⟩
theorem wcells_one (ws : List (BitVec 64)) : ∀ u ∈ wcells ws, u.oneCell' = true := by
  intro u hu
  obtain ⟨b, _, rfl⟩ := List.mem_map.1 hu
  rfl
theorem ownWords_empty (w : World) (base : Nat) (hb : base ≤ w.heap.size) : (w.alloc (.cells #[] 53)).ownsRow base 53 1 (.slice (some ⟨w.heap.size, 0, none⟩) 0 0) 0 [] :=
  World.ownsRow_made w #[] 0 hb (by unfold maxLen; omega) rfl
theorem wpList_append_words {w : World} {ops : Array Oper} {rest : List Oper} {o : Oper} {a : Act} {Q : Exit → Act → World → Prop} (hgd : o.guard = none) (s x : Operand) (hty : o.type = 49)
    (ho : o.op = .call { callee := .builtin .append, args := #[s, x], argTypes := #[49, 49] })
    (base : Nat) (v : Value) (hs : a.eval s = v) (hown : w.ownsRow base 53 1 v 0 []) (ad : Addr) (cap L : Nat) (hx : a.eval x = .slice (some ad) L cap) (ws : List (BitVec 64)) (hL : L = ws.length) (hu : ∀ j u, (wcells ws)[j]? = some u → w.cell? (ad.add j) = some u) (hpos : 0 < L) (hlen : L ≤ 1024) (hb : base ≤ w.heap.size)
    (h : ∀ g cc w', w'.ownsRow base 53 1 (.slice (some ⟨g, 0, none⟩) L cc) L (wcells ws) → w.grownBy w' v.ownBlock → wpList Tryd.prog ops Q rest (a.put o.dst (.slice (some ⟨g, 0, none⟩) L cc)) w') : wpList Tryd.prog ops Q (o :: rest) a w := by
  refine wpList_plain hgd fun K hK => ?_
  obtain ⟨i0, hi, hz0, hz1, hz2⟩ := info_partsU64 Tryd.infoU64
  obtain ⟨v', w', hr, h2, h3, _, _⟩ := run_append_own_at (P := Tryd.prog) w base 49 49 53 i0 _ 1 8 Tryd.underlying49 hi hz0 hz1 hz2 rfl (by decide) v 0 [] hown ad L cap (wcells ws)
    (by rw [wcells_len]; omega) hu (wcells_one ws) (by unfold maxLen; omega) (by omega) hb
  simp only [Nat.zero_add, List.nil_append] at h2
  obtain ⟨M, hM⟩ : ∃ M, L = M + 1 := ⟨L - 1, by omega⟩
  rw [hM] at h2
  obtain ⟨g, cc, rfl⟩ := ownsRow_succ h2
  rw [← hM] at h2 hr
  unfold Oper.wp
  simp [execOp, ho, resolve, invoke, builtin, hs, hx, hty, hr, Result.andThen]
  exact hK _ _ (h g cc w' h2 h3)
set_option maxHeartbeats 2000000 in
theorem cloneW_any {w : World} {n₀ D g cap : Nat} {s : BSet} (h : BitsAt n₀ w D g cap s) :
    Calls Tryd.prog 25 #[.slice (some ⟨g, 0, none⟩) s.ws.length cap] w fun e w' => ∃ g' cc, e = .returned (.slice (some ⟨g', 0, none⟩) s.ws.length cc) ∧ w'.ownsRow w.heap.size 53 1 (.slice (some ⟨g', 0, none⟩) s.ws.length cc) s.ws.length (wcells s.ws) ∧ Below w.heap.size w w' := by
  have hl := h.ok.len
  have hn1 := h.ok.n1
  have hn2 := h.ok.n2
  have HL : Hid (0 < s.ws.length ∧ s.ws.length ≤ 1024) := ⟨by omega, by omega⟩
  have HB := Lib.hid ((Below.refl w.heap.size w).alloc (Nat.le_refl _) (.cells #[] 53))
  have HC : Hid (∀ j u, (wcells s.ws)[j]? = some u → (w.alloc (.cells #[] 53)).cell? ((⟨g, 0, none⟩ : Addr).add j) = some u) := fun j u hj => by
    have := h.row.cells (g := g) rfl j u hj
    rw [add_plain, Nat.zero_add] at this ⊢
    exact (HB.out.cell (p := ⟨g, j, none⟩) h.glo.2).trans this
  have hnil := fun W => Lib.run_eql_slice_nil (P := Tryd.prog) W 49 53 (some ⟨g, 0, none⟩) s.ws.length cap 0 0 Tryd.underlying49
  clear h hl hn1 hn2
  go_enter Tryd.func25, Tryd.ntmps25
  go_wp2_with (at_builtin; refine wpList_append_words (by rfl) _ _ (by rfl) (by rfl) w.heap.size _ (by rfl) (ownWords_empty w w.heap.size (Nat.le_refl _)) ⟨g, 0, none⟩ cap s.ws.length (by rfl) s.ws rfl HC.out HL.out.1 HL.out.2 (by simp) ?_; intro g3 cc w3 hown hgrow; have HO := Lib.hid hown; have HG := Lib.hid hgrow; clear hown hgrow)
  go_ret
  exact ⟨g3, cc, rfl, HO.out, HB.out.grown HG.out (by simp) (fun k e => by cases e; exact Nat.le_refl _)⟩
set_option maxHeartbeats 2000000 in
theorem copy_any {w : World} {n₀ D g cap : Nat} {s : BSet} (h : BitsAt n₀ w D g cap s) :
    Calls Tryd.prog 15 #[.pointer (some ⟨D, 0, none⟩)] w fun e w' => ∃ g' cc, e = .returned (.pointer (some ⟨w.heap.size, 0, none⟩)) ∧ BitsAt w.heap.size w' w.heap.size g' cc s ∧ Below w.heap.size w w' := by
  obtain ⟨c0, c1, c2⟩ := h.cells
  have hs := Lib.hid h
  obtain ⟨w1, hw1⟩ : ∃ w1, w.alloc (.cells #[.int .i64 s.n, .int .i64 s.hand, .slice (some ⟨g, 0, none⟩) s.ws.length cap] 51) = w1 := ⟨_, rfl⟩
  have HB1 : Hid (Below w.heap.size w w1) := by rw [← hw1]; exact (Below.refl _ _).alloc (Nat.le_refl _) _
  have b0 : w1.heap[w.heap.size]? = some (.cells #[.int .i64 s.n, .int .i64 s.hand, .slice (some ⟨g, 0, none⟩) s.ws.length cap] 51 (0, 0)) := by rw [← hw1]; exact heap_alloc_new _ _
  have HD := Lib.hid (h.same HB1.out)
  have HB0 := Lib.hid b0
  have hz : w1.heap.size = w.heap.size + 1 := by rw [← hw1]; simp
  have HZ := Lib.hid hz
  have HC := Lib.hid (cloneW_any HD.out)
  have d2 : w1.cell? ⟨D, 2, none⟩ = some (.slice (some ⟨g, 0, none⟩) s.ws.length cap) := HD.out.cells.2.2
  have HW1 := Lib.hid hw1
  clear h b0 hz hw1
  go_enter Tryd.func15, Tryd.ntmps15
  go_upto_region 4 with fail
  change (Code.region _ _ _).wp _ _ _ (w.alloc (.cells #[.int .i64 s.n, .int .i64 s.hand, .slice (some ⟨g, 0, none⟩) s.ws.length cap] 51))
  rw [HW1.out]
  clear HW1 c0 c1 c2
  go_wp2_with (go_at_call 25; (with_reducible refine HC.out.mono ?_); rintro e w2 ⟨g', cc, rfl, hrow, hb2⟩; have q0 := (hb2.block _ (blk_lt HB0.out)).trans HB0.out; have e2 : w2.cell? ⟨w.heap.size, 2, none⟩ = some (.slice (some ⟨g, 0, none⟩) s.ws.length cap) := blk_cell q0 2; have f2 := blk_frozen q0 2; have HR := Lib.hid hrow; have HB2 := Lib.hid hb2; have HQ := Lib.hid q0; clear hrow hb2 q0)
  go_ret
  have hz := HZ.out
  have hg := HR.out.lt g' rfl
  have hk := HR.out.kept (grownBy_setCell2 w2 w.heap.size 2 (.slice (some ⟨g', 0, none⟩) s.ws.length cc)) (.inr (by simp [Value.ownBlock]; omega))
  have hq := blk_set HQ.out 2 (.slice (some ⟨g', 0, none⟩) s.ws.length cc)
  refine ⟨g', cc, rfl, ⟨hs.out.ok, by simpa using hq, ?_, Nat.le_refl _⟩, (HB1.out.trans (HB2.out.mono HB1.out.size)).setCell (p := ⟨w.heap.size, 2, none⟩) (Nat.le_refl _) _⟩
  obtain ⟨h1, h2⟩ := hk
  refine ⟨h1, ?_⟩
  rcases h2 with h2 | ⟨g4, cap4, cur4, hv, hg4, hh, r⟩
  · exact .inl h2
  · exact .inr ⟨g4, cap4, cur4, hv, by omega, hh, r⟩
theorem below_drewI {n : Nat} {a b : World} (h : Below n a b) (k : Nat) : Below n a (b.drewN k) := ⟨h.os, h.tape, h.output, h.size, h.block⟩
set_option maxHeartbeats 1000000 in
theorem same_yes {w : World} {u v : Value} {l : List Int} (hu : IntsAt w.heap.size w u l) (hv : IntsAt w.heap.size w v l) (hl : l.length ≤ 65536) :
    Calls Tryd.prog 20 #[u, v] w fun e w' => e = .returned (.bool true) ∧ Below w.heap.size w w' := by
  obtain ⟨a, c, rfl⟩ := hu.slice
  obtain ⟨b, d, rfl⟩ := hv.slice
  have l1 : (l.length : Int) ≤ 65536 := by omega
  have HU := Lib.hid hu
  have HV := Lib.hid hv
  clear hu hv
  go_enter Tryd.func20, Tryd.ntmps20
  go_wp2
  go_loopw [5] (fun i wr => ∃ k : Nat, k ≤ l.length ∧ i = .int .i64 k ∧ Below w.heap.size w wr) (fun i _ => l.length - (intOf i).toNat)
  case atStart => exact ⟨0, Nat.zero_le _, rfl, Below.refl _ _⟩
  case round =>
    obtain ⟨k, hk, rfl, hB⟩ := hrel
    by_cases hlt : k < l.length
    · obtain ⟨g1, o1, rfl, _, c1⟩ := (HU.out.below hB).get hlt
      obtain ⟨g2, o2, rfl, _, c2⟩ := (HV.out.below hB).get hlt
      have k1 : (k : Int) < l.length := by omega
      generalize (l[k]?.getD 0) = x at c1 c2
      have HB := Lib.hid hB
      clear hB
      go_wp2_with fail
      go_quiet (fail)
      go_wp2
      go_roundw
      case rel => exact ⟨k + 1, by omega, by go_num, below_drewI HB.out _⟩
      case measure => simp [intOf]; omega
    · obtain rfl : k = l.length := by omega
      go_wp2
      go_ret
      exact ⟨rfl, hB⟩
/-- An act. -/
structure Act7 where
  kind : Int
  at_ : Int
instance : Inhabited Act7 := ⟨⟨0, 0⟩⟩
def Act7.wf (x : Act7) : Prop := (-9223372036854775808 ≤ x.kind ∧ x.kind ≤ 9223372036854775807) ∧ (-9223372036854775808 ≤ x.at_ ∧ x.at_ ≤ 9223372036854775807)
def ActAt7 (w : World) (g o : Nat) (x : Act7) : Prop := w.cell? ⟨g, o, none⟩ = some (.int .i64 x.kind) ∧ w.cell? ⟨g, o + 1, none⟩ = some (.int .i64 x.at_)
/-- A slice of acts. -/
def ActsAt7 (n₀ : Nat) (w : World) (v : Value) (l : List Act7) : Prop :=
  ∃ a cap, v = .slice a l.length cap ∧ l.length ≤ cap ∧ (∀ i, i < l.length → (l[i]?.getD default).wf) ∧ (l = [] ∨ ∃ g off, a = some ⟨g, off, none⟩ ∧ g < n₀ ∧ ∀ i, i < l.length → ActAt7 w g (off + i * 2) (l[i]?.getD default))
theorem ActAt7.below {n₀ : Nat} {w w' : World} {g o : Nat} {x : Act7} (h : ActAt7 w g o x) (hb : Below n₀ w w') (hg : g < n₀) : ActAt7 w' g o x := by
  obtain ⟨h0, h1⟩ := h
  exact ⟨(hb.cell (p := ⟨g, o, none⟩) hg).trans h0, (hb.cell (p := ⟨g, o + 1, none⟩) hg).trans h1⟩
section
variable {H : Type} {enc : TypeId × Value → H}
set_option maxRecDepth 100000 in
theorem open_acts7 {W : World} {base : Nat} {v : Value} {d : DataW H} {p : List MemPlace} (o : Value.okWide Tryd.prog W .any base 22 v) (h : DataW.Trod enc Tryd.prog W 0 (fun _ => true) true 22 v d p) : ∃ l, ActsAt7 W.heap.size W v l ∧ l.length ≤ maxLen := by
  obtain ⟨a, len, cap, rfl, hl, hm, ha, hr⟩ := open_structs Tryd.underlying22 Tryd.underlying32 (by kernel_rfl) (by kernel_rfl) (by decide) o h
  rcases hr with rfl | ⟨g, off, rfl, hg, hf⟩
  · exact ⟨[], ⟨a, cap, rfl, Nat.zero_le _, fun i hi => (by simp at hi), .inl rfl⟩, Nat.zero_le _⟩
  · have each : ∀ i, i < len → ∃ x : Act7, x.wf ∧ ActAt7 W g (off + i * 2) x := by
      intro i hi
      obtain ⟨u0, _, _, c0, t0⟩ := hf i hi 0 _ rfl
      obtain ⟨u1, _, _, c1, t1⟩ := hf i hi 1 _ rfl
      obtain ⟨kind, rfl, w0⟩ := int_cell t0
      obtain ⟨key, rfl, w1⟩ := int_cell t1
      exact ⟨⟨kind, key⟩, ⟨wf_i64 w0, wf_i64 w1⟩, c0, c1⟩
    refine ⟨(List.range len).map fun i => if hi : i < len then Classical.choose (each i hi) else default, ⟨some ⟨g, off, none⟩, cap, by simp, by simpa using hl, fun i hi => ?_, .inr ⟨g, off, rfl, hg, fun i hi => ?_⟩⟩, by simpa using hm⟩
    · have hi' : i < len := by simpa using hi
      simp only [List.getElem?_map, List.getElem?_range hi', Option.map_some, Option.getD_some, dif_pos hi']
      exact (Classical.choose_spec (each i hi')).1
    · have hi' : i < len := by simpa using hi
      simp only [List.getElem?_map, List.getElem?_range hi', Option.map_some, Option.getD_some, dif_pos hi']
      exact (Classical.choose_spec (each i hi')).2
end
end Go.Proofs.YtpljbjceokoeiaaDoor

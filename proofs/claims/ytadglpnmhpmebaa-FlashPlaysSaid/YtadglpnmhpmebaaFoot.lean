/-
  Footprints: which blocks a thing in memory consists of; what a call may write, and what it leaves.
  Conditions: none.
-/
import Derived.Test.YtadglpnmhpmebaaMem
import Derived.Test.YtadglpnmhpmebaaIntMap
namespace Go.Proofs.Ytadglpnmhpmebaa
open Go.RowKit

/-- Some blocks. -/
abbrev Foot := Nat → Prop
/-- From w to w' only the blocks O have turned; what was O is O' now: of O, or new. -/
structure Step (O O' : Foot) (w w' : World) : Prop where
  moves : Moves O w w'
  own : ∀ k, O' k → O k ∨ w.heap.size ≤ k
/-- All of them are there. -/
def Foot.In (O : Foot) (w : World) : Prop := ∀ k, O k → k < w.heap.size
/-- They have nothing in common. -/
def Foot.Off (O Q : Foot) : Prop := ∀ k, O k → ¬ Q k
section
variable {O O' O2 Q : Foot} {w w' w2 : World}
theorem Step.refl (O : Foot) (w : World) : Step O O w w := ⟨Moves.refl _ _, fun _ h => .inl h⟩
theorem Step.trans (h : Step O O' w w') (k : Step O' O2 w' w2) : Step O O2 w w2 := by
  refine ⟨h.moves.trans k.moves fun i hi hO => ?_, fun i hi => ?_⟩
  · rcases h.own i hO with h1 | h1
    · exact h1
    · omega
  · rcases k.own i hi with h1 | h1
    · exact h.own i h1
    · exact .inr (Nat.le_trans h.moves.size h1)
theorem Step.behind (hb : Below w.heap.size w w') (h : Step O O' w' w2) : Step O O' w w2 :=
  ⟨(Moves.of_below hb).trans h.moves (fun _ _ h => h), fun i hi => (h.own i hi).imp id (fun e => Nat.le_trans hb.size e)⟩
theorem Step.ahead (h : Step O O' w w') (hb : Below w'.heap.size w' w2) : Step O O' w w2 :=
  ⟨h.moves.trans (Moves.of_below (S := fun _ => False) hb) (fun _ _ h => h.elim), h.own⟩
theorem Step.of_below (hb : Below w.heap.size w w') : Step O O w w' := ⟨Moves.of_below hb, fun _ h => .inl h⟩
theorem Step.below {B : Nat} (h : Step O O' w w') (hO : ∀ k, O k → B ≤ k) (hB : B ≤ w.heap.size) : Below B w w' := h.moves.below hO hB
theorem Step.from {B : Nat} (h : Step O O' w w') (hO : ∀ k, O k → B ≤ k) (hB : B ≤ w.heap.size) : ∀ k, O' k → B ≤ k := fun k hk => (h.own k hk).elim (hO k) (fun e => by omega)
theorem Foot.Off.step (h : Foot.Off O Q) (hs : Step O O' w w') (hQ : Foot.In Q w) : Foot.Off O' Q := fun k hk hq => by
  rcases hs.own k hk with e | e
  · exact h k e hq
  · have := hQ k hq; omega
theorem Foot.Off.symm (h : Foot.Off O Q) : Foot.Off Q O := fun k hq ho => h k ho hq

/-- What stands in blocks of O is as it was. -/
def Same (O : Foot) (w w' : World) : Prop := w.heap.size ≤ w'.heap.size ∧ ∀ k, O k → w'.heap[k]? = w.heap[k]?
theorem Same.refl (O : Foot) (w : World) : Same O w w := ⟨Nat.le_refl _, fun _ _ => rfl⟩
theorem Same.of_below (hb : Below w.heap.size w w') (hO : Foot.In O w) : Same O w w' := ⟨hb.size, fun k hk => hb.block k (hO k hk)⟩
theorem Same.of_step (hs : Step Q O' w w') (hO : Foot.In O w) (hoff : Foot.Off Q O) : Same O w w' := ⟨hs.moves.size, fun k hk => hs.moves.block k (hO k hk) (fun hq => hoff k hq hk)⟩
theorem Same.mono (h : Same O w w') (hQ : ∀ k, Q k → O k) : Same Q w w' := ⟨h.1, fun k hk => h.2 k (hQ k hk)⟩
theorem Same.row {base : Nat} {e : TypeId} {size : Nat} {v : Value} {n : Nat} {xs : List Value} (h : Same O w w') (hr : w.ownsRow base e size v n xs) (ho : ∀ k, v.ownBlock = some k → O k) : w'.ownsRow base e size v n xs := by
  obtain ⟨h1, h2⟩ := hr
  refine ⟨h1, ?_⟩
  rcases h2 with h2 | ⟨g, cap, cur, rfl, hg, hh, r⟩
  · exact .inl h2
  · exact .inr ⟨g, cap, cur, rfl, hg, (h.2 g (ho g rfl)).trans hh, r⟩
theorem Same.map {b : Nat} {m : List (Int × Value)} (h : Same O w w') (hm : MapIs w b m) (hb : O b) : MapIs w' b m := hm.same (h.2 b hb)
/-- A block of bytes. -/
def IsBytes (w : World) (g : Nat) : Prop := ∃ cs z, w.heap[g]? = some (.cells cs 5 z)
/-- No block of bytes. -/
def NoBytes (w : World) (g : Nat) : Prop := ¬ IsBytes w g
theorem noBytes_cells {w : World} {g : Nat} {cs : Array Value} {t : TypeId} {z : Nat × Nat} (h : w.heap[g]? = some (.cells cs t z)) (ht : t ≠ 5) : NoBytes w g := by
  rintro ⟨cs', z', h'⟩
  rw [h] at h'
  simp only [Option.some.injEq, Obj.cells.injEq] at h'
  exact ht h'.2.1
theorem noBytes_map {w : World} {g : Nat} {m : List (Int × Value)} (h : MapIs w g m) : NoBytes w g := by
  obtain ⟨_, es, c, hb, _⟩ := h
  rintro ⟨cs', z', h'⟩
  rw [hb] at h'; cases h'
theorem noBytes_row {w : World} {base g : Nat} {e : TypeId} {size n : Nat} {v : Value} {xs : List Value} (h : w.ownsRow base e size v n xs) (he : e ≠ 5) (hg : v.ownBlock = some g) : NoBytes w g := by
  rcases h.2 with ⟨rfl, _⟩ | ⟨g', cap, cur, rfl, _, hh, _⟩
  · simp [Value.ownBlock] at hg
  · obtain rfl : g' = g := by simpa [Value.ownBlock] using hg
    exact noBytes_cells hh he
/-- Bytes that stand in blocks of O. -/
def BytesIn (O : Foot) (w : World) (v : Value) (bs : List (BitVec 8)) : Prop := BytesAt w.heap.size w v bs ∧ (bs ≠ [] → ∀ k, v.ownBlock = some k → O k ∧ IsBytes w k)
theorem Same.bytes {v : Value} {bs : List (BitVec 8)} (h : Same O w w') (hv : BytesIn O w v bs) : BytesIn O w' v bs :=
  ⟨(hv.1.keep fun hne p hp _ => World.cell?_of_block (w := w) (h.2 p.block (hv.2 hne _ hp).1)).mono h.1, fun hne k e => by
    obtain ⟨h1, cs, z, h2⟩ := hv.2 hne k e
    exact ⟨h1, cs, z, (h.2 k h1).trans h2⟩⟩
theorem BytesIn.mono {v : Value} {bs : List (BitVec 8)} (hv : BytesIn O w v bs) (hO : ∀ k, O k → Q k) : BytesIn Q w v bs := ⟨hv.1, fun hne k e => (hv.2 hne k e).imp (hO k) id⟩
theorem BytesIn.of_owns {base : Nat} {v : Value} {bs : List (BitVec 8)} (h : w.ownsRow base 5 1 v bs.length (cellsOf bs)) (hO : ∀ k, base ≤ k → k < w.heap.size → O k) : BytesIn O w v bs :=
  ⟨BytesAt.of_owns h, fun _ k e => ⟨hO k (h.lt k e).1 (h.lt k e).2, by
    rcases h.2 with ⟨rfl, _⟩ | ⟨g', cap, cur, rfl, _, hh, _⟩
    · simp [Value.ownBlock] at e
    · obtain rfl : g' = k := by simpa [Value.ownBlock] using e
      exact ⟨_, _, hh⟩⟩⟩
/-- Bytes part from any block that is no cells of bytes. -/
theorem BytesAt.off {n₀ g : Nat} {v : Value} {bs : List (BitVec 8)} (h : BytesAt n₀ w v bs) (hne : bs ≠ []) (hg : v.ownBlock = some g) (hc : ∀ i b, w.cell? ⟨g, i, none⟩ ≠ some (.int .u8 b)) : False := by
  obtain ⟨a, cap, rfl, _, _, h⟩ := h
  rcases h with h | ⟨g', off, rfl, _, h⟩
  · exact hne h
  · obtain rfl : g' = g := by simpa [Value.ownBlock] using hg
    exact hc _ _ (h 0 (List.length_pos_iff.2 hne))
end

end Go.Proofs.Ytadglpnmhpmebaa

/-
  Records in rows, as arguments, side by side: what RecordBack's walk wants.
  Conditions: none.
-/
import Derived.Test.YtdpjhcdkiddplaaRecLaw
import Derived.Test.YtdpjhcdkiddplaaRecAll3
import Derived.Test.YtdpjhcdkiddplaaBackRec
import Derived.Test.YtdpjhcdkiddplaaZerosOnto
import Derived.Test.YtdpjhcdkiddplaaQuietB
import Derived.Test.YtdpjhcdkiddplaaOpenB
import Derived.Test.YtdpjhcdkiddplaaLaw
import Derived.Maps.AppendAt
namespace Go.Proofs.Ytdpjhcdkiddplaa
open Go.ChangeShapes Go.WideShapes Go.ChangeAt Go.RowKit Go.Deep

instance : Inhabited RecP := ⟨RecP.zero⟩
def docRows (rs : List RecP) : List Value := rs.flatMap fun x => x.doc.toList
theorem docRows_snoc (rs : List RecP) (x : RecP) : docRows (rs ++ [x]) = docRows rs ++ x.doc.toList := by
  rw [docRows, List.flatMap_append, List.flatMap_cons, List.flatMap_nil, List.append_nil]; rfl
theorem RecP.docOne (x : RecP) : ∀ u ∈ x.doc.toList, u.oneCell' = true := by
  intro u hu
  have : u = .string (strB x.key) ∨ u = .string (strB x.val) ∨ u = .int .i64 x.fin := by simpa [RecP.doc] using hu
  rcases this with rfl | rfl | rfl <;> rfl
theorem rdoc_sz (x : RecP) : (Try.prog.info? 25).map (·.size) = some x.doc.size := by show _ = some 3; kernel_rfl
theorem rdoc_one (x : RecP) : x.doc.all (·.oneCell') = true := by simp [RecP.doc, Value.oneCell']
theorem flat3_get {α : Type} (f : α → List Value) (hf : ∀ a, (f a).length = 3) (l : List α) (i : Nat) (a : α) (h : l[i]? = some a) (k : Nat) (hk : k < 3) : (l.flatMap f)[i * 3 + k]? = (f a)[k]? := by
  induction l generalizing i with
  | nil => simp at h
  | cons b l ih =>
    rw [List.flatMap_cons]
    cases i with
    | zero =>
      obtain rfl : b = a := by simpa using h
      rw [Nat.zero_mul, Nat.zero_add, List.getElem?_append_left (by rw [hf]; exact hk)]
    | succ i =>
      rw [List.getElem?_append_right (by rw [hf]; omega), hf, show (i + 1) * 3 + k - 3 = i * 3 + k by omega]
      exact ih i (by simpa using h)
theorem told09_yes (x : RecP) (u v : Value) (n : Nat) (w : World) (hu : BytesAt n w u x.key) (hv : BytesAt n w v x.val) : Calls Try.prog 7 #[.agg (x.cells u v), .agg x.doc] w fun e w' => e = .returned (.bool true) ∧ Below w.heap.size w w' := by
  have hb2 : Below w.heap.size w ((w.alloc (.cells (x.cells u v) 30)).alloc (.cells x.doc 25)) := ((Below.refl _ _).alloc (Nat.le_refl _) _).alloc (by simp) _
  have hcu := conv_str (hu.tight.below hb2)
  have hcv := conv_str (hv.tight.below hb2)
  have HD : Hid (x.doc = #[.string (strB x.key), .string (strB x.val), .int .i64 x.fin]) := rfl
  have HC : Hid (x.cells u v = #[u, v, .int .i64 x.fin]) := rfl
  have HB := Lib.hid hb2
  obtain ⟨a, cap, rfl, _⟩ := hu
  obtain ⟨a2, cap2, rfl, _⟩ := hv
  rw [HD.out, HC.out] at hcu hcv ⊢
  clear hb2
  go_enter Try.func7, Try.ntmps7
  go_wp2
  go_ret
  exact ⟨rfl, HB.out⟩
theorem ownsRow_pos {W : World} {base : Nat} {e : TypeId} {size : Nat} {v : Value} {n : Nat} {xs : List Value} (h : W.ownsRow base e size v n xs) (hn : 0 < n) : ∃ g cap, v = .slice (some ⟨g, 0, none⟩) n cap := by
  rcases h.2 with ⟨_, h0⟩ | ⟨g, cap, _, rfl, h1, _⟩
  · omega
  · exact ⟨g, cap, rfl⟩
theorem ownsRow_le {W : World} {base : Nat} {e : TypeId} {size : Nat} {v : Value} {n : Nat} {xs : List Value} (h : W.ownsRow base e size v n xs) : n ≤ maxLen := by
  rcases h.2 with ⟨_, h0⟩ | ⟨g, cap, _, _, _, _, h1, h2, _⟩
  · omega
  · omega
theorem meas_lt (N i : Nat) (h : i < N) (hw : wrap64 ((i : Int) + 1) = (i : Int) + 1) : N - (intOf (.int .i64 (wrap64 ((i : Int) + 1)))).toNat < N - (intOf (.int .i64 (i : Int))).toNat := by
  rw [hw]
  show N - ((i : Int) + 1).toNat < N - (i : Int).toNat
  omega
theorem rrow_new (W : World) (x : RecP) (u v : Value) : Below W.heap.size W ((W.alloc (.cells (RecP.zero.cells (.slice none 0 0) (.slice none 0 0)) 30)).setRow W.heap.size (x.cells u v)) ∧ ((W.alloc (.cells (RecP.zero.cells (.slice none 0 0) (.slice none 0 0)) 30)).setRow W.heap.size (x.cells u v)).heap[W.heap.size]? = some (.cells (x.cells u v) 30 (0, 0)) :=
  ⟨below_setRow ((Below.refl _ _).alloc (Nat.le_refl _) _) (Nat.le_refl _) _, setRow_heap _ _ _ _ _ _ (heap_alloc_new _ _)⟩
theorem rcells3 {w0 W : World} {X : Nat} {x : RecP} {u v : Value} {t : TypeId} (h : w0.heap[X]? = some (.cells (x.cells u v) t (0, 0))) (hb : Below w0.heap.size w0 W) :
    W.cell? ⟨X, 0, none⟩ = some u ∧ W.cell? ⟨X, 1, none⟩ = some v ∧ W.cell? ⟨X, 2, none⟩ = some (.int .i64 x.fin) := rec_cells h hb
theorem rows_apart {W : World} {b b' : Nat} {e e' : TypeId} {s s' n n' : Nat} {v v' : Value} {xs xs' : List Value} (h : W.ownsRow b e s v n xs) (h' : W.ownsRow b' e' s' v' n' xs') (hne : e ≠ e') : ∀ k, v.ownBlock = some k → ¬ v'.ownBlock = some k := by
  intro k e1 e2
  rcases h'.2 with ⟨h2, _⟩ | ⟨g', cap', cur', hv', _, hg', _⟩
  · rw [h2] at e2; cases e2
  · rw [hv'] at e2
    obtain rfl : g' = k := by simpa [Value.ownBlock] using e2
    exact own_ne h hg' hne e1
theorem infoDoc : (Try.prog.info? 25).map (fun i => (i.zero, i.size, i.bytes)) = some (some (.agg #[.string ⟨#[]⟩, .string ⟨#[]⟩, .int .i64 0]), 3, 40) := by kernel_rfl
theorem info_partsD {i : Option TypeInfo} {z : Value} {s b : Nat} (h : i.map (fun i => (i.zero, i.size, i.bytes)) = some (some z, s, b)) : ∃ i0, i = some i0 ∧ i0.zero = some z ∧ i0.size = s ∧ i0.bytes = b := by
  cases i with
  | none => cases h
  | some i0 => simp at h; exact ⟨i0, rfl, h.1, h.2.1, h.2.2⟩
/-- What the loop keeps. -/
def RAllAt (w : World) (bs : List (BitVec 8)) (m : Nat) (rs : List RecP) (v : Value) (W : World) : Prop :=
  recs bs = rs ++ recs (bs.drop m) ∧ rs.length ≤ m ∧ W.ownsRow w.heap.size 25 3 v rs.length (docRows rs) ∧ Below w.heap.size w W
/-- A document's record in three cells. -/
def DocAt (w : World) (g o : Nat) (x : RecP) : Prop := w.cell? ⟨g, o, none⟩ = some (.string (strB x.key)) ∧ w.cell? ⟨g, o + 1, none⟩ = some (.string (strB x.val)) ∧ w.cell? ⟨g, o + 2, none⟩ = some (.int .i64 x.fin)
def DocsAt (n₀ : Nat) (w : World) (v : Value) (l : List RecP) : Prop :=
  ∃ a cap, v = .slice a l.length cap ∧ l.length ≤ cap ∧ (∀ i, i < l.length → (l[i]?.getD default).wf) ∧ (l = [] ∨ ∃ g off, a = some ⟨g, off, none⟩ ∧ g < n₀ ∧ ∀ i, i < l.length → DocAt w g (off + i * 3) (l[i]?.getD default))
theorem DocAt.below {n₀ : Nat} {w w' : World} {g o : Nat} {x : RecP} (h : DocAt w g o x) (hb : Below n₀ w w') (hg : g < n₀) : DocAt w' g o x := by
  obtain ⟨h0, h1, h2⟩ := h
  exact ⟨(hb.cell (p := ⟨g, o, none⟩) hg).trans h0, (hb.cell (p := ⟨g, o + 1, none⟩) hg).trans h1, (hb.cell (p := ⟨g, o + 2, none⟩) hg).trans h2⟩
section
variable {H : Type} {enc : TypeId × Value → H}
set_option maxRecDepth 100000 in
theorem open_docs {W : World} {base : Nat} {v : Value} {d : DataW H} {p : List MemPlace} (o : Value.okWide Try.prog W .any base 22 v) (h : DataW.Trod enc Try.prog W 0 (fun _ => true) true 22 v d p) : ∃ l, DocsAt W.heap.size W v l ∧ l.length ≤ maxLen := by
  obtain ⟨a, len, cap, rfl, hl, hm, ha, hr⟩ := open_structs Try.underlying22 Try.underlying25 (by kernel_rfl) (by kernel_rfl) (by decide) o h
  rcases hr with rfl | ⟨g, off, rfl, hg, hf⟩
  · exact ⟨[], ⟨a, cap, rfl, Nat.zero_le _, fun i hi => (by simp at hi), .inl rfl⟩, Nat.zero_le _⟩
  · have each : ∀ i, i < len → ∃ x : RecP, x.wf ∧ DocAt W g (off + i * 3) x := by
      intro i hi
      obtain ⟨u0, _, _, c0, t0⟩ := hf i hi 0 _ rfl
      obtain ⟨u1, _, _, c1, t1⟩ := hf i hi 1 _ rfl
      obtain ⟨u2, _, _, c2, t2⟩ := hf i hi 2 _ rfl
      obtain ⟨s0, rfl, w0⟩ := str_cellv t0
      obtain ⟨s1, rfl, w1⟩ := str_cellv t1
      obtain ⟨n2, rfl, w2⟩ := int_cellv t2
      exact ⟨⟨s0, s1, n2⟩, ⟨w0, w1, w2⟩, c0, c1, c2⟩
    refine ⟨(List.range len).map fun i => if hi : i < len then Classical.choose (each i hi) else default, ⟨some ⟨g, off, none⟩, cap, by simp, by simpa using hl, fun i hi => ?_, .inr ⟨g, off, rfl, hg, fun i hi => ?_⟩⟩, by simpa using hm⟩
    · have hi' : i < len := by simpa using hi
      simp only [List.getElem?_map, List.getElem?_range hi', Option.map_some, Option.getD_some, dif_pos hi']
      exact (Classical.choose_spec (each i hi')).1
    · have hi' : i < len := by simpa using hi
      simp only [List.getElem?_map, List.getElem?_range hi', Option.map_some, Option.getD_some, dif_pos hi']
      exact (Classical.choose_spec (each i hi')).2
end
/-- How long a train is. -/
theorem recB_small {x : RecP} (h : x.err = 0) : (recB x.key x.val x.fin).length ≤ 4173 := by
  obtain ⟨⟨_, k2⟩, ⟨_, v2⟩, _⟩ := packErr_ok h
  rw [recB_len]
  omega
theorem train_len (z : Nat) (hz : z ≤ 5) (l : List RecP) (h : ∀ x ∈ l, x.err = 0) : (train z l).length ≤ l.length * 5000 := by
  induction l with
  | nil => simp [train]
  | cons x l ih =>
    have h1 := recB_small (h x (by simp))
    have h2 := ih (fun y hy => h y (by simp [hy]))
    rw [train, List.length_append, List.length_append, List.length_replicate, List.length_cons]
    omega
theorem kept_len_le (l : List RecP) : (kept l).length ≤ l.length := List.length_filter_le _ _
end Go.Proofs.Ytdpjhcdkiddplaa

/-
  region: what stands beside a log all through an append.
  Conditions: none.
-/
import Derived.Test.YtiddfilhfdkogaaReg8
namespace Go.Proofs.Ytiddfilhfdkogaa
open Go.RowKit Go.Shelf

/-- The boxes of an append: the log, the bytes that are left, the answer's two. -/
structure AppLay (Z R : Nat) (v : Value) (V : World) : Prop where
  b0 : V.heap[Z]? = some (.cells #[.pointer (some ⟨R, 0, none⟩)] 23 (0, 0))
  b1 : V.heap[Z + 1]? = some (.cells #[v] 36 (0, 0))
  b2 : V.heap[Z + 2]? = some (.cells #[.int .i64 0, .int .i64 0, .int .i64 0] 42 (0, 0))
  b3 : V.heap[Z + 3]? = some (.cells #[.int .i64 0] 24 (0, 0))
def Four (E : Foot) (Z : Nat) : Foot := fun k => E k ∨ k = Z ∨ k = Z + 1 ∨ k = Z + 2 ∨ k = Z + 3
theorem AppLay.same {Z R : Nat} {v : Value} {V V' : World} (h : AppLay Z R v V) {E : Foot} (hs : Same (Four E Z) V V') : AppLay Z R v V' :=
  ⟨(hs.2 _ (.inr (.inl rfl))).trans h.b0, (hs.2 _ (.inr (.inr (.inl rfl)))).trans h.b1, (hs.2 _ (.inr (.inr (.inr (.inl rfl))))).trans h.b2, (hs.2 _ (.inr (.inr (.inr (.inr rfl))))).trans h.b3⟩
theorem AppLay.below {Z R : Nat} {v : Value} {V V' : World} (h : AppLay Z R v V) (hb : Below V.heap.size V V') : AppLay Z R v V' :=
  ⟨(hb.block _ (blk_lt h.b0)).trans h.b0, (hb.block _ (blk_lt h.b1)).trans h.b1, (hb.block _ (blk_lt h.b2)).trans h.b2, (hb.block _ (blk_lt h.b3)).trans h.b3⟩
theorem app_lay {w W : World} {E : Foot} {R D : Nat} {x : LogS} {d : Dev} (h : LogApart w E R D x d W) (v : Value) :
    ∀ W4, (((W.alloc (.cells #[.pointer (some ⟨R, 0, none⟩)] 23)).alloc (.cells #[v] 36)).alloc (.cells #[.int .i64 0, .int .i64 0, .int .i64 0] 42)).alloc (.cells #[.int .i64 0] 24) = W4 →
      AppLay W.heap.size R v W4 ∧ LogApart w (Four E W.heap.size) R D x d W4 ∧ Below W.heap.size W W4 ∧ W4.heap.size = W.heap.size + 4 := by
  rintro W4 rfl
  have e1 := heap_alloc_new W (.cells #[.pointer (some ⟨R, 0, none⟩)] 23)
  have e2 := heap_alloc_new (W.alloc (.cells #[.pointer (some ⟨R, 0, none⟩)] 23)) (.cells #[v] 36)
  have e3 := heap_alloc_new ((W.alloc (.cells #[.pointer (some ⟨R, 0, none⟩)] 23)).alloc (.cells #[v] 36)) (.cells #[.int .i64 0, .int .i64 0, .int .i64 0] 42)
  have e4 := heap_alloc_new (((W.alloc (.cells #[.pointer (some ⟨R, 0, none⟩)] 23)).alloc (.cells #[v] 36)).alloc (.cells #[.int .i64 0, .int .i64 0, .int .i64 0] 42)) (.cells #[.int .i64 0] 24)
  simp only [World.size_alloc] at e2 e3 e4
  have hb : Below W.heap.size W ((((W.alloc (.cells #[.pointer (some ⟨R, 0, none⟩)] 23)).alloc (.cells #[v] 36)).alloc (.cells #[.int .i64 0, .int .i64 0, .int .i64 0] 42)).alloc (.cells #[.int .i64 0] 24)) := ((((Below.refl _ W).alloc (Nat.le_refl _) _).alloc (by simp) _).alloc (by simp; omega) _).alloc (by simp; omega) _
  refine ⟨⟨blk_alloc (blk_alloc (blk_alloc e1 _) _) _, blk_alloc (blk_alloc e2 _) _, blk_alloc e3 _, e4⟩, h.adds hb fun k hk => ?_, hb, by simp⟩
  rcases hk with hk | hk
  · exact .inl hk
  · exact .inr (by simp; omega)
/-- All blocks beside the log while bytes are appended. -/
def NineF (E : Foot) (Z X I : Nat) : Foot := fun k => Four E Z k ∨ k = X ∨ k = I ∨ k = I + 1 ∨ k = I + 2 ∨ k = I + 3
/-- What they hold. -/
structure AppSide (W : World) (E : Foot) (R X I : Nat) (loc : Array Value) (v : Value) (b : List (BitVec 8)) (V : World) : Prop where
  lay : AppLay W.heap.size R v V
  bx : V.heap[X]? = some (.cells loc 42 (0, 0))
  i1 : V.heap[I]? = some (.cells #[.pointer (some ⟨R, 0, none⟩)] 23 (0, 0))
  i2 : V.heap[I + 1]? = some (.cells loc 42 (0, 0))
  by_ : BytesAt V.heap.size V v b
  own : ∀ k, v.ownBlock = some k → E k
  same : Same E W V
section
variable {W V V' : World} {E : Foot} {R X I : Nat} {loc : Array Value} {v : Value} {b : List (BitVec 8)}
theorem four_nine {k : Nat} (h : Four E W.heap.size k) : NineF E W.heap.size X I k := .inl h
theorem AppSide.of (h : AppSide W E R X I loc v b V) (hZ : ∀ k, E k ∨ k = W.heap.size ∨ k = W.heap.size + 1 ∨ k = W.heap.size + 2 ∨ k = W.heap.size + 3 ∨ k = X ∨ k = I ∨ k = I + 1 → V'.heap[k]? = V.heap[k]?) (hs : V.heap.size ≤ V'.heap.size) : AppSide W E R X I loc v b V' :=
  ⟨⟨(hZ _ (by simp)).trans h.lay.b0, (hZ _ (by simp)).trans h.lay.b1, (hZ _ (by simp)).trans h.lay.b2, (hZ _ (by simp)).trans h.lay.b3⟩, (hZ _ (by simp)).trans h.bx, (hZ _ (by simp)).trans h.i1, (hZ _ (by simp)).trans h.i2,
    (h.by_.keep fun _ p hp _ => World.cell?_of_block (w := V) (hZ _ (.inl (h.own _ hp)))).mono hs, h.own, ⟨Nat.le_trans h.same.1 hs, fun k hk => (hZ k (.inl hk)).trans (h.same.2 k hk)⟩⟩
theorem AppSide.on (h : AppSide W E R X I loc v b V) (hs : Same (NineF E W.heap.size X I) V V') : AppSide W E R X I loc v b V' :=
  h.of (fun k hk => hs.2 k (by
    unfold NineF Four
    rcases hk with h | h | h | h | h | h | h | h
    · exact .inl (.inl h)
    all_goals subst h; simp)) hs.1
theorem AppSide.put (h : AppSide W E R X I loc v b V) (hm : Moves (fun k => k = I + 3) V V') (hI : X < I) (hW : W.heap.size + 4 ≤ X) (hE : ∀ k, E k → k < W.heap.size) (hIV : I + 3 < V.heap.size) : AppSide W E R X I loc v b V' :=
  h.of (fun k hk => hm.block k (by
    rcases hk with h | h | h | h | h | h | h | h
    · have := hE k h; omega
    all_goals omega) (by
    rcases hk with h | h | h | h | h | h | h | h
    · have := hE k h; omega
    all_goals omega)) hm.size
/-- The bytes that are left, cut. -/
theorem AppSide.cut (h : AppSide W E R X I loc v b V) {v' : Value} {b' : List (BitVec 8)} (hb : BytesAt V.heap.size V v' b') (ho : ∀ k, v'.ownBlock = some k → E k) (hI : X < I) (hW : W.heap.size + 4 ≤ X) (hE : ∀ k, E k → k < W.heap.size) :
    AppSide W E R X I loc v' b' (V.setCell ⟨W.heap.size + 1, 0, none⟩ v') ∧ Moves (fun k => k = W.heap.size + 1) V (V.setCell ⟨W.heap.size + 1, 0, none⟩ v') := by
  have hm : Moves (fun k => k = W.heap.size + 1) V (V.setCell ⟨W.heap.size + 1, 0, none⟩ v') := (Moves.refl (fun k => k = W.heap.size + 1) V).setCell (p := ⟨W.heap.size + 1, 0, none⟩) (fun _ => rfl) v'
  have ho' : ∀ k, k ≠ W.heap.size + 1 → (V.setCell ⟨W.heap.size + 1, 0, none⟩ v').heap[k]? = V.heap[k]? := fun k hk => Below.heap_setCell _ _ _ _ hk
  refine ⟨⟨⟨(ho' _ (by omega)).trans h.lay.b0, ?_, (ho' _ (by omega)).trans h.lay.b2, (ho' _ (by omega)).trans h.lay.b3⟩, (ho' _ (by omega)).trans h.bx, (ho' _ (by omega)).trans h.i1, (ho' _ (by omega)).trans h.i2, ?_, ho, ⟨Nat.le_trans h.same.1 hm.size, fun k hk => (ho' k (by have := hE k hk; omega)).trans (h.same.2 k hk)⟩⟩, hm⟩
  · have := blk_set h.lay.b1 0 v'
    simpa using this
  · exact (hb.keep fun _ p hp _ => World.cell?_of_block (w := V) (ho' _ (by have := hE _ (ho _ hp); omega))).mono hm.size
end
/-- What holds ahead of each round. -/
def AppRound (w W : World) (E : Foot) (R D X I : Nat) (loc : Array Value) (x1 : LogS) (d1 : Dev) (bs : List (BitVec 8)) (K fin : Nat) (s : Nat) (V : World) : Prop :=
  ∃ x d b v, LogApart w (NineF E W.heap.size X I) R D x d V ∧ AppTo x1 d1 bs x d b ∧ AppInv x1 K fin x d b ∧ x.pos = s ∧ AppSide W E R X I loc v b V
/-- The log, the device that the bytes go to. -/
def LogS.for_ (x : LogS) (n : Nat) : LogS := if x.rr - x.pos < n then x.begun else x
def Dev.for_ (d : Dev) (x : LogS) (n : Nat) : Dev := if x.rr - x.pos < n then d.flushed x else d
theorem flushed_same (x : LogS) : x.flushed.room = x.room ∧ x.flushed.first = x.first ∧ x.flushed.regions = x.regions ∧ x.flushed.sectors = x.sectors := by
  unfold LogS.flushed
  split <;> exact ⟨rfl, rfl, rfl, rfl⟩
theorem begun_same (x : LogS) : x.begun.room = x.room ∧ x.begun.first = x.first ∧ x.begun.regions = x.regions ∧ x.begun.sectors = x.sectors := flushed_same x
theorem Dev.Up.flushed {d : Dev} (h : d.Up) (x : LogS) : (d.flushed x).Up := by
  unfold Dev.flushed
  split
  · exact h
  · exact h.write _ _
theorem Dev.size_flushed (d : Dev) (x : LogS) : (d.flushed x).size = d.size ∧ (d.flushed x).sectors = d.sectors := by
  unfold Dev.flushed
  split
  · exact ⟨rfl, rfl⟩
  · exact d.size_write _ _
theorem Dev.Small.flushed {d : Dev} {k : Nat} (h : d.Small k) (x : LogS) : (d.flushed x).Small (k + 1) := by
  unfold Dev.flushed
  split
  · exact h.mono (Nat.le_succ _)
  · exact h.write _ _
theorem for_inv {x : LogS} {d : Dev} {k : Nat} {bs : List (BitVec 8)} (h : x.Ok) (hon : x.On d) (hup : d.Up) (hz : 96 ≤ d.size) (hlt : x.row.length < x.room) (hl : x.last < 1099511627776 * 2) (hle : bs.length ≤ x.rr) (hs : d.Small k) :
    AppInv (x.for_ bs.length) (k + 1 + bs.length) ((x.for_ bs.length).pos + bs.length) (x.for_ bs.length) (d.for_ x bs.length) bs := by
  have hp := h.pos_le
  by_cases hc : x.rr - x.pos < bs.length
  · have e1 : x.for_ bs.length = x.begun := by unfold LogS.for_; rw [if_pos hc]
    have e2 : d.for_ x bs.length = d.flushed x := by unfold Dev.for_; rw [if_pos hc]
    rw [e1, e2]
    obtain ⟨b1, b2, b3, b4⟩ := begun_same x
    obtain ⟨z1, z2⟩ := d.size_flushed x
    have hrow : x.begun.row = [] := LogS.flushed_row
    have hrr : x.begun.rr = x.rr := by unfold LogS.rr; rw [b1, b4]
    have hpos : x.begun.pos = 0 := by
      unfold LogS.pos
      rw [hrow]
      show 0 * _ + 0 = 0
      simp
    refine ⟨LogS.begun_ok h hl, ⟨by rw [z1, b1]; exact hon.size, by rw [z2, b2, b3, b4]; exact hon.sectors⟩, hup.flushed x, by rw [z1]; exact hz, by rw [hrow, b1]; show 0 < _; omega, rfl, by rw [hpos, hrr]; omega, ⟨k + 1, hs.flushed x, by omega⟩, ⟨rfl, rfl, rfl, rfl, rfl⟩⟩
  · have e1 : x.for_ bs.length = x := by unfold LogS.for_; rw [if_neg hc]
    have e2 : d.for_ x bs.length = d := by unfold Dev.for_; rw [if_neg hc]
    rw [e1, e2]
    exact ⟨h, hon, hup, hz, hlt, rfl, by omega, ⟨k, hs, by omega⟩, ⟨rfl, rfl, rfl, rfl, rfl⟩⟩
end Go.Proofs.Ytiddfilhfdkogaa

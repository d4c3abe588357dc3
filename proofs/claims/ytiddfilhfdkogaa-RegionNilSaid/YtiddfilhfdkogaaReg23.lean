/-
  region: Read's blocks all through its range; a region's bytes where its sectors tell them.
  Conditions: none.
-/
import Derived.Test.YtiddfilhfdkogaaReg17
import Derived.Test.YtiddfilhfdkogaaReg18
import Derived.Test.YtiddfilhfdkogaaReg8
namespace Go.Proofs.Ytiddfilhfdkogaa
open Go.RowKit Go.Shelf

/-- A sector's bytes, where it tells them; else 0. -/
def LogS.padB (x : LogS) (d : Dev) (q s : Nat) : List (BitVec 8) := if x.loadE d q s = 0 then x.loadB d q s else zeros x.room
def LogS.contP (x : LogS) (d : Dev) (q : Nat) : List (BitVec 8) := (List.range x.sectors).flatMap fun s => x.padB d q s
theorem load_len {w W : World} {D : Nat} {x : LogS} {d : Dev} (hx : x.Ok) (hon : x.On d) (h : DevHere w D d W) (q s : Nat) (he : x.loadE d q s = 0) : (x.loadB d q s).length = x.room := by
  unfold LogS.loadE at he
  unfold LogS.loadB
  cases hw : x.wayB q s with
  | true => rw [if_pos rfl]; exact fillTo_len hx.rlt
  | false =>
    rw [hw, if_neg (by decide)] at he
    rw [if_neg (by decide)]
    unfold LogS.storedB
    rw [if_pos he]
    have h1 := got_len h ((x.first : Int) + (x.place q s : Int)) 3 (x.place q s : Int)
    have h2 := hon.size
    exact fillTo_len (by omega)
theorem pad_len {w W : World} {D : Nat} {x : LogS} {d : Dev} (hx : x.Ok) (hon : x.On d) (h : DevHere w D d W) (q s : Nat) : (x.padB d q s).length = x.room := by
  unfold LogS.padB
  split
  · next he => exact load_len hx hon h q s he
  · exact zeros_len _

/-- What Read has ahead of each round. -/
structure RdSide (W : World) (R I B q p n : Nat) (v : Value) (bs : List (BitVec 8)) (V : World) : Prop where
  lay : RdLay W.heap.size R (q : Int) (p : Int) (n : Int) V
  b6 : V.heap[B]? = some (.cells #[v] 36 (0, 0))
  i1 : V.heap[I]? = some (.cells #[.pointer (some ⟨R, 0, none⟩)] 23 (0, 0))
  i2 : V.heap[I + 1]? = some (.cells #[.int .i64 q, .int .i64 p, .int .i64 n] 42 (0, 0))
  own : V.ownsRow W.heap.size 5 1 v bs.length (cellsOf bs)
  off : ∀ k, v.ownBlock = some k → k ≠ I + 2 ∧ k ≠ I + 3
  since : Below W.heap.size W V
section
variable {W V V' W2 : World} {R I B q p n : Nat} {v v' : Value} {bs nb : List (BitVec 8)}
theorem RdSide.same (h : RdSide W R I B q p n v bs V) (hk : ∀ k, (k = W.heap.size ∨ k = W.heap.size + 1 ∨ k = W.heap.size + 1 + 1 ∨ k = W.heap.size + 1 + 1 + 1 ∨ k = B ∨ k = I ∨ k = I + 1 ∨ v.ownBlock = some k) → V'.heap[k]? = V.heap[k]?) (hs : Below W.heap.size W V') : RdSide W R I B q p n v bs V' :=
  ⟨⟨(hk _ (by simp)).trans h.lay.b0, (hk _ (by simp)).trans h.lay.b1, (hk _ (by simp)).trans h.lay.b2, (hk _ (by simp)).trans h.lay.b3⟩, (hk _ (by simp)).trans h.b6, (hk _ (by simp)).trans h.i1, (hk _ (by simp)).trans h.i2, ownsRow_same h.own (fun k e => hk k (by simp [e])), h.off, hs⟩
theorem RdSide.lt (h : RdSide W R I B q p n v bs V) : ∀ k, (k = W.heap.size ∨ k = W.heap.size + 1 ∨ k = W.heap.size + 1 + 1 ∨ k = W.heap.size + 1 + 1 + 1 ∨ k = B ∨ k = I ∨ k = I + 1 ∨ v.ownBlock = some k) → k < V.heap.size := by
  rintro k (rfl | rfl | rfl | rfl | rfl | rfl | rfl | e)
  · exact blk_lt h.lay.b0
  · exact blk_lt h.lay.b1
  · exact blk_lt h.lay.b2
  · exact blk_lt h.lay.b3
  · exact blk_lt h.b6
  · exact blk_lt h.i1
  · exact blk_lt h.i2
  · exact (h.own.lt k e).2
theorem RdSide.below (h : RdSide W R I B q p n v bs V) (hb : Below V.heap.size V V') : RdSide W R I B q p n v bs V' :=
  h.same (fun k hk => hb.block k (h.lt k hk)) (h.since.trans (hb.mono h.since.size))
theorem RdSide.put (h : RdSide W R I B q p n v bs V) {o : Obj} (hB : W.heap.size + 4 ≤ B) (hI : B < I) : RdSide W R I B q p n v bs (V.putObj (I + 3) o) :=
  h.same (fun k hk => World.putObj_heap_other (by
    rcases hk with rfl | rfl | rfl | rfl | rfl | rfl | rfl | e
    all_goals first | omega | exact (h.off k e).2)) (h.since.trans ((moves_put V (I + 3) o).below (fun i hi => by omega) h.since.size))
theorem RdSide.add (h : RdSide W R I B q p n v bs V) (hB : W.heap.size + 4 ≤ B) (hI : B < I) (hV : I + 3 < V.heap.size) (hown : W2.ownsRow W.heap.size 5 1 v' (bs ++ nb).length (cellsOf (bs ++ nb))) (hg : V.grownBy W2 v.ownBlock) (hat : v'.ownBlock = v.ownBlock ∨ v'.ownBlock = some V.heap.size) :
    RdSide W R I B q p n v' (bs ++ nb) (W2.setCell ⟨B, 0, none⟩ v') ∧ ∀ k, (k = I + 2 ∨ k = I + 3) → (W2.setCell ⟨B, 0, none⟩ v').heap[k]? = V.heap[k]? := by
  have m1 : Moves (fun k => v.ownBlock = some k) V W2 := Moves.of_grown hg (fun k e => e)
  have m2 : Moves (fun k => v.ownBlock = some k ∨ k = B) V (W2.setCell ⟨B, 0, none⟩ v') := (m1.mono (fun _ _ h => .inl h)).setCell (p := ⟨B, 0, none⟩) (fun _ => .inr rfl) v'
  have hne : ∀ {k : Nat} {cs : Array Value} {t : TypeId}, V.heap[k]? = some (.cells cs t (0, 0)) → 5 ≠ t → ¬ v.ownBlock = some k := fun hk ht => own_ne h.own hk ht
  have keep : ∀ {k : Nat} {cs : Array Value} {t : TypeId}, V.heap[k]? = some (.cells cs t (0, 0)) → 5 ≠ t → k ≠ B → (W2.setCell ⟨B, 0, none⟩ v').heap[k]? = some (.cells cs t (0, 0)) := fun hk ht hkB =>
    (m2.block _ (blk_lt hk) (by rintro (e | e); exact hne hk ht e; exact hkB e)).trans hk
  have hB2 : W2.heap[B]? = some (.cells #[v] 36 (0, 0)) := (m1.block B (blk_lt h.b6) (hne h.b6 (by decide))).trans h.b6
  have hvB : ∀ k, v'.ownBlock = some k → k ≠ B := by
    rintro k e rfl
    rcases hat with e2 | e2
    · rw [e2] at e; exact hne h.b6 (by decide) e
    · rw [e2] at e; cases e; exact absurd (blk_lt h.b6) (Nat.lt_irrefl _)
  refine ⟨⟨⟨keep h.lay.b0 (by decide) (by omega), keep h.lay.b1 (by decide) (by omega), keep h.lay.b2 (by decide) (by omega), keep h.lay.b3 (by decide) (by omega)⟩, ?_, keep h.i1 (by decide) (by omega), keep h.i2 (by decide) (by omega), ownsRow_same hown (fun k e => Below.heap_setCell _ _ _ _ (hvB k e)), ?_, ?_⟩, ?_⟩
  · have := blk_set hB2 0 v'
    rw [this]; rfl
  · intro k e
    rcases hat with e2 | e2
    · rw [e2] at e; exact h.off k e
    · rw [e2] at e; cases e; omega
  · exact h.since.trans (m2.below (fun i hi => by
      rcases hi with e | rfl
      · exact (h.own.lt i e).1
      · omega) h.since.size)
  · intro k hk
    refine m2.block k (by omega) ?_
    rintro (e | e)
    · have := h.off k e; omega
    · omega
theorem RdSide.stopped (h : RdSide W R I B q p n v bs V) (hB : W.heap.size + 4 ≤ B) (hI : B < I) (er : Int) :
    ((V.setCell ⟨W.heap.size + 1 + 1, 0, none⟩ (.slice none 0 0)).setCell ⟨W.heap.size + 1 + 1 + 1, 0, none⟩ (.int .i64 er)).heap[W.heap.size + 1 + 1]? = some (.cells #[.slice none 0 0] 36 (0, 0)) ∧
    ((V.setCell ⟨W.heap.size + 1 + 1, 0, none⟩ (.slice none 0 0)).setCell ⟨W.heap.size + 1 + 1 + 1, 0, none⟩ (.int .i64 er)).heap[W.heap.size + 1 + 1 + 1]? = some (.cells #[.int .i64 er] 24 (0, 0)) ∧
    Below W.heap.size W ((V.setCell ⟨W.heap.size + 1 + 1, 0, none⟩ (.slice none 0 0)).setCell ⟨W.heap.size + 1 + 1 + 1, 0, none⟩ (.int .i64 er)) ∧
    ∀ k, (k = I + 2 ∨ k = I + 3) → ((V.setCell ⟨W.heap.size + 1 + 1, 0, none⟩ (.slice none 0 0)).setCell ⟨W.heap.size + 1 + 1 + 1, 0, none⟩ (.int .i64 er)).heap[k]? = V.heap[k]? := by
  have s1 := blk_set h.lay.b2 0 (.slice none 0 0)
  have s2 := (Below.heap_setCell V ⟨W.heap.size + 1 + 1, 0, none⟩ (.slice none 0 0) (W.heap.size + 1 + 1 + 1) (by simp)).trans h.lay.b3
  have t2 := blk_set s2 0 (.int .i64 er)
  have t1 := (Below.heap_setCell (V.setCell ⟨W.heap.size + 1 + 1, 0, none⟩ (.slice none 0 0)) ⟨W.heap.size + 1 + 1 + 1, 0, none⟩ (.int .i64 er) (W.heap.size + 1 + 1) (by simp)).trans s1
  refine ⟨by simpa using t1, by simpa using t2, (h.since.setCell (p := ⟨W.heap.size + 1 + 1, 0, none⟩) (by show W.heap.size ≤ W.heap.size + 1 + 1; omega) _).setCell (p := ⟨W.heap.size + 1 + 1 + 1, 0, none⟩) (by show W.heap.size ≤ W.heap.size + 1 + 1 + 1; omega) _, fun k hk => ?_⟩
  exact (Below.heap_setCell _ _ _ _ (by show k ≠ W.heap.size + 1 + 1 + 1; omega)).trans (Below.heap_setCell _ _ _ _ (by show k ≠ W.heap.size + 1 + 1; omega))
theorem RdSide.finish (h : RdSide W R I B q p n v bs V) (hB : W.heap.size + 4 ≤ B) (hI : B < I) (hK : V.heap[I + 2]? = some (.deferred (some []))) {V4 : World} (hV : (V.setCell ⟨W.heap.size + 1 + 1, 0, none⟩ v).setCell ⟨W.heap.size + 1 + 1 + 1, 0, none⟩ (.int .i64 0) = V4) (o : Obj) :
    V4.heap[I + 2]? = some (.deferred (some [])) ∧ (V4.putObj (I + 2) o).cell? ⟨W.heap.size + 1 + 1, 0, none⟩ = some v ∧ (V4.putObj (I + 2) o).cell? ⟨W.heap.size + 1 + 1 + 1, 0, none⟩ = some (.int .i64 0) ∧ Below W.heap.size W (V4.putObj (I + 2) o) ∧ BytesAt (V4.putObj (I + 2) o).heap.size (V4.putObj (I + 2) o) v bs := by
  subst hV
  have s1 := blk_set h.lay.b2 0 v
  have s2 := (Below.heap_setCell V ⟨W.heap.size + 1 + 1, 0, none⟩ v (W.heap.size + 1 + 1 + 1) (by simp)).trans h.lay.b3
  have t2 := blk_set s2 0 (.int .i64 0)
  have t1 := (Below.heap_setCell (V.setCell ⟨W.heap.size + 1 + 1, 0, none⟩ v) ⟨W.heap.size + 1 + 1 + 1, 0, none⟩ (.int .i64 0) (W.heap.size + 1 + 1) (by simp)).trans s1
  have keep : ∀ k, k ≠ W.heap.size + 1 + 1 → k ≠ W.heap.size + 1 + 1 + 1 → ((V.setCell ⟨W.heap.size + 1 + 1, 0, none⟩ v).setCell ⟨W.heap.size + 1 + 1 + 1, 0, none⟩ (.int .i64 0)).heap[k]? = V.heap[k]? := fun k h1 h2 => (Below.heap_setCell _ _ _ _ h2).trans (Below.heap_setCell _ _ _ _ h1)
  have hb := (h.since.setCell (p := ⟨W.heap.size + 1 + 1, 0, none⟩) (by show W.heap.size ≤ W.heap.size + 1 + 1; omega) v).setCell (p := ⟨W.heap.size + 1 + 1 + 1, 0, none⟩) (by show W.heap.size ≤ W.heap.size + 1 + 1 + 1; omega) (.int .i64 0)
  refine ⟨(keep _ (by omega) (by omega)).trans hK, ?_, ?_, hb.trans ((moves_put _ (I + 2) o).below (fun i hi => by omega) hb.size), BytesAt.of_owns (base := W.heap.size) (ownsRow_same h.own fun k e => ?_)⟩
  · rw [World.cell?_of_block (World.putObj_heap_other (by show W.heap.size + 1 + 1 ≠ I + 2; omega)), blk_cell t1 0]; simp
  · rw [World.cell?_of_block (World.putObj_heap_other (by show W.heap.size + 1 + 1 + 1 ≠ I + 2; omega)), blk_cell t2 0]; simp
  · exact (World.putObj_heap_other (h.off k e).1).trans (keep k (fun e2 => own_ne h.own h.lay.b2 (by decide) (e2 ▸ e)) (fun e2 => own_ne h.own h.lay.b3 (by decide) (e2 ▸ e)))
end
/-- What holds ahead of each round of Read's range. -/
def RdRound (W : World) (x : LogS) (d : Dev) (R I B q p n : Nat) (s : Nat) (V : World) : Prop :=
  ∃ v, RdSide W R I B q p n v (((x.contP d q).drop p).take (s - p)) V ∧ p ≤ s ∧ s ≤ p + n ∧ ∀ t, p / x.room ≤ t → t * x.room < s → p < s → x.loadE d q t = 0
/-- A sector of the location does not tell its bytes. -/
def RdBad (x : LogS) (d : Dev) (q p n : Nat) (er : Int) : Prop := er ≠ 0 ∧ 0 < n ∧ ∃ t, p / x.room ≤ t ∧ t * x.room < p + n ∧ x.loadE d q t = er
def RdStop (W : World) (x : LogS) (d : Dev) (q p n : Nat) (V : World) : Prop :=
  ∃ er, V.heap[W.heap.size + 1 + 1]? = some (.cells #[.slice none 0 0] 36 (0, 0)) ∧ V.heap[W.heap.size + 1 + 1 + 1]? = some (.cells #[.int .i64 er] 24 (0, 0)) ∧ Below W.heap.size W V ∧ RdBad x d q p n er
/-- What Read leaves. -/
def ReadTo (x : LogS) (d : Dev) (q p n : Nat) (W : World) (e : Ending) (W' : World) : Prop :=
  ∃ v er, e = .returned (.tuple #[v, .int .i64 er]) ∧ Below W.heap.size W W' ∧ ((er = 0 ∧ (∀ t, p / x.room ≤ t → t * x.room < p + n → 0 < n → x.loadE d q t = 0) ∧ BytesAt W'.heap.size W' v (((x.contP d q).drop p).take n)) ∨ (v = .slice none 0 0 ∧ RdBad x d q p n er))
theorem rd_sec {room p fin s t : Nat} (hr : 1 ≤ room) (hp : p ≤ s) (h1 : p / room ≤ t) (ht : t * room < nxP room fin s) : t = s / room ∨ (t * room < s ∧ p < s) := by
  have h3 : t * room < (s / room + 1) * room := Nat.lt_of_lt_of_le ht (by unfold nxP; omega)
  have h4 : t < s / room + 1 := Nat.lt_of_mul_lt_mul_right h3
  by_cases h : t = s / room
  · exact .inl h
  · right
    have h5 : (t + 1) * room ≤ s / room * room := Nat.mul_le_mul_right _ (by omega)
    have h6 : s / room * room ≤ s := Nat.div_mul_le_self s room
    rw [Nat.add_mul, Nat.one_mul] at h5
    refine ⟨by omega, ?_⟩
    rcases Nat.lt_or_eq_of_le hp with h | h
    · exact h
    · subst h; omega
end Go.Proofs.Ytiddfilhfdkogaa

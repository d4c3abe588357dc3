/-
  clock.Clock[int]: New, Get, Drop.
  Conditions: none.
-/
import Derived.Test.YtadhkciggiefbaaClock1
namespace Go.Proofs.Ytadhkciggiefbaa
open Go.RowKit

theorem Try.infoPlaceI : (Try.prog.info? 56).map (fun i => (i.zero, i.size, i.bytes)) = some (some (.agg #[.bool false, .bool false, .int .i64 0, .int .i64 0]), 4, 24) := by kernel_rfl
theorem makePlaces (n : Nat) (hn : n ≤ 4096) (W : World) : (Instr.makeSlice 49 (.int .i64 n) (.int .i64 n)).run Try.prog W = .ok (.slice (some ⟨W.heap.size, 0, none⟩) n n) (W.alloc (.cells (madeCells #[.bool false, .bool false, .int .i64 0, .int .i64 0] (n * 4)) 56)) := by
  obtain ⟨i0, hi, hz0, hz1, hz2⟩ := info_parts Try.infoPlaceI
  have h := run_make (P := Try.prog) W 49 56 i0 (.agg #[.bool false, .bool false, .int .i64 0, .int .i64 0]) Try.underlying49 hi hz0 .i64 .i64 n n (by omega) (by omega) (by rw [hz2]; omega) (by omega)
  rw [hz1] at h
  simpa [Value.cells] using h
theorem made_get (n i : Nat) (hi : i < n * 4) : (madeCells #[Value.bool false, .bool false, .int .i64 0, .int .i64 0] (n * 4))[i]? = (#[Value.bool false, .bool false, .int .i64 0, .int .i64 0] : Array Value)[i % 4]? := by
  have h4 : i % 4 = 0 ∨ i % 4 = 1 ∨ i % 4 = 2 ∨ i % 4 = 3 := by omega
  have e : (madeCells #[Value.bool false, .bool false, .int .i64 0, .int .i64 0] (n * 4))[i]? = some ((#[Value.bool false, .bool false, .int .i64 0, .int .i64 0] : Array Value)[i % 4]?.getD default) := by
    simp [madeCells, hi]
  rw [e]
  rcases h4 with h | h | h | h <;> rw [h] <;> rfl
def Ck.new (z : Value) (n : Nat) : Ck := ⟨List.replicate n (Pl.zero z), 0, []⟩
theorem plCells_zero (z : Value) : ∀ n, plCells (List.replicate n (Pl.zero z)) = (List.replicate n [Value.bool false, .bool false, .int .i64 0, z]).flatten
  | 0 => rfl
  | n + 1 => by
    have ih := plCells_zero z n
    simp only [plCells, List.replicate_succ, List.flatMap_cons, List.flatten_cons] at ih ⊢
    rw [ih]; rfl
theorem made_places (n : Nat) : madeCells #[Value.bool false, .bool false, .int .i64 0, .int .i64 0] (n * 4) = (plCells (List.replicate n (Pl.zero (.int .i64 0)))).toArray := by
  apply Array.ext_getElem?
  intro i
  by_cases hi : i < n * 4
  · rw [made_get n i hi]
    have hlt : i / 4 < n := by omega
    obtain ⟨a, b, c, d⟩ := plCells_get (List.replicate n (Pl.zero (.int .i64 0))) (i / 4) (Pl.zero (.int .i64 0)) (by simp [hlt])
    simp only [List.getElem?_toArray]
    have h4 : i % 4 = 0 ∨ i % 4 = 1 ∨ i % 4 = 2 ∨ i % 4 = 3 := by omega
    rcases h4 with h | h | h | h
    · have e : i = i / 4 * 4 := by omega
      rw [h]; conv => rhs; rw [e]
      rw [a]; rfl
    · have e : i = i / 4 * 4 + 1 := by omega
      rw [h]; conv => rhs; rw [e]
      rw [b]; rfl
    · have e : i = i / 4 * 4 + 2 := by omega
      rw [h]; conv => rhs; rw [e]
      rw [c]; rfl
    · have e : i = i / 4 * 4 + 3 := by omega
      rw [h]; conv => rhs; rw [e]
      rw [d]; rfl
  · have h1 : (madeCells #[Value.bool false, .bool false, .int .i64 0, .int .i64 0] (n * 4)).size ≤ i := by simp [madeCells]; omega
    rw [Array.getElem?_eq_none h1, List.getElem?_toArray, List.getElem?_eq_none (by rw [plCells_len]; simp; omega)]
theorem ok_new (z : Value) {n : Nat} (h : 1 ≤ n ∧ n ≤ 4096) : (Ck.new z n).Ok := by
  have nofull : ∀ (i : Nat) (p : Pl), (Ck.new z n).ps[i]? = some p → p.full = false := by
    intro i p hp
    unfold Ck.new at hp
    simp only [List.getElem?_replicate] at hp
    split at hp
    · cases hp; rfl
    · cases hp
  refine ⟨by simp [Ck.new]; omega, by simp [Ck.new]; omega, by simp [Ck.new]; omega, fun i j p q hp _ fp => ?_, fun key => ?_, by simp [Ck.new], ?_⟩
  · rw [nofull i p hp] at fp; cases fp
  · rw [at_not fun i p hp fp => by rw [nofull i p hp] at fp; cases fp]; rfl
  · show 0 = (List.replicate n (Pl.zero z)).countP _
    symm
    rw [List.countP_eq_zero]
    intro p hp
    rw [List.eq_of_mem_replicate hp]
    simp [Pl.zero]
set_option maxHeartbeats 1000000 in
theorem new_any (n₀ : Nat) (n : Nat) (hr : 1 ≤ n ∧ n ≤ 4096) (w : World) (hn : n₀ ≤ w.heap.size) :
    Calls Try.prog 4 #[.int .i64 n] w fun e w' => e = .returned (.pointer (some ⟨w.heap.size + 2, 0, none⟩)) ∧ ClockAt n₀ w' (w.heap.size + 2) w.heap.size (w.heap.size + 1) (Ck.new zeroI n) ∧ Below w.heap.size w w' := by
  have hmk := makePlaces n hr.2 w
  have hmm := @run_makeMap Try.prog
  have n1 : (1 : Int) ≤ n := by omega
  have n2 : (n : Int) ≤ 4096 := by omega
  have HC : Hid (∀ W1 W2 W3 : World, W1 = w.alloc (.cells (madeCells #[.bool false, .bool false, .int .i64 0, .int .i64 0] (n * 4)) 56) → W2 = W1.alloc (.map #[] 0) → W3 = W2.alloc (.cells #[.slice (some ⟨w.heap.size, 0, none⟩) n n, .map (some (w.heap.size + 1)), .int .i64 0] 52) →
      ClockAt n₀ W3 (w.heap.size + 2) w.heap.size (w.heap.size + 1) (Ck.new zeroI n)) := by
    rintro W1 W2 W3 h1 h2 h3
    have s1 : W1.heap.size = w.heap.size + 1 := by rw [h1]; simp
    have s2 : W2.heap.size = w.heap.size + 2 := by rw [h2]; simp [s1]
    have hl : (Ck.new zeroI n).ps.length = n := by simp [Ck.new]
    refine ⟨ok_new _ hr, ?_, ?_, ?_, by omega, fun p hp => by
      have e : p = Pl.zero zeroI := List.eq_of_mem_replicate hp
      subst e
      exact ⟨_, rfl⟩⟩
    · rw [hl, h3, ← s2]
      exact heap_alloc_new _ _
    · rw [h3, Below.heap_alloc _ _ _ (by omega), h2, Below.heap_alloc _ _ _ (by omega), h1, heap_alloc_new, made_places]
      rfl
    · refine MapIs.same (w := W2) ?_ (by rw [h3, Below.heap_alloc _ _ _ (by omega)])
      rw [h2, ← s1]
      exact MapIs.new W1
  clear hr
  go_enter Try.func4, Try.ntmps4
  go_wp2
  go_ret
  exact ⟨rfl, HC.out _ _ _ rfl rfl rfl, (((Below.refl _ w).alloc (Nat.le_refl _) _).alloc (by simp) _).alloc (by simp; omega) _⟩

/-- What a call leaves: its answer, the clock, all else as it was. -/
def ClockDid (n₀ C g M : Nat) (s : Ck) (r : Value) (w : World) (e : Ending) (w' : World) : Prop := e = .returned r ∧ ClockAt n₀ w' C g M s ∧ Moves (fun k => k = C ∨ k = g ∨ k = M) w w'
theorem plCells_mark : ∀ (ps : List Pl) (i : Nat) (p : Pl) (b : Bool), ps[i]? = some p → (plCells ps).set (i * 4 + 1) (.bool b) = plCells (ps.set i { p with marked := b })
  | [], i, p, b, h => by simp at h
  | a :: ps, 0, p, b, h => by
    have e : a = p := by simpa using h
    subst e
    simp [plCells]
  | a :: ps, i + 1, p, b, h => by
    have ih := plCells_mark ps i p b (by simpa using h)
    have e : plCells (a :: ps) = .bool a.full :: .bool a.marked :: .int .i64 a.key :: a.thing :: plCells ps := by simp [plCells]
    have e2 : plCells (a :: ps.set i { p with marked := b }) = .bool a.full :: .bool a.marked :: .int .i64 a.key :: a.thing :: plCells (ps.set i { p with marked := b }) := by simp [plCells]
    rw [List.set_cons_succ, e2, e, show (i + 1) * 4 + 1 = (i * 4 + 1) + 4 by omega, ← ih]
    rfl
/-- A place's mark is set. -/
theorem ClockAt.mark {n₀ : Nat} {w : World} {C g M : Nat} {s : Ck} (h : ClockAt n₀ w C g M s) {i : Nat} {p : Pl} (hp : s.ps[i]? = some p) (b : Bool) :
    ClockAt n₀ (w.setCell ⟨g, i * 4 + 1, none⟩ (.bool b)) C g M (s.setP i { p with marked := b }) ∧ Moves (fun k => k = C ∨ k = g ∨ k = M) w (w.setCell ⟨g, i * 4 + 1, none⟩ (.bool b)) := by
  have hn := h.ne
  have hl : (s.setP i { p with marked := b }).ps.length = s.ps.length := by simp [Ck.setP]
  refine ⟨⟨ok_again h.ok hp rfl rfl, ?_, ?_, ?_, h.lo, things_set (Q := fun v => ∃ t, v = .int .i64 t) h.things (h.things p (List.mem_of_getElem? hp))⟩, (Moves.refl (fun k => k = C ∨ k = g ∨ k = M) w).setCell (p := ⟨g, i * 4 + 1, none⟩) (fun _ => .inr (.inl rfl)) _⟩
  · rw [hl, Below.heap_setCell _ _ _ _ (fun e => hn.1 e.symm)]
    exact h.blk
  · rw [blk_set h.row]
    have := plCells_mark s.ps i p b hp
    simp only [List.setIfInBounds_toArray, this]
    rfl
  · exact h.map.same (Below.heap_setCell _ _ _ _ (fun e => hn.2.1 e.symm))
/-- The clock behind a thing that is got. -/
def Ck.got (s : Ck) (key : Int) : Ck :=
  match s.at key with
  | some i => s.setP i { (s.ps[i]?.getD default) with marked := true }
  | none => s
set_option maxHeartbeats 2000000 in
theorem get_any {n₀ : Nat} {w : World} {C g M : Nat} {s : Ck} (h : ClockAt n₀ w C g M s) (key : Int) : Calls Try.prog 10 #[.pointer (some ⟨C, 0, none⟩), .int .i64 key] w (ClockDid n₀ C g M (s.got key) (lookRes zeroI s key) w) := by
  obtain ⟨c0, c1, c2⟩ := h.cells
  have HK0 := look_any h key
  have hd := at_data h key w.drew rfl false
  simp only [Bool.false_eq_true, if_false] at hd
  cases hat : s.at key with
  | none =>
    have HG : Hid (s.got key = s) := by unfold Hid Ck.got; rw [hat]
    have HR : Hid (lookRes zeroI s key = .tuple #[zeroI, .bool false]) := by unfold Hid lookRes; rw [hat]
    rw [HR.out] at HK0
    have HK := Lib.hid HK0
    clear HK0
    have HO := Lib.hid h
    clear h c0 c1 c2 hat hd
    go_enter Try.func10, Try.ntmps10
    go_wp2_with (go_at_call 9; (with_reducible refine HK.out.mono ?_); rintro e w' ⟨rfl, rfl⟩)
    go_ret2
    exact ⟨by rw [HR.out]; rfl, by rw [HG.out]; exact HO.out, Moves.refl _ _⟩
  | some i =>
    rw [hat] at hd
    simp only [Option.getD_some] at hd
    obtain ⟨p, hp, fp, kp⟩ := at_some hat
    have HPI : Hid (s.ps[i]?.getD default = p) := by unfold Hid; rw [hp]; rfl
    have HG : Hid (s.got key = s.setP i { p with marked := true }) := by unfold Hid Ck.got; rw [hat, ← HPI.out]
    have HR : Hid (lookRes zeroI s key = .tuple #[p.thing, .bool true]) := by unfold Hid lookRes; rw [hat]; show Value.tuple #[(s.ps[i]?.getD default).thing, .bool true] = _; rw [HPI.out]
    rw [HR.out] at HK0
    have HK := Lib.hid HK0
    clear HK0
    have HM := Lib.hid (h.mark hp true)
    have hi : (i : Int) < s.ps.length := by have := at_lt hat; omega
    have hl : (s.ps.length : Int) ≤ 4096 := by have := h.ok.n2; omega
    have hfr := blk_frozen h.row (i * 4 + 1)
    obtain ⟨d0, d1, d2, d3⟩ := h.place hp
    clear h c2 hat hp fp kp d0 d2 d3
    go_enter Try.func10, Try.ntmps10
    go_upto_region 3 with (go_at_call 9; (with_reducible refine HK.out.mono ?_); rintro e w' ⟨rfl, rfl⟩)
    go_still_tail 12, (by kernel_rfl)
    change wpList _ _ _ _ _ w.drew
    go_wp2
    go_ret2
    exact ⟨by rw [HR.out]; rfl, by rw [HG.out]; exact HM.out.1.drewN 1, HM.out.2.drew⟩
theorem put_other {w : World} {b k : Nat} {o : Obj} (h : k ≠ b) : (w.putObj b o).heap[k]? = w.heap[k]? := World.putObj_heap_other h
theorem put_size (w : World) (b : Nat) (o : Obj) : (w.putObj b o).heap.size = w.heap.size := by simp [World.putObj]
theorem put_moves (w : World) (b : Nat) (o : Obj) : Moves (fun k => k = b) w (w.putObj b o) := ⟨rfl, rfl, rfl, by rw [put_size]; exact Nat.le_refl _, fun _ _ hk => put_other hk⟩
theorem plCells_put : ∀ (ps : List Pl) (i : Nat) (q : Pl), i < ps.length → ((((plCells ps).set (i * 4) (.bool q.full)).set (i * 4 + 1) (.bool q.marked)).set (i * 4 + 2) (.int .i64 q.key)).set (i * 4 + 3) q.thing = plCells (ps.set i q)
  | [], i, q, h => by simp at h
  | a :: ps, 0, q, h => by simp [plCells]
  | a :: ps, i + 1, q, h => by
    have ih := plCells_put ps i q (by simpa using h)
    have e : plCells (a :: ps) = .bool a.full :: .bool a.marked :: .int .i64 a.key :: a.thing :: plCells ps := by simp [plCells]
    have e2 : plCells (a :: ps.set i q) = .bool a.full :: .bool a.marked :: .int .i64 a.key :: a.thing :: plCells (ps.set i q) := by simp [plCells]
    rw [List.set_cons_succ, e2, e, show (i + 1) * 4 = i * 4 + 4 by omega, show i * 4 + 4 + 1 = (i * 4 + 1) + 4 by omega, show i * 4 + 4 + 2 = (i * 4 + 2) + 4 by omega, show i * 4 + 4 + 3 = (i * 4 + 3) + 4 by omega, ← ih]
    rfl
/-- The four cells of a place set. -/
abbrev set4 (w : World) (g o : Nat) (a b c d : Value) : World := (((w.setCell ⟨g, o, none⟩ a).setCell ⟨g, o + 1, none⟩ b).setCell ⟨g, o + 2, none⟩ c).setCell ⟨g, o + 3, none⟩ d
theorem set4_row {w : World} {g : Nat} {t : TypeId} {ps : List Pl} (h : w.heap[g]? = some (.cells (plCells ps).toArray t (0, 0))) {i : Nat} (hi : i < ps.length) (q : Pl) :
    (set4 w g (i * 4) (.bool q.full) (.bool q.marked) (.int .i64 q.key) q.thing).heap[g]? = some (.cells (plCells (ps.set i q)).toArray t (0, 0)) := by
  have h1 := blk_set (blk_set (blk_set (blk_set h (i * 4) (.bool q.full)) (i * 4 + 1) (.bool q.marked)) (i * 4 + 2) (.int .i64 q.key)) (i * 4 + 3) q.thing
  rw [h1]
  simp only [List.setIfInBounds_toArray, plCells_put ps i q hi]
theorem set4_moves (w : World) (g o : Nat) (a b c d : Value) : Moves (fun k => k = g) w (set4 w g o a b c d) :=
  ((((Moves.refl (fun k => k = g) w).setCell (p := ⟨g, o, none⟩) (fun _ => rfl) a).setCell (p := ⟨g, o + 1, none⟩) (fun _ => rfl) b).setCell (p := ⟨g, o + 2, none⟩) (fun _ => rfl) c).setCell (p := ⟨g, o + 3, none⟩) (fun _ => rfl) d
/-- The clock behind a thing that is taken out. -/
def Ck.dropped (z : Value) (s : Ck) (key : Int) : Ck :=
  match s.at key with
  | some i => s.empty z i key
  | none => s
set_option maxHeartbeats 2000000 in
theorem drop_any {n₀ : Nat} {w : World} {C g M : Nat} {s : Ck} (h : ClockAt n₀ w C g M s) (key : Int) : Calls Try.prog 12 #[.pointer (some ⟨C, 0, none⟩), .int .i64 key] w (ClockDid n₀ C g M (s.dropped zeroI key) (lookRes zeroI s key) w) := by
  obtain ⟨c0, c1, c2⟩ := h.cells
  have HK0 := look_any h key
  have hd := at_data h key w.drew rfl false
  simp only [Bool.false_eq_true, if_false] at hd
  cases hat : s.at key with
  | none =>
    have HG : Hid (s.dropped zeroI key = s) := by unfold Hid Ck.dropped; rw [hat]
    have HR : Hid (lookRes zeroI s key = .tuple #[zeroI, .bool false]) := by unfold Hid lookRes; rw [hat]
    rw [HR.out] at HK0
    have HK := Lib.hid HK0
    clear HK0
    have HO := Lib.hid h
    clear h c0 c1 c2 hat hd
    go_enter Try.func12, Try.ntmps12
    go_wp2_with (go_at_call 9; (with_reducible refine HK.out.mono ?_); rintro e w' ⟨rfl, rfl⟩)
    go_ret2
    exact ⟨by rw [HR.out]; rfl, by rw [HG.out]; exact HO.out, Moves.refl _ _⟩
  | some i =>
    rw [hat] at hd
    simp only [Option.getD_some] at hd
    obtain ⟨p, hp, fp, kp⟩ := at_some hat
    have HPI : Hid (s.ps[i]?.getD default = p) := by unfold Hid; rw [hp]; rfl
    have HG : Hid (s.dropped zeroI key = s.empty zeroI i key) := by unfold Hid Ck.dropped; rw [hat]
    have HR : Hid (lookRes zeroI s key = .tuple #[p.thing, .bool true]) := by unfold Hid lookRes; rw [hat]; show Value.tuple #[(s.ps[i]?.getD default).thing, .bool true] = _; rw [HPI.out]
    rw [HR.out] at HK0
    have HK := Lib.hid HK0
    clear HK0
    have hi : (i : Int) < s.ps.length := by have := at_lt hat; omega
    have hl : (s.ps.length : Int) ≤ 4096 := by have := h.ok.n2; omega
    have f0 := blk_frozen h.row (i * 4)
    have f1 := blk_frozen h.row (i * 4 + 1)
    have f2 := blk_frozen h.row (i * 4 + 2)
    have f3 := blk_frozen h.row (i * 4 + 3)
    obtain ⟨d0, d1, d2, d3⟩ := h.place hp
    have HB := Lib.hid h.blk
    have HRW := Lib.hid h.row
    have HMP := Lib.hid h.map
    have HNE := Lib.hid h.ne
    have HLO := Lib.hid h.lo
    have HTH : Hid (∀ p ∈ s.ps.set i (Pl.zero zeroI), ∃ t, p.thing = .int .i64 t) := things_set (Q := fun v => ∃ t, v = .int .i64 t) h.things ⟨_, rfl⟩
    have HOK := Lib.hid (ok_empty h.ok zeroI hat)
    have HIL := Lib.hid (at_lt hat)
    clear h c2 hat hp fp kp
    go_enter Try.func12, Try.ntmps12
    go_upto_region 3 with (go_at_call 9; (with_reducible refine HK.out.mono ?_); rintro e w' ⟨rfl, rfl⟩)
    go_still_tail 12, (by kernel_rfl)
    change wpList _ _ _ _ _ w.drew
    go_upto_region 4 with (fail)
    have hr1 : (set4 w g (i * 4) (.bool false) (.bool false) (.int .i64 0) zeroI).drew.heap[g]? = some (.cells (plCells (s.ps.set i (Pl.zero zeroI))).toArray 56 (0, 0)) := set4_row HRW.out HIL.out (Pl.zero zeroI)
    have hm1 : Moves (fun k => k = g) w (set4 w g (i * 4) (.bool false) (.bool false) (.int .i64 0) zeroI).drew := (set4_moves _ _ _ _ _ _ _).drew
    change (Code.region _ _ _).wp _ _ _ (set4 w g (i * 4) (.bool false) (.bool false) (.int .i64 0) zeroI).drew
    generalize (set4 w g (i * 4) (.bool false) (.bool false) (.int .i64 0) zeroI).drew = W1 at hr1 hm1 ⊢
    have hl1 := HNE.out
    have hC1 := (hm1.block C (blk_lt HB.out) (fun e => hl1.1 e.symm)).trans HB.out
    have hM1 := HMP.out.same (hm1.block M HMP.out.lt (fun e => hl1.2.1 e.symm))
    obtain ⟨es, cl, hdel, hM2⟩ := run_delete_int (P := Try.prog) Try.underlying50 Try.underlying3 hM1 key
    have c1' : W1.cell? ⟨C, 1, none⟩ = some (.map (some M)) := blk_cell hC1 1
    have HR1 := Lib.hid hr1
    have HM1 := Lib.hid hm1
    have HC1 := Lib.hid hC1
    have HM2 := Lib.hid hM2
    clear hr1 hm1 hl1 hC1 hM1 hM2 c0 c1 d0 d1 d2 d3 f0 f1 f2 f3 hd
    go_wp2
    go_ret2
    have hn := HNE.out
    refine ⟨by rw [HR.out]; rfl, ?_, (HM1.out.mono (fun _ _ e => .inr (.inl e))).trans ((put_moves _ _ _).mono (T := fun k => k = C ∨ k = g ∨ k = M) (fun _ _ e => .inr (.inr e))) (fun _ _ h => h)⟩
    rw [HG.out]
    have hl : (s.empty zeroI i key).ps.length = s.ps.length := by simp [Ck.empty]
    refine ⟨HOK.out, ?_, ?_, HM2.out, HLO.out, HTH.out⟩
    · rw [hl, put_other hn.2.2]; exact HC1.out
    · rw [put_other hn.2.1]; exact HR1.out
end Go.Proofs.Ytadhkciggiefbaa

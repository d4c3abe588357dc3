/-
  Maps with keys of type int, told as rows of keys and values: what a look-up, a store, a delete, a clear and len do.
  Conditions: none.
-/
import Derived.Test.YtadglpnmhpmebaaBase
import Derived.MapKept
import Derived.RangeFuncRecord
import Derived.Below
namespace Go.Proofs.Ytadglpnmhpmebaa
open Go.RowKit Go.MapKept

/-- A map's row: no key twice. -/
def mget : List (Int × Value) → Int → Option Value
  | [], _ => none
  | p :: m, k => if p.1 = k then some p.2 else mget m k
def mset : List (Int × Value) → Int → Value → List (Int × Value)
  | [], k, v => [(k, v)]
  | p :: m, k, v => if p.1 = k then (k, v) :: m else p :: mset m k v
def mdel : List (Int × Value) → Int → List (Int × Value)
  | [], _ => []
  | p :: m, k => if p.1 = k then m else p :: mdel m k
theorem mget_mset (m : List (Int × Value)) (k j : Int) (v : Value) : mget (mset m k v) j = if k = j then some v else mget m j := by
  induction m with
  | nil => simp [mset, mget]
  | cons p m ih =>
    unfold mset
    by_cases h : p.1 = k
    · rw [if_pos h]
      unfold mget
      by_cases hj : k = j
      · simp [hj]
      · rw [if_neg hj, if_neg hj, if_neg (by omega)]
    · rw [if_neg h]
      unfold mget
      rw [ih]
      by_cases hp : p.1 = j
      · rw [if_pos hp, if_pos hp, if_neg (by omega)]
      · rw [if_neg hp, if_neg hp]
theorem mem_mset {m : List (Int × Value)} {k : Int} {v : Value} {p : Int × Value} (h : p ∈ mset m k v) : p = (k, v) ∨ p ∈ m := by
  induction m with
  | nil => simpa [mset] using h
  | cons q m ih =>
    unfold mset at h
    split at h
    · simp at h; rcases h with h | h
      · exact .inl h
      · exact .inr (by simp [h])
    · simp at h; rcases h with h | h
      · exact .inr (by simp [h])
      · rcases ih h with h | h
        · exact .inl h
        · exact .inr (by simp [h])
theorem mem_mdel {m : List (Int × Value)} {k : Int} {p : Int × Value} (h : p ∈ mdel m k) : p ∈ m := by
  induction m with
  | nil => simp [mdel] at h
  | cons q m ih =>
    unfold mdel at h
    split at h
    · simp [h]
    · simp at h; rcases h with h | h
      · simp [h]
      · simp [ih h]
theorem mget_none {m : List (Int × Value)} {k : Int} (h : ∀ p ∈ m, p.1 ≠ k) : mget m k = none := by
  induction m with
  | nil => rfl
  | cons q m ih =>
    unfold mget
    rw [if_neg (h q (by simp)), ih (fun p hp => h p (by simp [hp]))]
theorem mget_mdel {m : List (Int × Value)} (hm : (m.map (·.1)).Nodup) (k j : Int) : mget (mdel m k) j = if k = j then none else mget m j := by
  induction m with
  | nil => simp [mdel, mget]
  | cons p m ih =>
    rw [List.map_cons, List.nodup_cons] at hm
    unfold mdel
    by_cases h : p.1 = k
    · rw [if_pos h]
      by_cases hj : k = j
      · rw [if_pos hj]
        refine mget_none fun q hq e => hm.1 ?_
        rw [h, hj, ← e]
        exact List.mem_map_of_mem hq
      · rw [if_neg hj]
        show mget m j = if p.1 = j then some p.2 else mget m j
        rw [if_neg (by omega)]
    · rw [if_neg h]
      unfold mget
      rw [ih hm.2]
      by_cases hp : p.1 = j
      · rw [if_pos hp, if_pos hp, if_neg (by omega)]
      · rw [if_neg hp, if_neg hp]
theorem keys_mset {m : List (Int × Value)} (hm : (m.map (·.1)).Nodup) (k : Int) (v : Value) : ((mset m k v).map (·.1)).Nodup := by
  induction m with
  | nil => simp [mset]
  | cons p m ih =>
    rw [List.map_cons, List.nodup_cons] at hm
    unfold mset
    by_cases h : p.1 = k
    · rw [if_pos h, List.map_cons, List.nodup_cons]
      exact ⟨by rw [← h]; exact hm.1, hm.2⟩
    · rw [if_neg h, List.map_cons, List.nodup_cons]
      refine ⟨fun hin => ?_, ih hm.2⟩
      obtain ⟨q, hq, e⟩ := List.mem_map.1 hin
      rcases mem_mset hq with rfl | hq
      · exact h e.symm
      · exact hm.1 (by rw [← e]; exact List.mem_map_of_mem hq)
theorem keys_mdel {m : List (Int × Value)} (hm : (m.map (·.1)).Nodup) (k : Int) : ((mdel m k).map (·.1)).Nodup := by
  induction m with
  | nil => simp [mdel]
  | cons p m ih =>
    rw [List.map_cons, List.nodup_cons] at hm
    unfold mdel
    by_cases h : p.1 = k
    · rw [if_pos h]; exact hm.2
    · rw [if_neg h, List.map_cons, List.nodup_cons]
      refine ⟨fun hin => ?_, ih hm.2⟩
      obtain ⟨q, hq, e⟩ := List.mem_map.1 hin
      exact hm.1 (by rw [← e]; exact List.mem_map_of_mem (mem_mdel hq))

/-- Block b is a map that holds this row. -/
def MapIs (w : World) (b : Nat) (m : List (Int × Value)) : Prop :=
  (m.map (·.1)).Nodup ∧ ∃ es clock, w.heap[b]? = some (.map es clock) ∧ es.toList.map (fun e => (e.key, e.val)) = m.map (fun p => (Value.int .i64 p.1, p.2))
theorem MapIs.lt {w : World} {b : Nat} {m : List (Int × Value)} (h : MapIs w b m) : b < w.heap.size := by
  obtain ⟨_, es, c, h, _⟩ := h
  exact (Array.getElem?_eq_some_iff.1 h).1
theorem MapIs.same {w w' : World} {b : Nat} {m : List (Int × Value)} (h : MapIs w b m) (hb : w'.heap[b]? = w.heap[b]?) : MapIs w' b m := by
  obtain ⟨h1, es, c, h2, h3⟩ := h
  exact ⟨h1, es, c, hb.trans h2, h3⟩
theorem MapIs.new (w : World) : MapIs (w.alloc (.map #[] 0)) w.heap.size [] := ⟨by simp, #[], 0, heap_alloc_new _ _, rfl⟩

/-- Where a key stands, from i on. -/
def mfind : List (Int × Value) → Int → Nat → Option (Nat × Value)
  | [], _, _ => none
  | p :: m, k, i => if p.1 = k then some (i, p.2) else mfind m k (i + 1)
theorem findNow_int (k : Int) : ∀ (es : List MapEntry) (m : List (Int × Value)) (i : Nat), es.map (fun e => (e.key, e.val)) = m.map (fun p => (Value.int .i64 p.1, p.2)) →
    Instr.findNow (.int .i64) (.int .i64 k) es i = some (mfind m k i)
  | [], [], _, _ => rfl
  | [], p :: m, _, h => by simp at h
  | e :: es, [], _, h => by simp at h
  | e :: es, p :: m, i, h => by
    simp only [List.map_cons, List.cons.injEq, Prod.mk.injEq] at h
    unfold Instr.findNow mfind
    rw [h.1.1]
    unfold Instr.sameNow
    by_cases hk : p.1 = k
    · subst hk
      simp [h.1.2]
    · have : (k == p.1) = false := by simpa using fun e => hk e.symm
      simp only [this, if_true, if_neg hk]
      exact findNow_int k es m (i + 1) h.2
theorem mfind_get (k : Int) : ∀ (m : List (Int × Value)) (i : Nat), (mfind m k i).map (·.2) = mget m k
  | [], _ => rfl
  | p :: m, i => by
    unfold mfind mget
    by_cases hk : p.1 = k
    · rw [if_pos hk, if_pos hk]; rfl
    · rw [if_neg hk, if_neg hk]; exact mfind_get k m (i + 1)

section
variable {P : Program} {w : World}
theorem run_lookup_int {t K E : TypeId} (ht : P.underlying t = some (.map K E)) (hK : P.underlying K = some (.int .i64)) {b : Nat} {m : List (Int × Value)} (hm : MapIs w b m) (k : Int) (zv : Value) (hz : (zeroValue E).run P w = .ok zv w) (ok : Bool) :
    (Instr.lookup t (.map (some b)) (.int .i64 k) ok).run P w = .ok (if ok then .tuple #[(mget m k).getD zv, .bool (mget m k).isSome] else (mget m k).getD zv) w := by
  obtain ⟨_, es, c, hb, he⟩ := hm
  have hf := findNow_int k es.toList m 0 he
  have hg := mfind_get k m 0
  have hfk := run_findKey (w := w) hK hf
  unfold Instr.lookup
  have hck : (Instr.checkKey es.isEmpty 10000 K (.int .i64 k)).run P w = .ok () w := by
    unfold Instr.checkKey
    simp [run_underlying hK]
  cases hmf : mfind m k 0 with
  | none =>
    rw [hmf] at hg hfk
    have hg : mget m k = none := by simpa using hg.symm
    simp [run_underlying ht, Go.MapKept.run_getObj_map hb, hck, hfk, hz, hg]
  | some p =>
    rw [hmf] at hg hfk
    have hg : mget m k = some p.2 := by simpa using hg.symm
    simp [run_underlying ht, Go.MapKept.run_getObj_map hb, hck, hfk, hg]
theorem modify_find (k : Int) (v : Value) : ∀ (es : List MapEntry) (m : List (Int × Value)) (i j : Nat) (x : Value), es.map (fun e => (e.key, e.val)) = m.map (fun p => (Value.int .i64 p.1, p.2)) → mfind m k i = some (j, x) →
    i ≤ j ∧ (es.modify (j - i) (fun e => { e with key := .int .i64 k, val := v })).map (fun e => (e.key, e.val)) = (mset m k v).map (fun p => (Value.int .i64 p.1, p.2))
  | [], [], _, _, _, _, h => by simp [mfind] at h
  | [], p :: m, _, _, _, h, _ => by simp at h
  | e :: es, [], _, _, _, h, _ => by simp at h
  | e :: es, p :: m, i, j, x, h, hf => by
    simp only [List.map_cons, List.cons.injEq, Prod.mk.injEq] at h
    unfold mfind at hf
    unfold mset
    by_cases hk : p.1 = k
    · rw [if_pos hk] at hf
      rw [if_pos hk]
      simp only [Option.some.injEq, Prod.mk.injEq] at hf
      obtain ⟨rfl, rfl⟩ := hf
      simp [h.2]
    · rw [if_neg hk] at hf
      rw [if_neg hk]
      obtain ⟨h1, h2⟩ := modify_find k v es m (i + 1) j x h.2 hf
      refine ⟨by omega, ?_⟩
      obtain ⟨d, rfl⟩ : ∃ d, j = i + 1 + d := ⟨j - (i + 1), by omega⟩
      rw [show i + 1 + d - (i + 1) = d by omega] at h2
      rw [show i + 1 + d - i = d + 1 by omega, List.modify_succ_cons, List.map_cons, h2, List.map_cons]
      simp [h.1]
theorem find_key (k : Int) : ∀ (es : List MapEntry) (m : List (Int × Value)) (i j : Nat) (x : Value), es.map (fun e => (e.key, e.val)) = m.map (fun p => (Value.int .i64 p.1, p.2)) → mfind m k i = some (j, x) →
    (es[j - i]?.map (·.key)) = some (.int .i64 k)
  | [], [], _, _, _, _, h => by simp [mfind] at h
  | [], p :: m, _, _, _, h, _ => by simp at h
  | e :: es, [], _, _, _, h, _ => by simp at h
  | e :: es, p :: m, i, j, x, h, hf => by
    simp only [List.map_cons, List.cons.injEq, Prod.mk.injEq] at h
    unfold mfind at hf
    by_cases hk : p.1 = k
    · rw [if_pos hk] at hf
      simp only [Option.some.injEq, Prod.mk.injEq] at hf
      obtain ⟨rfl, rfl⟩ := hf
      simp [h.1.1, hk]
    · rw [if_neg hk] at hf
      have h2 := find_key k es m (i + 1) j x h.2 hf
      have h1 := (modify_find k x es m (i + 1) j x h.2 hf).1
      obtain ⟨d, rfl⟩ : ∃ d, j = i + 1 + d := ⟨j - (i + 1), by omega⟩
      rw [show i + 1 + d - (i + 1) = d by omega] at h2
      rw [show i + 1 + d - i = d + 1 by omega, List.getElem?_cons_succ]
      exact h2
theorem push_find (k : Int) (v : Value) : ∀ (m : List (Int × Value)) (i : Nat), mfind m k i = none → mset m k v = m ++ [(k, v)]
  | [], _, _ => rfl
  | p :: m, i, h => by
    unfold mfind at h
    unfold mset
    by_cases hk : p.1 = k
    · rw [if_pos hk] at h; cases h
    · rw [if_neg hk] at h
      rw [if_neg hk, push_find k v m (i + 1) h]
      rfl
theorem run_mapUpdate_int {t K E : TypeId} (ht : P.underlying t = some (.map K E)) (hK : P.underlying K = some (.int .i64)) {b : Nat} {m : List (Int × Value)} (hm : MapIs w b m) (k : Int) (v : Value) :
    ∃ es c, (Instr.mapUpdate t (.map (some b)) (.int .i64 k) v).run P w = .ok () (w.putObj b (.map es c)) ∧ MapIs (w.putObj b (.map es c)) b (mset m k v) := by
  have hlt := hm.lt
  obtain ⟨hnd, es, c, hb, he⟩ := hm
  have hf := findNow_int k es.toList m 0 he
  have hfk := run_findKey (w := w) hK hf
  have hck : (Instr.checkKey false 10000 K (.int .i64 k)).run P w = .ok () w := by
    unfold Instr.checkKey
    simp [run_underlying hK]
  have hput : ∀ o, (w.putObj b o).heap[b]? = some o := fun o => by simp [World.putObj, hlt]
  cases hmf : mfind m k 0 with
  | none =>
    rw [hmf] at hfk
    refine ⟨es.push { key := .int .i64 k, val := v, born := c }, c + 1, ?_, keys_mset hnd k v, _, _, hput _, ?_⟩
    · unfold Instr.mapUpdate
      simp [run_underlying ht, Go.MapKept.run_getObj_map hb, hck, hfk, run_setObj_map _ hb, World.putObj]
    · rw [push_find k v m 0 hmf]
      simp [he]
  | some p =>
    obtain ⟨j, x⟩ := p
    rw [hmf] at hfk
    obtain ⟨_, hmod⟩ := modify_find k v es.toList m 0 j x he hmf
    refine ⟨es.modify j fun e => { e with key := .int .i64 k, val := v }, c, ?_, keys_mset hnd k v, _, _, hput _, ?_⟩
    · have hkey : (es[j]?.map (·.key)).getD (.int .i64 k) = .int .i64 k := by
        cases hej : es[j]? with
        | none => rfl
        | some e =>
          have := find_key k es.toList m 0 j x he hmf
          rw [Nat.sub_zero, Array.getElem?_toList, hej] at this
          simpa using this
      unfold Instr.mapUpdate Instr.keyThatStays
      simp [run_underlying ht, Go.MapKept.run_getObj_map hb, hck, hfk, hkey, Instr.sameBits, run_setObj_map _ hb, World.putObj]
    · rw [Array.toList_modify]
      exact hmod
theorem erase_find (k : Int) : ∀ (es : List MapEntry) (m : List (Int × Value)) (i j : Nat) (x : Value), es.map (fun e => (e.key, e.val)) = m.map (fun p => (Value.int .i64 p.1, p.2)) → mfind m k i = some (j, x) →
    i ≤ j ∧ j - i < es.length ∧ (es.eraseIdx (j - i)).map (fun e => (e.key, e.val)) = (mdel m k).map (fun p => (Value.int .i64 p.1, p.2))
  | [], [], _, _, _, _, h => by simp [mfind] at h
  | [], p :: m, _, _, _, h, _ => by simp at h
  | e :: es, [], _, _, _, h, _ => by simp at h
  | e :: es, p :: m, i, j, x, h, hf => by
    simp only [List.map_cons, List.cons.injEq, Prod.mk.injEq] at h
    unfold mfind at hf
    unfold mdel
    by_cases hk : p.1 = k
    · rw [if_pos hk] at hf
      rw [if_pos hk]
      simp only [Option.some.injEq, Prod.mk.injEq] at hf
      obtain ⟨rfl, rfl⟩ := hf
      simp [h.2]
    · rw [if_neg hk] at hf
      rw [if_neg hk]
      obtain ⟨h1, h3, h2⟩ := erase_find k es m (i + 1) j x h.2 hf
      obtain ⟨d, rfl⟩ : ∃ d, j = i + 1 + d := ⟨j - (i + 1), by omega⟩
      rw [show i + 1 + d - (i + 1) = d by omega] at h2 h3
      rw [show i + 1 + d - i = d + 1 by omega, List.eraseIdx_cons_succ, List.map_cons, h2, List.map_cons]
      exact ⟨by omega, by simp; omega, by simp [h.1]⟩
theorem gone_find (k : Int) : ∀ (m : List (Int × Value)) (i : Nat), mfind m k i = none → mdel m k = m
  | [], _, _ => rfl
  | p :: m, i, h => by
    unfold mfind at h
    unfold mdel
    by_cases hk : p.1 = k
    · rw [if_pos hk] at h; cases h
    · rw [if_neg hk] at h
      rw [if_neg hk, gone_find k m (i + 1) h]
theorem run_delete_int {t K E : TypeId} (ht : P.underlying t = some (.map K E)) (hK : P.underlying K = some (.int .i64)) {b : Nat} {m : List (Int × Value)} (hm : MapIs w b m) (k : Int) :
    ∃ es c, (∀ kt ty : TypeId, (Builtin.delete_ #[t, kt] ty #[.map (some b), .int .i64 k]).run P w = .ok (.tuple #[]) (w.putObj b (.map es c))) ∧ MapIs (w.putObj b (.map es c)) b (mdel m k) := by
  have hlt := hm.lt
  obtain ⟨hnd, es, c, hb, he⟩ := hm
  have hf := findNow_int k es.toList m 0 he
  have hfk := run_findKey (w := w) hK hf
  have hck : (Instr.checkKey es.isEmpty 10000 K (.int .i64 k)).run P w = .ok () w := by
    unfold Instr.checkKey
    simp [run_underlying hK]
  have hput : ∀ o, (w.putObj b o).heap[b]? = some o := fun o => by simp [World.putObj, hlt]
  cases hmf : mfind m k 0 with
  | none =>
    rw [hmf] at hfk
    refine ⟨es, c, ?_, keys_mdel hnd k, _, _, hput _, ?_⟩
    · intro kt ty
      unfold Builtin.delete_
      simp [run_underlying ht, Go.MapKept.run_getObj_map hb, hck, hfk, run_setObj_map _ hb, World.putObj]
    · rw [gone_find k m 0 hmf]
      exact he
  | some p =>
    obtain ⟨j, x⟩ := p
    rw [hmf] at hfk
    obtain ⟨_, hjl, hmod⟩ := erase_find k es.toList m 0 j x he hmf
    refine ⟨es.eraseIdxIfInBounds j, c, ?_, keys_mdel hnd k, _, _, hput _, ?_⟩
    · intro kt ty
      unfold Builtin.delete_
      simp [run_underlying ht, Go.MapKept.run_getObj_map hb, hck, hfk, run_setObj_map _ hb, World.putObj]
    · have hj : j < es.size := by simpa using hjl
      rw [show es.eraseIdxIfInBounds j = es.eraseIdx j hj from by unfold Array.eraseIdxIfInBounds; rw [dif_pos hj], Array.toList_eraseIdx]
      exact hmod
theorem run_clear_int {t K E : TypeId} (ht : P.underlying t = some (.map K E)) {b : Nat} {m : List (Int × Value)} (hm : MapIs w b m) :
    ∃ es c, (∀ ty : TypeId, (Builtin.clear_ #[t] ty #[.map (some b)]).run P w = .ok (.tuple #[]) (w.putObj b (.map es c))) ∧ MapIs (w.putObj b (.map es c)) b [] := by
  have hlt := hm.lt
  obtain ⟨hnd, es, c, hb, he⟩ := hm
  have hput : ∀ o, (w.putObj b o).heap[b]? = some o := fun o => by simp [World.putObj, hlt]
  refine ⟨#[], c, ?_, by simp, #[], c, hput _, rfl⟩
  intro ty
  unfold Builtin.clear_
  simp [run_underlying ht, Go.MapKept.run_getObj_map hb, run_setObj_map _ hb, World.putObj]
end

end Go.Proofs.Ytadglpnmhpmebaa

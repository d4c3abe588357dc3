/-
  Joined: IntMap, Flash1, Flash2, Foot, FlashDev, Flash3, Flash4, Flash5, Flash6, Flash7.
  Conditions: none.
-/
import Derived.Test.YtiibpkncdflfcaaJA
import Derived.MapKept
import Derived.RangeFuncRecord
import Derived.Below
import Derived.WalkKit
import Derived.IntWalk
import Derived.Deep.QuietTactic
import Derived.BigQuiet
import Derived.Laws.MakeOwn
namespace Go.Proofs.Ytiibpkncdflfcaa
open Go.RowKit Go.MapKept

/-- A map's row: no key twice. -/
def mget : List (Int × Value) → Int → Option Value
  | [], _ => none
  | p :: m, k => if p.1 = k then some p.2 else mget m k
def mset : List (Int × Value) → Int → Value → List (Int × Value)
  | [], k, v => [(k, v)]
  | p :: m, k, v => if p.1 = k then (k, v) :: m else p :: mset m k v
def mdel : List (Int × Value) → Int → List (Int × Value)
  | [], _ => []
  | p :: m, k => if p.1 = k then m else p :: mdel m k
theorem mget_mset (m : List (Int × Value)) (k j : Int) (v : Value) : mget (mset m k v) j = if k = j then some v else mget m j := by
  induction m with
  | nil => simp [mset, mget]
  | cons p m ih =>
    unfold mset
    by_cases h : p.1 = k
    · rw [if_pos h]
      unfold mget
      by_cases hj : k = j
      · simp [hj]
      · rw [if_neg hj, if_neg hj, if_neg (by omega)]
    · rw [if_neg h]
      unfold mget
      rw [ih]
      by_cases hp : p.1 = j
      · rw [if_pos hp, if_pos hp, if_neg (by omega)]
      · rw [if_neg hp, if_neg hp]
theorem mem_mset {m : List (Int × Value)} {k : Int} {v : Value} {p : Int × Value} (h : p ∈ mset m k v) : p = (k, v) ∨ p ∈ m := by
  induction m with
  | nil => simpa [mset] using h
  | cons q m ih =>
    unfold mset at h
    split at h
    · simp at h; rcases h with h | h
      · exact .inl h
      · exact .inr (by simp [h])
    · simp at h; rcases h with h | h
      · exact .inr (by simp [h])
      · rcases ih h with h | h
        · exact .inl h
        · exact .inr (by simp [h])
theorem mem_mdel {m : List (Int × Value)} {k : Int} {p : Int × Value} (h : p ∈ mdel m k) : p ∈ m := by
  induction m with
  | nil => simp [mdel] at h
  | cons q m ih =>
    unfold mdel at h
    split at h
    · simp [h]
    · simp at h; rcases h with h | h
      · simp [h]
      · simp [ih h]
theorem mget_none {m : List (Int × Value)} {k : Int} (h : ∀ p ∈ m, p.1 ≠ k) : mget m k = none := by
  induction m with
  | nil => rfl
  | cons q m ih =>
    unfold mget
    rw [if_neg (h q (by simp)), ih (fun p hp => h p (by simp [hp]))]
theorem mget_mdel {m : List (Int × Value)} (hm : (m.map (·.1)).Nodup) (k j : Int) : mget (mdel m k) j = if k = j then none else mget m j := by
  induction m with
  | nil => simp [mdel, mget]
  | cons p m ih =>
    rw [List.map_cons, List.nodup_cons] at hm
    unfold mdel
    by_cases h : p.1 = k
    · rw [if_pos h]
      by_cases hj : k = j
      · rw [if_pos hj]
        refine mget_none fun q hq e => hm.1 ?_
        rw [h, hj, ← e]
        exact List.mem_map_of_mem hq
      · rw [if_neg hj]
        show mget m j = if p.1 = j then some p.2 else mget m j
        rw [if_neg (by omega)]
    · rw [if_neg h]
      unfold mget
      rw [ih hm.2]
      by_cases hp : p.1 = j
      · rw [if_pos hp, if_pos hp, if_neg (by omega)]
      · rw [if_neg hp, if_neg hp]
theorem keys_mset {m : List (Int × Value)} (hm : (m.map (·.1)).Nodup) (k : Int) (v : Value) : ((mset m k v).map (·.1)).Nodup := by
  induction m with
  | nil => simp [mset]
  | cons p m ih =>
    rw [List.map_cons, List.nodup_cons] at hm
    unfold mset
    by_cases h : p.1 = k
    · rw [if_pos h, List.map_cons, List.nodup_cons]
      exact ⟨by rw [← h]; exact hm.1, hm.2⟩
    · rw [if_neg h, List.map_cons, List.nodup_cons]
      refine ⟨fun hin => ?_, ih hm.2⟩
      obtain ⟨q, hq, e⟩ := List.mem_map.1 hin
      rcases mem_mset hq with rfl | hq
      · exact h e.symm
      · exact hm.1 (by rw [← e]; exact List.mem_map_of_mem hq)
theorem keys_mdel {m : List (Int × Value)} (hm : (m.map (·.1)).Nodup) (k : Int) : ((mdel m k).map (·.1)).Nodup := by
  induction m with
  | nil => simp [mdel]
  | cons p m ih =>
    rw [List.map_cons, List.nodup_cons] at hm
    unfold mdel
    by_cases h : p.1 = k
    · rw [if_pos h]; exact hm.2
    · rw [if_neg h, List.map_cons, List.nodup_cons]
      refine ⟨fun hin => ?_, ih hm.2⟩
      obtain ⟨q, hq, e⟩ := List.mem_map.1 hin
      exact hm.1 (by rw [← e]; exact List.mem_map_of_mem (mem_mdel hq))

/-- Block b is a map that holds this row. -/
def MapIs (w : World) (b : Nat) (m : List (Int × Value)) : Prop :=
  (m.map (·.1)).Nodup ∧ ∃ es clock, w.heap[b]? = some (.map es clock) ∧ es.toList.map (fun e => (e.key, e.val)) = m.map (fun p => (Value.int .i64 p.1, p.2))
theorem MapIs.lt {w : World} {b : Nat} {m : List (Int × Value)} (h : MapIs w b m) : b < w.heap.size := by
  obtain ⟨_, es, c, h, _⟩ := h
  exact (Array.getElem?_eq_some_iff.1 h).1
theorem MapIs.same {w w' : World} {b : Nat} {m : List (Int × Value)} (h : MapIs w b m) (hb : w'.heap[b]? = w.heap[b]?) : MapIs w' b m := by
  obtain ⟨h1, es, c, h2, h3⟩ := h
  exact ⟨h1, es, c, hb.trans h2, h3⟩
theorem MapIs.new (w : World) : MapIs (w.alloc (.map #[] 0)) w.heap.size [] := ⟨by simp, #[], 0, heap_alloc_new _ _, rfl⟩

/-- Where a key stands, from i on. -/
def mfind : List (Int × Value) → Int → Nat → Option (Nat × Value)
  | [], _, _ => none
  | p :: m, k, i => if p.1 = k then some (i, p.2) else mfind m k (i + 1)
theorem findNow_int (k : Int) : ∀ (es : List MapEntry) (m : List (Int × Value)) (i : Nat), es.map (fun e => (e.key, e.val)) = m.map (fun p => (Value.int .i64 p.1, p.2)) →
    Instr.findNow (.int .i64) (.int .i64 k) es i = some (mfind m k i)
  | [], [], _, _ => rfl
  | [], p :: m, _, h => by simp at h
  | e :: es, [], _, h => by simp at h
  | e :: es, p :: m, i, h => by
    simp only [List.map_cons, List.cons.injEq, Prod.mk.injEq] at h
    unfold Instr.findNow mfind
    rw [h.1.1]
    unfold Instr.sameNow
    by_cases hk : p.1 = k
    · subst hk
      simp [h.1.2]
    · have : (k == p.1) = false := by simpa using fun e => hk e.symm
      simp only [this, if_true, if_neg hk]
      exact findNow_int k es m (i + 1) h.2
theorem mfind_get (k : Int) : ∀ (m : List (Int × Value)) (i : Nat), (mfind m k i).map (·.2) = mget m k
  | [], _ => rfl
  | p :: m, i => by
    unfold mfind mget
    by_cases hk : p.1 = k
    · rw [if_pos hk, if_pos hk]; rfl
    · rw [if_neg hk, if_neg hk]; exact mfind_get k m (i + 1)

section
variable {P : Program} {w : World}
theorem run_lookup_int {t K E : TypeId} (ht : P.underlying t = some (.map K E)) (hK : P.underlying K = some (.int .i64)) {b : Nat} {m : List (Int × Value)} (hm : MapIs w b m) (k : Int) (zv : Value) (hz : (zeroValue E).run P w = .ok zv w) (ok : Bool) :
    (Instr.lookup t (.map (some b)) (.int .i64 k) ok).run P w = .ok (if ok then .tuple #[(mget m k).getD zv, .bool (mget m k).isSome] else (mget m k).getD zv) w := by
  obtain ⟨_, es, c, hb, he⟩ := hm
  have hf := findNow_int k es.toList m 0 he
  have hg := mfind_get k m 0
  have hfk := run_findKey (w := w) hK hf
  unfold Instr.lookup
  have hck : (Instr.checkKey es.isEmpty 10000 K (.int .i64 k)).run P w = .ok () w := by
    unfold Instr.checkKey
    simp [run_underlying hK]
  cases hmf : mfind m k 0 with
  | none =>
    rw [hmf] at hg hfk
    have hg : mget m k = none := by simpa using hg.symm
    simp [run_underlying ht, Go.MapKept.run_getObj_map hb, hck, hfk, hz, hg]
  | some p =>
    rw [hmf] at hg hfk
    have hg : mget m k = some p.2 := by simpa using hg.symm
    simp [run_underlying ht, Go.MapKept.run_getObj_map hb, hck, hfk, hg]
theorem modify_find (k : Int) (v : Value) : ∀ (es : List MapEntry) (m : List (Int × Value)) (i j : Nat) (x : Value), es.map (fun e => (e.key, e.val)) = m.map (fun p => (Value.int .i64 p.1, p.2)) → mfind m k i = some (j, x) →
    i ≤ j ∧ (es.modify (j - i) (fun e => { e with key := .int .i64 k, val := v })).map (fun e => (e.key, e.val)) = (mset m k v).map (fun p => (Value.int .i64 p.1, p.2))
  | [], [], _, _, _, _, h => by simp [mfind] at h
  | [], p :: m, _, _, _, h, _ => by simp at h
  | e :: es, [], _, _, _, h, _ => by simp at h
  | e :: es, p :: m, i, j, x, h, hf => by
    simp only [List.map_cons, List.cons.injEq, Prod.mk.injEq] at h
    unfold mfind at hf
    unfold mset
    by_cases hk : p.1 = k
    · rw [if_pos hk] at hf
      rw [if_pos hk]
      simp only [Option.some.injEq, Prod.mk.injEq] at hf
      obtain ⟨rfl, rfl⟩ := hf
      simp [h.2]
    · rw [if_neg hk] at hf
      rw [if_neg hk]
      obtain ⟨h1, h2⟩ := modify_find k v es m (i + 1) j x h.2 hf
      refine ⟨by omega, ?_⟩
      obtain ⟨d, rfl⟩ : ∃ d, j = i + 1 + d := ⟨j - (i + 1), by omega⟩
      rw [show i + 1 + d - (i + 1) = d by omega] at h2
      rw [show i + 1 + d - i = d + 1 by omega, List.modify_succ_cons, List.map_cons, h2, List.map_cons]
      simp [h.1]
theorem find_key (k : Int) : ∀ (es : List MapEntry) (m : List (Int × Value)) (i j : Nat) (x : Value), es.map (fun e => (e.key, e.val)) = m.map (fun p => (Value.int .i64 p.1, p.2)) → mfind m k i = some (j, x) →
    (es[j - i]?.map (·.key)) = some (.int .i64 k)
  | [], [], _, _, _, _, h => by simp [mfind] at h
  | [], p :: m, _, _, _, h, _ => by simp at h
  | e :: es, [], _, _, _, h, _ => by simp at h
  | e :: es, p :: m, i, j, x, h, hf => by
    simp only [List.map_cons, List.cons.injEq, Prod.mk.injEq] at h
    unfold mfind at hf
    by_cases hk : p.1 = k
    · rw [if_pos hk] at hf
      simp only [Option.some.injEq, Prod.mk.injEq] at hf
      obtain ⟨rfl, rfl⟩ := hf
      simp [h.1.1, hk]
    · rw [if_neg hk] at hf
      have h2 := find_key k es m (i + 1) j x h.2 hf
      have h1 := (modify_find k x es m (i + 1) j x h.2 hf).1
      obtain ⟨d, rfl⟩ : ∃ d, j = i + 1 + d := ⟨j - (i + 1), by omega⟩
      rw [show i + 1 + d - (i + 1) = d by omega] at h2
      rw [show i + 1 + d - i = d + 1 by omega, List.getElem?_cons_succ]
      exact h2
theorem push_find (k : Int) (v : Value) : ∀ (m : List (Int × Value)) (i : Nat), mfind m k i = none → mset m k v = m ++ [(k, v)]
  | [], _, _ => rfl
  | p :: m, i, h => by
    unfold mfind at h
    unfold mset
    by_cases hk : p.1 = k
    · rw [if_pos hk] at h; cases h
    · rw [if_neg hk] at h
      rw [if_neg hk, push_find k v m (i + 1) h]
      rfl
theorem run_mapUpdate_int {t K E : TypeId} (ht : P.underlying t = some (.map K E)) (hK : P.underlying K = some (.int .i64)) {b : Nat} {m : List (Int × Value)} (hm : MapIs w b m) (k : Int) (v : Value) :
    ∃ es c, (Instr.mapUpdate t (.map (some b)) (.int .i64 k) v).run P w = .ok () (w.putObj b (.map es c)) ∧ MapIs (w.putObj b (.map es c)) b (mset m k v) := by
  have hlt := hm.lt
  obtain ⟨hnd, es, c, hb, he⟩ := hm
  have hf := findNow_int k es.toList m 0 he
  have hfk := run_findKey (w := w) hK hf
  have hck : (Instr.checkKey false 10000 K (.int .i64 k)).run P w = .ok () w := by
    unfold Instr.checkKey
    simp [run_underlying hK]
  have hput : ∀ o, (w.putObj b o).heap[b]? = some o := fun o => by simp [World.putObj, hlt]
  cases hmf : mfind m k 0 with
  | none =>
    rw [hmf] at hfk
    refine ⟨es.push { key := .int .i64 k, val := v, born := c }, c + 1, ?_, keys_mset hnd k v, _, _, hput _, ?_⟩
    · unfold Instr.mapUpdate
      simp [run_underlying ht, Go.MapKept.run_getObj_map hb, hck, hfk, run_setObj_map _ hb, World.putObj]
    · rw [push_find k v m 0 hmf]
      simp [he]
  | some p =>
    obtain ⟨j, x⟩ := p
    rw [hmf] at hfk
    obtain ⟨_, hmod⟩ := modify_find k v es.toList m 0 j x he hmf
    refine ⟨es.modify j fun e => { e with key := .int .i64 k, val := v }, c, ?_, keys_mset hnd k v, _, _, hput _, ?_⟩
    · have hkey : (es[j]?.map (·.key)).getD (.int .i64 k) = .int .i64 k := by
        cases hej : es[j]? with
        | none => rfl
        | some e =>
          have := find_key k es.toList m 0 j x he hmf
          rw [Nat.sub_zero, Array.getElem?_toList, hej] at this
          simpa using this
      unfold Instr.mapUpdate Instr.keyThatStays
      simp [run_underlying ht, Go.MapKept.run_getObj_map hb, hck, hfk, hkey, Instr.sameBits, run_setObj_map _ hb, World.putObj]
    · rw [Array.toList_modify]
      exact hmod
theorem erase_find (k : Int) : ∀ (es : List MapEntry) (m : List (Int × Value)) (i j : Nat) (x : Value), es.map (fun e => (e.key, e.val)) = m.map (fun p => (Value.int .i64 p.1, p.2)) → mfind m k i = some (j, x) →
    i ≤ j ∧ j - i < es.length ∧ (es.eraseIdx (j - i)).map (fun e => (e.key, e.val)) = (mdel m k).map (fun p => (Value.int .i64 p.1, p.2))
  | [], [], _, _, _, _, h => by simp [mfind] at h
  | [], p :: m, _, _, _, h, _ => by simp at h
  | e :: es, [], _, _, _, h, _ => by simp at h
  | e :: es, p :: m, i, j, x, h, hf => by
    simp only [List.map_cons, List.cons.injEq, Prod.mk.injEq] at h
    unfold mfind at hf
    unfold mdel
    by_cases hk : p.1 = k
    · rw [if_pos hk] at hf
      rw [if_pos hk]
      simp only [Option.some.injEq, Prod.mk.injEq] at hf
      obtain ⟨rfl, rfl⟩ := hf
      simp [h.2]
    · rw [if_neg hk] at hf
      rw [if_neg hk]
      obtain ⟨h1, h3, h2⟩ := erase_find k es m (i + 1) j x h.2 hf
      obtain ⟨d, rfl⟩ : ∃ d, j = i + 1 + d := ⟨j - (i + 1), by omega⟩
      rw [show i + 1 + d - (i + 1) = d by omega] at h2 h3
      rw [show i + 1 + d - i = d + 1 by omega, List.eraseIdx_cons_succ, List.map_cons, h2, List.map_cons]
      exact ⟨by omega, by simp; omega, by simp [h.1]⟩
theorem gone_find (k : Int) : ∀ (m : List (Int × Value)) (i : Nat), mfind m k i = none → mdel m k = m
  | [], _, _ => rfl
  | p :: m, i, h => by
    unfold mfind at h
    unfold mdel
    by_cases hk : p.1 = k
    · rw [if_pos hk] at h; cases h
    · rw [if_neg hk] at h
      rw [if_neg hk, gone_find k m (i + 1) h]
theorem run_delete_int {t K E : TypeId} (ht : P.underlying t = some (.map K E)) (hK : P.underlying K = some (.int .i64)) {b : Nat} {m : List (Int × Value)} (hm : MapIs w b m) (k : Int) :
    ∃ es c, (∀ kt ty : TypeId, (Builtin.delete_ #[t, kt] ty #[.map (some b), .int .i64 k]).run P w = .ok (.tuple #[]) (w.putObj b (.map es c))) ∧ MapIs (w.putObj b (.map es c)) b (mdel m k) := by
  have hlt := hm.lt
  obtain ⟨hnd, es, c, hb, he⟩ := hm
  have hf := findNow_int k es.toList m 0 he
  have hfk := run_findKey (w := w) hK hf
  have hck : (Instr.checkKey es.isEmpty 10000 K (.int .i64 k)).run P w = .ok () w := by
    unfold Instr.checkKey
    simp [run_underlying hK]
  have hput : ∀ o, (w.putObj b o).heap[b]? = some o := fun o => by simp [World.putObj, hlt]
  cases hmf : mfind m k 0 with
  | none =>
    rw [hmf] at hfk
    refine ⟨es, c, ?_, keys_mdel hnd k, _, _, hput _, ?_⟩
    · intro kt ty
      unfold Builtin.delete_
      simp [run_underlying ht, Go.MapKept.run_getObj_map hb, hck, hfk, run_setObj_map _ hb, World.putObj]
    · rw [gone_find k m 0 hmf]
      exact he
  | some p =>
    obtain ⟨j, x⟩ := p
    rw [hmf] at hfk
    obtain ⟨_, hjl, hmod⟩ := erase_find k es.toList m 0 j x he hmf
    refine ⟨es.eraseIdxIfInBounds j, c, ?_, keys_mdel hnd k, _, _, hput _, ?_⟩
    · intro kt ty
      unfold Builtin.delete_
      simp [run_underlying ht, Go.MapKept.run_getObj_map hb, hck, hfk, run_setObj_map _ hb, World.putObj]
    · have hj : j < es.size := by simpa using hjl
      rw [show es.eraseIdxIfInBounds j = es.eraseIdx j hj from by unfold Array.eraseIdxIfInBounds; rw [dif_pos hj], Array.toList_eraseIdx]
      exact hmod
theorem run_clear_int {t K E : TypeId} (ht : P.underlying t = some (.map K E)) {b : Nat} {m : List (Int × Value)} (hm : MapIs w b m) :
    ∃ es c, (∀ ty : TypeId, (Builtin.clear_ #[t] ty #[.map (some b)]).run P w = .ok (.tuple #[]) (w.putObj b (.map es c))) ∧ MapIs (w.putObj b (.map es c)) b [] := by
  have hlt := hm.lt
  obtain ⟨hnd, es, c, hb, he⟩ := hm
  have hput : ∀ o, (w.putObj b o).heap[b]? = some o := fun o => by simp [World.putObj, hlt]
  refine ⟨#[], c, ?_, by simp, #[], c, hput _, rfl⟩
  intro ty
  unfold Builtin.clear_
  simp [run_underlying ht, Go.MapKept.run_getObj_map hb, run_setObj_map _ hb, World.putObj]
end

end Go.Proofs.Ytiibpkncdflfcaa
namespace Go.Proofs.Ytiibpkncdflfcaa
open Go.RowKit

/-- The cells of a device. -/
def devCells (sectors size : Int) (F P : Nat) (lv : Value) (L : Nat) (armed acts : Int) (down : Bool) : Array Value :=
  #[.int .i64 sectors, .int .i64 size, .map (some F), .map (some P), lv, .map (some L), .int .i64 armed, .int .i64 acts, .bool down]
/-- A device's block. -/
def DevBlk (w : World) (D : Nat) (sectors size : Int) (F P : Nat) (lv : Value) (L : Nat) (armed acts : Int) (down : Bool) : Prop :=
  w.heap[D]? = some (.cells (devCells sectors size F P lv L armed acts down) 59 (0, 0))

section
variable {w : World} {D F P L : Nat} {sectors size armed acts : Int} {lv : Value} {down : Bool}
theorem ready_any (h : DevBlk w D sectors size F P lv L armed acts down) : Calls Try.prog 35 #[.pointer (some ⟨D, 0, none⟩)] w fun e w' => e = .returned (.int .i64 (if down then 4 else 0)) ∧ w = w' := by
  have c8 : w.cell? ⟨D, 8, none⟩ = some (.bool down) := blk_cell h 8
  clear h
  cases down
  · go_enter Try.func35, Try.ntmps35
    go_wp2
    go_ret
    exact ⟨rfl, rfl⟩
  · go_enter Try.func35, Try.ntmps35
    go_wp2
    go_ret
    exact ⟨rfl, rfl⟩
theorem ready_nil (w : World) : Calls Try.prog 35 #[.pointer none] w fun e w' => e = .returned (.int .i64 1) ∧ w = w' := by
  go_enter Try.func35, Try.ntmps35
  go_wp2
  go_ret
  exact ⟨rfl, rfl⟩
theorem fhas_any (h : DevBlk w D sectors size F P lv L armed acts down) (at_ : Int) : Calls Try.prog 32 #[.pointer (some ⟨D, 0, none⟩), .int .i64 at_] w fun e w' => e = .returned (.bool (decide (0 ≤ at_ ∧ at_ < sectors))) ∧ w = w' := by
  have c0 : w.cell? ⟨D, 0, none⟩ = some (.int .i64 sectors) := blk_cell h 0
  clear h
  by_cases h0 : 0 ≤ at_
  · have e0 : decide (0 ≤ at_) = true := by simpa using h0
    by_cases h1 : at_ < sectors
    · have e1 : decide (at_ < sectors) = true := by simpa using h1
      have HE : Hid (decide (0 ≤ at_ ∧ at_ < sectors) = true) := by unfold Hid; simp [h0, h1]
      go_enter Try.func32, Try.ntmps32
      go_wp2
      go_ret
      first | exact ⟨rfl, rfl⟩ | exact ⟨by rw [HE.out]; rfl, rfl⟩
    · have e1 : decide (at_ < sectors) = false := by simpa using h1
      have HE : Hid (decide (0 ≤ at_ ∧ at_ < sectors) = false) := by unfold Hid; simp [h1]
      go_enter Try.func32, Try.ntmps32
      go_wp2
      go_ret
      first | exact ⟨rfl, rfl⟩ | exact ⟨by rw [HE.out]; rfl, rfl⟩
  · have e0 : decide (0 ≤ at_) = false := by simpa using h0
    have HE : Hid (decide (0 ≤ at_ ∧ at_ < sectors) = false) := by unfold Hid; simp [h0]
    go_enter Try.func32, Try.ntmps32
    go_wp2
    go_ret
    first | exact ⟨rfl, rfl⟩ | exact ⟨by rw [HE.out]; rfl, rfl⟩

/-- Why nothing can be done in a sector: 0, if it can. -/
def askErr (sectors : Int) (down : Bool) (at_ : Int) : Int := if down then 4 else if 0 ≤ at_ ∧ at_ < sectors then 0 else 2
theorem asked_any (h : DevBlk w D sectors size F P lv L armed acts down) (at_ : Int) : Calls Try.prog 17 #[.pointer (some ⟨D, 0, none⟩), .int .i64 at_] w fun e w' => e = .returned (.int .i64 (askErr sectors down at_)) ∧ w = w' := by
  have hr := ready_any h
  have hh := fhas_any h at_
  clear h
  cases down with
  | true =>
    have HR := Lib.hid hr
    clear hr hh
    go_enter Try.func17, Try.ntmps17
    go_wp2_with (go_at_call 35; refine HR.out.mono ?_; rintro e w' ⟨rfl, rfl⟩)
    go_ret
    exact ⟨rfl, rfl⟩
  | false =>
    by_cases hin : 0 ≤ at_ ∧ at_ < sectors
    · have e : decide (0 ≤ at_ ∧ at_ < sectors) = true := by simpa using hin
      rw [e] at hh
      have HE : Hid (askErr sectors false at_ = 0) := by unfold Hid askErr; simp [hin]
      have HR := Lib.hid hr
      have HH := Lib.hid hh
      clear hr hh e hin
      go_enter Try.func17, Try.ntmps17
      go_wp2_with (first
        | (go_at_call 35; refine HR.out.mono ?_; rintro e w' ⟨rfl, rfl⟩)
        | (go_at_call 32; refine HH.out.mono ?_; rintro e w' ⟨rfl, rfl⟩))
      go_ret
      first | exact ⟨rfl, rfl⟩ | exact ⟨by rw [HE.out]; rfl, rfl⟩
    · have e : decide (0 ≤ at_ ∧ at_ < sectors) = false := by simpa using hin
      rw [e] at hh
      have HE : Hid (askErr sectors false at_ = 2) := by unfold Hid askErr; simp [hin]
      have HR := Lib.hid hr
      have HH := Lib.hid hh
      clear hr hh e hin
      go_enter Try.func17, Try.ntmps17
      go_wp2_with (first
        | (go_at_call 35; refine HR.out.mono ?_; rintro e w' ⟨rfl, rfl⟩)
        | (go_at_call 32; refine HH.out.mono ?_; rintro e w' ⟨rfl, rfl⟩))
      go_ret
      first | exact ⟨rfl, rfl⟩ | exact ⟨by rw [HE.out]; rfl, rfl⟩
theorem asked_nil (at_ : Int) (w : World) : Calls Try.prog 17 #[.pointer none, .int .i64 at_] w fun e w' => e = .returned (.int .i64 1) ∧ w = w' := by
  have HR := Lib.hid (ready_nil w)
  go_enter Try.func17, Try.ntmps17
  go_wp2_with (go_at_call 35; refine HR.out.mono ?_; rintro e w' ⟨rfl, rfl⟩)
  go_ret
  exact ⟨rfl, rfl⟩

theorem devSet (h : DevBlk w D sectors size F P lv L armed acts down) (i : Nat) (v : Value) : (w.setCell ⟨D, i, none⟩ v).heap[D]? = some (.cells ((devCells sectors size F P lv L armed acts down).setIfInBounds i v) 59 (0, 0)) := blk_set h i v

/-- What act leaves: only the device's block is written. -/
def Acted (w : World) (D : Nat) (sectors size : Int) (F P : Nat) (lv : Value) (L : Nat) (armed acts : Int) (down : Bool) (e : Ending) (w' : World) : Prop :=
  e = .returned (.int .i64 (if armed = 1 then 4 else 0)) ∧ DevBlk w' D sectors size F P lv L (if armed = 0 then 0 else armed - 1) (acts + 1) (if armed = 1 then true else down) ∧ Moves (fun k => k = D) w w' ∧ w'.heap.size = w.heap.size
set_option maxHeartbeats 1000000 in
theorem act_any (h : DevBlk w D sectors size F P lv L armed acts down) (h0 : 0 ≤ armed) (h1 : 0 ≤ acts) (h2 : acts < 9223372036854775807) (h3 : armed ≤ 9223372036854775807) : Calls Try.prog 19 #[.pointer (some ⟨D, 0, none⟩)] w (Acted w D sectors size F P lv L armed acts down) := by
  have c6 : w.cell? ⟨D, 6, none⟩ = some (.int .i64 armed) := blk_cell h 6
  have c7 : w.cell? ⟨D, 7, none⟩ = some (.int .i64 acts) := blk_cell h 7
  have c8 : w.cell? ⟨D, 8, none⟩ = some (.bool down) := blk_cell h 8
  have hf := blk_frozen h
  have hm : ∀ w', Moves (fun k => k = D) w w' → ∀ i v, Moves (fun k => k = D) w (w'.setCell ⟨D, i, none⟩ v) := fun w' hw i v => hw.setCell (p := ⟨D, i, none⟩) (fun _ => rfl) v
  have HM := Lib.hid hm
  have HD := Lib.hid h
  clear h hm
  by_cases ha : armed = 0
  · subst ha
    go_enter Try.func19, Try.ntmps19
    go_wp2
    go_ret
    exact ⟨rfl, devSet HD.out 7 _, HM.out _ (Moves.refl _ _) _ _, by simp [World.setCell]⟩
  · by_cases hb : armed = 1
    · subst hb
      go_enter Try.func19, Try.ntmps19
      go_wp2
      go_ret
      exact ⟨rfl, devSet (devSet (devSet HD.out 7 _) 6 _) 8 _, HM.out _ (HM.out _ (HM.out _ (Moves.refl _ _) _ _) _ _) _ _, by simp [World.setCell]⟩
    · have e0 : (armed == 0) = false := by simpa using ha
      have e1 : 0 < armed - 1 := by omega
      have HE : Hid ((if armed = 1 then (4 : Int) else 0) = 0 ∧ (if armed = 0 then 0 else armed - 1) = armed - 1 ∧ (if armed = 1 then true else down) = down) := by unfold Hid; simp [ha, hb]
      go_enter Try.func19, Try.ntmps19
      go_wp2
      go_ret
      refine ⟨by rw [HE.out.1]; rfl, ?_, HM.out _ (HM.out _ (Moves.refl _ _) _ _) _ _, by simp [World.setCell]⟩
      rw [HE.out.2.1, HE.out.2.2]
      exact devSet (devSet HD.out 7 _) 6 _
end

end Go.Proofs.Ytiibpkncdflfcaa
namespace Go.Proofs.Ytiibpkncdflfcaa
open Go.RowKit

/-- Are all bytes 0? -/
def zeroB (bs : List (BitVec 8)) : Bool := bs.all (· == 0#8)

theorem notZero_any (b : BitVec 8) (w : World) : Calls Try.prog 56 #[.int .u8 (U b)] w fun e w' => e = .returned (.bool (U b != 0)) ∧ w = w' := by
  go_enter Try.func56, Try.ntmps56
  go_wp2
  go_ret
  exact ⟨rfl, rfl⟩

set_option maxHeartbeats 1000000 in
theorem indexFunc_any (n₀ : Nat) (bs : List (BitVec 8)) (v : Value) (w : World) (hv : BytesAt n₀ w v bs) (hl : bs.length ≤ 1099511627776) :
    Calls Try.prog 64 #[v, .func (.func 56) #[] #[]] w fun e w' => ∃ i : Int, e = .returned (.int .i64 i) ∧ (0 ≤ i ↔ zeroB bs = false) ∧ w = w' := by
  obtain ⟨a, cap, rfl, _, _, hv⟩ := hv
  have l1 : (bs.length : Int) ≤ 1099511627776 := by omega
  go_enter Try.func64, Try.ntmps64
  go_wp2
  go_loop [8] (fun iv => ∃ k : Nat, k ≤ bs.length ∧ iv = .int .i64 k ∧ ∀ j, j < k → bs[j]?.getD 0 = 0#8) (fun iv => bs.length - (intOf iv).toNat)
  case atStart => exact ⟨0, Nat.zero_le _, rfl, fun j hj => absurd hj (by omega)⟩
  case round =>
    obtain ⟨k, hk, rfl, hz⟩ := hrel
    by_cases hlt : k < bs.length
    · rcases hv with h | ⟨g, off, rfl, hg, hc⟩
      · subst h; simp at hlt
      have c1 := hc k hlt
      have HZ := Lib.hid hz
      clear hc hz
      have k0 : (0 : Int) ≤ k := by omega
      have k1 : (k : Int) < bs.length := by omega
      obtain ⟨b, hb⟩ : ∃ b, bs[k]?.getD 0 = b := ⟨_, rfl⟩
      rw [hb] at c1
      have HB := Lib.hid hb
      clear hb
      by_cases h0 : b = 0#8
      · have e0 : (U b != 0) = false := by rw [h0]; rfl
        have H0 := Lib.hid h0
        clear h0
        have HN := Lib.hid (fun W => notZero_any b W)
        go_wp2_with (go_at_call 56; refine (HN.out _).mono ?_; rintro e w' ⟨rfl, rfl⟩)
        go_round
        case rel =>
          refine ⟨k + 1, by omega, by go_num, fun j hj => ?_⟩
          by_cases hjk : j = k
          · subst hjk; rw [HB.out]; exact H0.out
          · exact HZ.out j (by omega)
        case measure => simp [intOf]; omega
      · have e0 : (U b != 0) = true := by
          have : U b ≠ 0 := fun e => h0 (U_inj.1 (by rw [e]; rfl))
          simpa using this
        have HN := Lib.hid (fun W => notZero_any b W)
        have HF : Hid (zeroB bs = false) := by
          unfold Hid zeroB
          rw [List.all_eq_false]
          refine ⟨bs[k], List.getElem_mem hlt, ?_⟩
          have := HB.out
          simp [hlt] at this
          rw [this]
          simpa using h0
        clear h0
        go_wp2_with (go_at_call 56; refine (HN.out _).mono ?_; rintro e w' ⟨rfl, rfl⟩)
        go_ret
        exact ⟨k, rfl, ⟨fun _ => HF.out, fun _ => k0⟩, rfl⟩
    · obtain rfl : k = bs.length := by omega
      have HF : Hid (zeroB bs = true) := by
        unfold Hid zeroB
        rw [List.all_eq_true]
        intro x hx
        obtain ⟨j, hj, rfl⟩ := List.mem_iff_getElem.1 hx
        have := hz j hj
        simpa [hj] using this
      clear hz hv
      go_wp2
      go_ret
      exact ⟨-1, rfl, ⟨fun h => by omega, fun h => by rw [HF.out] at h; cases h⟩, rfl⟩

theorem containsFunc_any (n₀ : Nat) (bs : List (BitVec 8)) (v : Value) (w : World) (hv : BytesAt n₀ w v bs) (hl : bs.length ≤ 1099511627776) :
    Calls Try.prog 55 #[v, .func (.func 56) #[] #[]] w fun e w' => e = .returned (.bool (!zeroB bs)) ∧ w = w' := by
  have HI := Lib.hid (indexFunc_any n₀ bs v w hv hl)
  clear hv
  cases hz : zeroB bs with
  | true =>
    rw [hz] at HI
    clear hz
    go_enter Try.func55, Try.ntmps55
    go_wp2_with (go_at_call 64; refine HI.out.mono ?_; rintro e w' ⟨i, rfl, hi, rfl⟩; have hi2 : decide (0 ≤ i) = false := (by simpa using hi); clear hi)
    go_ret
    exact ⟨rfl, rfl⟩
  | false =>
    rw [hz] at HI
    clear hz
    go_enter Try.func55, Try.ntmps55
    go_wp2_with (go_at_call 64; refine HI.out.mono ?_; rintro e w' ⟨i, rfl, hi, rfl⟩; have hi2 : decide (0 ≤ i) = true := (by simpa using hi); clear hi)
    go_ret
    exact ⟨rfl, rfl⟩

theorem isZero_any (n₀ : Nat) (bs : List (BitVec 8)) (v : Value) (w : World) (hv : BytesAt n₀ w v bs) (hl : bs.length ≤ 1099511627776) :
    Calls Try.prog 45 #[v] w fun e w' => e = .returned (.bool (zeroB bs)) ∧ w = w' := by
  have HI := Lib.hid (containsFunc_any n₀ bs v w hv hl)
  clear hv
  generalize zeroB bs = z at HI ⊢
  go_enter Try.func45, Try.ntmps45
  go_wp2_with (go_at_call 55; refine HI.out.mono ?_; rintro e w' ⟨rfl, rfl⟩)
  go_ret
  exact ⟨by simp, rfl⟩

end Go.Proofs.Ytiibpkncdflfcaa
namespace Go.Proofs.Ytiibpkncdflfcaa
open Go.RowKit

/-- Some blocks. -/
abbrev Foot := Nat → Prop
/-- From w to w' only the blocks O have turned; what was O is O' now: of O, or new. -/
structure Step (O O' : Foot) (w w' : World) : Prop where
  moves : Moves O w w'
  own : ∀ k, O' k → O k ∨ w.heap.size ≤ k
/-- All of them are there. -/
def Foot.In (O : Foot) (w : World) : Prop := ∀ k, O k → k < w.heap.size
/-- They have nothing in common. -/
def Foot.Off (O Q : Foot) : Prop := ∀ k, O k → ¬ Q k
section
variable {O O' O2 Q : Foot} {w w' w2 : World}
theorem Step.refl (O : Foot) (w : World) : Step O O w w := ⟨Moves.refl _ _, fun _ h => .inl h⟩
theorem Step.trans (h : Step O O' w w') (k : Step O' O2 w' w2) : Step O O2 w w2 := by
  refine ⟨h.moves.trans k.moves fun i hi hO => ?_, fun i hi => ?_⟩
  · rcases h.own i hO with h1 | h1
    · exact h1
    · omega
  · rcases k.own i hi with h1 | h1
    · exact h.own i h1
    · exact .inr (Nat.le_trans h.moves.size h1)
theorem Step.behind (hb : Below w.heap.size w w') (h : Step O O' w' w2) : Step O O' w w2 :=
  ⟨(Moves.of_below hb).trans h.moves (fun _ _ h => h), fun i hi => (h.own i hi).imp id (fun e => Nat.le_trans hb.size e)⟩
theorem Step.ahead (h : Step O O' w w') (hb : Below w'.heap.size w' w2) : Step O O' w w2 :=
  ⟨h.moves.trans (Moves.of_below (S := fun _ => False) hb) (fun _ _ h => h.elim), h.own⟩
theorem Step.of_below (hb : Below w.heap.size w w') : Step O O w w' := ⟨Moves.of_below hb, fun _ h => .inl h⟩
theorem Step.below {B : Nat} (h : Step O O' w w') (hO : ∀ k, O k → B ≤ k) (hB : B ≤ w.heap.size) : Below B w w' := h.moves.below hO hB
theorem Step.from {B : Nat} (h : Step O O' w w') (hO : ∀ k, O k → B ≤ k) (hB : B ≤ w.heap.size) : ∀ k, O' k → B ≤ k := fun k hk => (h.own k hk).elim (hO k) (fun e => by omega)
theorem Foot.Off.step (h : Foot.Off O Q) (hs : Step O O' w w') (hQ : Foot.In Q w) : Foot.Off O' Q := fun k hk hq => by
  rcases hs.own k hk with e | e
  · exact h k e hq
  · have := hQ k hq; omega
theorem Foot.Off.symm (h : Foot.Off O Q) : Foot.Off Q O := fun k hq ho => h k ho hq

/-- What stands in blocks of O is as it was. -/
def Same (O : Foot) (w w' : World) : Prop := w.heap.size ≤ w'.heap.size ∧ ∀ k, O k → w'.heap[k]? = w.heap[k]?
theorem Same.refl (O : Foot) (w : World) : Same O w w := ⟨Nat.le_refl _, fun _ _ => rfl⟩
theorem Same.of_below (hb : Below w.heap.size w w') (hO : Foot.In O w) : Same O w w' := ⟨hb.size, fun k hk => hb.block k (hO k hk)⟩
theorem Same.of_step (hs : Step Q O' w w') (hO : Foot.In O w) (hoff : Foot.Off Q O) : Same O w w' := ⟨hs.moves.size, fun k hk => hs.moves.block k (hO k hk) (fun hq => hoff k hq hk)⟩
theorem Same.mono (h : Same O w w') (hQ : ∀ k, Q k → O k) : Same Q w w' := ⟨h.1, fun k hk => h.2 k (hQ k hk)⟩
theorem Same.row {base : Nat} {e : TypeId} {size : Nat} {v : Value} {n : Nat} {xs : List Value} (h : Same O w w') (hr : w.ownsRow base e size v n xs) (ho : ∀ k, v.ownBlock = some k → O k) : w'.ownsRow base e size v n xs := by
  obtain ⟨h1, h2⟩ := hr
  refine ⟨h1, ?_⟩
  rcases h2 with h2 | ⟨g, cap, cur, rfl, hg, hh, r⟩
  · exact .inl h2
  · exact .inr ⟨g, cap, cur, rfl, hg, (h.2 g (ho g rfl)).trans hh, r⟩
theorem Same.map {b : Nat} {m : List (Int × Value)} (h : Same O w w') (hm : MapIs w b m) (hb : O b) : MapIs w' b m := hm.same (h.2 b hb)
/-- A block of bytes. -/
def IsBytes (w : World) (g : Nat) : Prop := ∃ cs z, w.heap[g]? = some (.cells cs 5 z)
/-- No block of bytes. -/
def NoBytes (w : World) (g : Nat) : Prop := ¬ IsBytes w g
theorem noBytes_cells {w : World} {g : Nat} {cs : Array Value} {t : TypeId} {z : Nat × Nat} (h : w.heap[g]? = some (.cells cs t z)) (ht : t ≠ 5) : NoBytes w g := by
  rintro ⟨cs', z', h'⟩
  rw [h] at h'
  simp only [Option.some.injEq, Obj.cells.injEq] at h'
  exact ht h'.2.1
theorem noBytes_map {w : World} {g : Nat} {m : List (Int × Value)} (h : MapIs w g m) : NoBytes w g := by
  obtain ⟨_, es, c, hb, _⟩ := h
  rintro ⟨cs', z', h'⟩
  rw [hb] at h'; cases h'
theorem noBytes_row {w : World} {base g : Nat} {e : TypeId} {size n : Nat} {v : Value} {xs : List Value} (h : w.ownsRow base e size v n xs) (he : e ≠ 5) (hg : v.ownBlock = some g) : NoBytes w g := by
  rcases h.2 with ⟨rfl, _⟩ | ⟨g', cap, cur, rfl, _, hh, _⟩
  · simp [Value.ownBlock] at hg
  · obtain rfl : g' = g := by simpa [Value.ownBlock] using hg
    exact noBytes_cells hh he
/-- Bytes that stand in blocks of O. -/
def BytesIn (O : Foot) (w : World) (v : Value) (bs : List (BitVec 8)) : Prop := BytesAt w.heap.size w v bs ∧ (bs ≠ [] → ∀ k, v.ownBlock = some k → O k ∧ IsBytes w k)
theorem Same.bytes {v : Value} {bs : List (BitVec 8)} (h : Same O w w') (hv : BytesIn O w v bs) : BytesIn O w' v bs :=
  ⟨(hv.1.keep fun hne p hp _ => World.cell?_of_block (w := w) (h.2 p.block (hv.2 hne _ hp).1)).mono h.1, fun hne k e => by
    obtain ⟨h1, cs, z, h2⟩ := hv.2 hne k e
    exact ⟨h1, cs, z, (h.2 k h1).trans h2⟩⟩
theorem BytesIn.mono {v : Value} {bs : List (BitVec 8)} (hv : BytesIn O w v bs) (hO : ∀ k, O k → Q k) : BytesIn Q w v bs := ⟨hv.1, fun hne k e => (hv.2 hne k e).imp (hO k) id⟩
theorem BytesIn.of_owns {base : Nat} {v : Value} {bs : List (BitVec 8)} (h : w.ownsRow base 5 1 v bs.length (cellsOf bs)) (hO : ∀ k, base ≤ k → k < w.heap.size → O k) : BytesIn O w v bs :=
  ⟨BytesAt.of_owns h, fun _ k e => ⟨hO k (h.lt k e).1 (h.lt k e).2, by
    rcases h.2 with ⟨rfl, _⟩ | ⟨g', cap, cur, rfl, _, hh, _⟩
    · simp [Value.ownBlock] at e
    · obtain rfl : g' = k := by simpa [Value.ownBlock] using e
      exact ⟨_, _, hh⟩⟩⟩
/-- Bytes part from any block that is no cells of bytes. -/
theorem BytesAt.off {n₀ g : Nat} {v : Value} {bs : List (BitVec 8)} (h : BytesAt n₀ w v bs) (hne : bs ≠ []) (hg : v.ownBlock = some g) (hc : ∀ i b, w.cell? ⟨g, i, none⟩ ≠ some (.int .u8 b)) : False := by
  obtain ⟨a, cap, rfl, _, _, h⟩ := h
  rcases h with h | ⟨g', off, rfl, _, h⟩
  · exact hne h
  · obtain rfl : g' = g := by simpa [Value.ownBlock] using hg
    exact hc _ _ (h 0 (List.length_pos_iff.2 hne))
end

end Go.Proofs.Ytiibpkncdflfcaa
namespace Go.Proofs.Ytiibpkncdflfcaa
open Go.RowKit

/-- A device, as the document has it: what is fast in each sector, its past (the oldest first, without the 0), the loose writes. -/
structure Dev where
  sectors : Nat
  size : Nat
  fast : Nat → List (BitVec 8)
  past : Nat → List (List (BitVec 8))
  loose : List (Nat × List (BitVec 8))
  armed : Nat
  acts : Nat
  down : Bool
def zeros (n : Nat) : List (BitVec 8) := List.replicate n 0#8
theorem zeros_len (n : Nat) : (zeros n).length = n := by simp [zeros]
def Dev.new (sectors size : Nat) : Dev := ⟨sectors, size, fun _ => zeros size, fun _ => [], [], 0, 0, false⟩

/-- A row of slices of bytes that a device owns. -/
def RowsIn (n₀ : Nat) (O : Foot) (w : World) (v : Value) (l : List (List (BitVec 8))) : Prop :=
  ∃ cells : List Value, w.ownsRow n₀ 30 1 v l.length cells ∧ (∀ k, v.ownBlock = some k → O k) ∧ ∀ (i : Nat) x, l[i]? = some x → ∃ u, cells[i]? = some u ∧ BytesIn O w u x
/-- The loose writes. -/
def LooseIn (n₀ : Nat) (O : Foot) (w : World) (v : Value) (l : List (Nat × List (BitVec 8))) : Prop :=
  ∃ cells : List Value, w.ownsRow n₀ 65 2 v l.length cells ∧ (∀ k, v.ownBlock = some k → O k) ∧ ∀ (i : Nat) x, l[i]? = some x → cells[2 * i]? = some (.int .i64 (x.1 : Int)) ∧ ∃ u, cells[2 * i + 1]? = some u ∧ BytesIn O w u x.2
/-- Keys are sectors. -/
def KeysIn (m : List (Int × Value)) (n : Nat) : Prop := ∀ p ∈ m, ∃ k : Nat, k < n ∧ p.1 = k

/-- A device's parts, told by their blocks. -/
structure DevParts (n₀ : Nat) (O : Foot) (w : World) (D F P L : Nat) (lv : Value) (fm pm lm : List (Int × Value)) (d : Dev) : Prop where
  blk : DevBlk w D d.sectors d.size F P lv L d.armed d.acts d.down
  mF : MapIs w F fm
  mP : MapIs w P pm
  mL : MapIs w L lm
  oD : O D
  oF : O F
  oP : O P
  oL : O L
  apart : F ≠ P ∧ F ≠ L ∧ P ≠ L
  inn : Foot.In O w
  lo : ∀ k, O k → n₀ ≤ k
  right : (1 ≤ d.sectors ∧ d.sectors ≤ 16384) ∧ (96 ≤ d.size ∧ d.size ≤ 512)
  kF : KeysIn fm d.sectors
  kP : KeysIn pm d.sectors
  kL : KeysIn lm d.sectors
  len : ∀ k, (d.fast k).length = d.size
  fast : ∀ k, k < d.sectors → (mget fm k = none ∧ d.fast k = zeros d.size) ∨ ∃ v, mget fm k = some v ∧ BytesIn O w v (d.fast k)
  plen : ∀ k x, x ∈ d.past k → x.length = d.size
  past : ∀ k, k < d.sectors → (mget pm k = none ∧ d.past k = []) ∨ ∃ v, mget pm k = some v ∧ RowsIn n₀ O w v (d.past k)
  rows : ∀ (i j : Int) u v g, mget pm i = some u → mget pm j = some v → u.ownBlock = some g → v.ownBlock = some g → i = j
  loose : LooseIn n₀ O w lv d.loose
  llen : ∀ x ∈ d.loose, x.1 < d.sectors ∧ x.2.length = d.size
  last : ∀ k, k < d.sectors → (mget lm k = none ∧ ∀ x ∈ d.loose, x.1 ≠ k) ∨ ∃ (i : Nat) (bs : List (BitVec 8)), mget lm k = some (.int .i64 (i : Int)) ∧ d.loose[i]? = some (k, bs) ∧ ∀ (j : Nat) x, i < j → d.loose[j]? = some x → x.1 ≠ k
/-- A device. -/
def DevAt (n₀ : Nat) (O : Foot) (w : World) (D : Nat) (d : Dev) : Prop := ∃ F P L lv fm pm lm, DevParts n₀ O w D F P L lv fm pm lm d

theorem RowsIn.keep {n₀ : Nat} {O : Foot} {w w' : World} {v : Value} {l : List (List (BitVec 8))} (h : RowsIn n₀ O w v l) (hs : Same O w w') : RowsIn n₀ O w' v l := by
  obtain ⟨cs, h1, h2, h3⟩ := h
  refine ⟨cs, hs.row h1 h2, h2, fun i x hx => ?_⟩
  obtain ⟨u, hu, hb⟩ := h3 i x hx
  exact ⟨u, hu, hs.bytes hb⟩
theorem LooseIn.keep {n₀ : Nat} {O : Foot} {w w' : World} {v : Value} {l : List (Nat × List (BitVec 8))} (h : LooseIn n₀ O w v l) (hs : Same O w w') : LooseIn n₀ O w' v l := by
  obtain ⟨cs, h1, h2, h3⟩ := h
  refine ⟨cs, hs.row h1 h2, h2, fun i x hx => ?_⟩
  obtain ⟨h0, u, hu, hb⟩ := h3 i x hx
  exact ⟨h0, u, hu, hs.bytes hb⟩
theorem DevParts.keep {n₀ : Nat} {O : Foot} {w w' : World} {D F P L : Nat} {lv : Value} {fm pm lm : List (Int × Value)} {d : Dev} (h : DevParts n₀ O w D F P L lv fm pm lm d) (hs : Same O w w') : DevParts n₀ O w' D F P L lv fm pm lm d :=
  { h with
    blk := (hs.2 D h.oD).trans h.blk
    mF := hs.map h.mF h.oF
    mP := hs.map h.mP h.oP
    mL := hs.map h.mL h.oL
    inn := fun k hk => Nat.lt_of_lt_of_le (h.inn k hk) hs.1
    fast := fun k hk => (h.fast k hk).imp id fun ⟨v, h1, h2⟩ => ⟨v, h1, hs.bytes h2⟩
    past := fun k hk => (h.past k hk).imp id fun ⟨v, h1, h2⟩ => ⟨v, h1, h2.keep hs⟩
    loose := h.loose.keep hs }
theorem DevAt.keep {n₀ : Nat} {O : Foot} {w w' : World} {D : Nat} {d : Dev} (h : DevAt n₀ O w D d) (hs : Same O w w') : DevAt n₀ O w' D d := by
  obtain ⟨F, P, L, lv, fm, pm, lm, h⟩ := h
  exact ⟨F, P, L, lv, fm, pm, lm, h.keep hs⟩

/-- A device that was just made. -/
theorem dev_new (n₀ : Nat) (w : World) (sectors size : Nat) (hr : (1 ≤ sectors ∧ sectors ≤ 16384) ∧ (96 ≤ size ∧ size ≤ 512)) (hn : n₀ ≤ w.heap.size) :
    DevAt n₀ (fun k => w.heap.size ≤ k ∧ k < w.heap.size + 4) ((((w.alloc (.map #[] 0)).alloc (.map #[] 0)).alloc (.map #[] 0)).alloc (.cells (devCells sectors size w.heap.size (w.heap.size + 1) (.slice none 0 0) (w.heap.size + 2) 0 0 false) 59)) (w.heap.size + 3) (Dev.new sectors size) := by
  have e1 : (w.alloc (.map #[] 0)).heap.size = w.heap.size + 1 := by simp
  have e2 : ((w.alloc (.map #[] 0)).alloc (.map #[] 0)).heap.size = w.heap.size + 2 := by simp
  have e3 : (((w.alloc (.map #[] 0)).alloc (.map #[] 0)).alloc (.map #[] 0)).heap.size = w.heap.size + 3 := by simp
  have m0 := MapIs.new w
  have m1 := MapIs.new (w.alloc (.map #[] 0))
  have m2 := MapIs.new ((w.alloc (.map #[] 0)).alloc (.map #[] 0))
  have b3 := heap_alloc_new (((w.alloc (.map #[] 0)).alloc (.map #[] 0)).alloc (.map #[] 0)) (.cells (devCells sectors size w.heap.size (w.heap.size + 1) (.slice none 0 0) (w.heap.size + 2) 0 0 false) 59)
  rw [e1] at m1
  rw [e2] at m2
  rw [e3] at b3
  have up : ∀ {W : World} {b : Nat} {m : List (Int × Value)} (o : Obj), MapIs W b m → MapIs (W.alloc o) b m := fun o h => h.same (Below.heap_alloc _ o _ h.lt)
  refine ⟨w.heap.size, w.heap.size + 1, w.heap.size + 2, .slice none 0 0, [], [], [], ?_⟩
  exact
    { blk := b3
      mF := up _ (up _ (up _ m0))
      mP := up _ (up _ m1)
      mL := up _ m2
      oD := by show _ ∧ _; omega
      oF := by show _ ∧ _; omega
      oP := by show _ ∧ _; omega
      oL := by show _ ∧ _; omega
      apart := by omega
      inn := fun k hk => by simp; omega
      lo := fun k hk => by omega
      right := hr
      kF := fun p hp => by cases hp
      kP := fun p hp => by cases hp
      kL := fun p hp => by cases hp
      len := fun k => zeros_len size
      fast := fun k _ => .inl ⟨rfl, rfl⟩
      plen := fun k x hx => by cases hx
      past := fun k _ => .inl ⟨rfl, rfl⟩
      rows := fun i j u v g h => by cases h
      loose := ⟨[], World.ownsRow_nil _ _ _ _, (fun k e => by cases e), (fun i x hx => by simp [Dev.new] at hx)⟩
      llen := fun x hx => by cases hx
      last := fun k _ => .inl ⟨rfl, fun x hx => by cases hx⟩ }

theorem fnew_any (n₀ : Nat) (sectors size : Nat) (hr : (1 ≤ sectors ∧ sectors ≤ 16384) ∧ (96 ≤ size ∧ size ≤ 512)) (w : World) (hn : n₀ ≤ w.heap.size) :
    Calls Try.prog 4 #[.int .i64 sectors, .int .i64 size] w fun e w' => e = .returned (.pointer (some ⟨w.heap.size + 3, 0, none⟩)) ∧ DevAt n₀ (fun k => w.heap.size ≤ k ∧ k < w.heap.size + 4) w' (w.heap.size + 3) (Dev.new sectors size) ∧ Below w.heap.size w w' := by
  have HD := Lib.hid (dev_new n₀ w sectors size hr hn)
  have s1 : (1 : Int) ≤ sectors := by omega
  have s2 : (sectors : Int) ≤ 16384 := by omega
  have s3 : (96 : Int) ≤ size := by omega
  have s4 : (size : Int) ≤ 512 := by omega
  have hmm := @run_makeMap Try.prog
  clear hr
  go_enter Try.func4, Try.ntmps4
  go_wp2
  go_ret
  exact ⟨rfl, HD.out, ((((Below.refl _ w).alloc (Nat.le_refl _) _).alloc (by simp) _).alloc (by simp; omega) _).alloc (by simp; omega) _⟩

end Go.Proofs.Ytiibpkncdflfcaa
namespace Go.Proofs.Ytiibpkncdflfcaa
open Go.RowKit

theorem zeroSlice (w : World) : (zeroValue 30).run Try.prog w = .ok (.slice none 0 0) w := by kernel_rfl
theorem makeBytes (n : Nat) (hn : n ≤ 1000) (W : World) : (Instr.makeSlice 30 (.int .i64 n) (.int .i64 n)).run Try.prog W = .ok (.slice (some ⟨W.heap.size, 0, none⟩) n n) (W.alloc (.cells (madeCells #[.int .u8 0] n) 5)) := by
  obtain ⟨i0, hi, hz0, hz1, hz2⟩ := info_parts Try.infoU8
  have h := run_make (P := Try.prog) W 30 5 i0 (.int .u8 0) Try.underlying30 hi hz0 .i64 .i64 n n (by omega) (by omega) (by rw [hz2]; omega) (by omega)
  rw [hz1] at h
  simpa [Value.cells] using h
theorem made_zeros (n : Nat) : (madeCells #[Value.int .u8 0] n).toList = cellsOf (zeros n) := by
  apply List.ext_getElem
  · simp [madeCells, cellsOf, zeros]
  · intro i h1 h2
    simp [madeCells, cellsOf, zeros, Nat.mod_one]
    rfl
theorem own_zeros (w : World) (base n : Nat) (hb : base ≤ w.heap.size) (hn : n ≤ 1000) : (w.alloc (.cells (madeCells #[.int .u8 0] n) 5)).ownsRow base 5 1 (.slice (some ⟨w.heap.size, 0, none⟩) n n) n (cellsOf (zeros n)) := by
  refine ⟨by simp [cellsOf_len, zeros_len], .inr ⟨w.heap.size, n, _, rfl, hb, heap_alloc_new _ _, Nat.le_refl _, by unfold maxLen; omega, ?_, ?_⟩⟩
  · rw [← Array.length_toList, made_zeros, cellsOf_len, zeros_len]; omega
  · rw [made_zeros, List.take_of_length_le (by rw [cellsOf_len, zeros_len]; omega)]

set_option maxHeartbeats 1000000 in
theorem fastBytes_any (n₀ : Nat) (O : Foot) (w : World) (D : Nat) (d : Dev) (h : DevAt n₀ O w D d) (k : Nat) (hk : k < d.sectors) :
    Calls Try.prog 24 #[.pointer (some ⟨D, 0, none⟩), .int .i64 k] w fun e w' => ∃ v, e = .returned v ∧ w'.ownsRow w.heap.size 5 1 v d.size (cellsOf (d.fast k)) ∧ Below w.heap.size w w' := by
  obtain ⟨F, P, L, lv, fm, pm, lm, h⟩ := h
  have c2 : w.cell? ⟨D, 2, none⟩ = some (.map (some F)) := blk_cell h.blk 2
  have c1 : w.cell? ⟨D, 1, none⟩ = some (.int .i64 d.size) := blk_cell h.blk 1
  have hlk := run_lookup_int (P := Try.prog) Try.underlying54 Try.underlying3 h.mF (k : Int) _ (zeroSlice w) true
  have hsz := h.right.2
  rcases h.fast k hk with ⟨hn, hf⟩ | ⟨v, hv, hb⟩
  · rw [hn] at hlk
    simp only [Option.getD_none, Option.isSome_none, if_true] at hlk
    have HF := Lib.hid hf
    have HO := Lib.hid (own_zeros w w.heap.size d.size (Nat.le_refl _) (by omega))
    have hmk := makeBytes d.size (by omega)
    have HB := Lib.hid ((Below.refl w.heap.size w).alloc (Nat.le_refl _) (.cells (madeCells #[.int .u8 0] d.size) 5))
    clear h hn hf hk
    go_enter Try.func24, Try.ntmps24
    go_wp2
    go_ret
    exact ⟨_, rfl, by rw [HF.out]; exact HO.out, HB.out⟩
  · rw [hv] at hlk
    simp only [Option.getD_some, Option.isSome_some, if_true] at hlk
    have hlen := h.len k
    have HC := Lib.hid (clone_any w.heap.size v (d.fast k) w hb.1 (Nat.le_refl _) (by omega))
    have HL := Lib.hid hlen
    clear h hv hb hk hlen
    go_enter Try.func24, Try.ntmps24
    go_wp2_with (go_at_call 18; refine HC.out.mono ?_; rintro e w' ⟨u, rfl, hu, hb⟩)
    go_ret
    exact ⟨_, rfl, by rw [← HL.out]; exact hu, hb⟩

theorem put_other {w : World} {b k : Nat} {o : Obj} (h : k ≠ b) : (w.putObj b o).heap[k]? = w.heap[k]? := World.putObj_heap_other h
theorem put_size (w : World) (b : Nat) (o : Obj) : (w.putObj b o).heap.size = w.heap.size := by simp [World.putObj]
theorem put_moves (w : World) (b : Nat) (o : Obj) : Moves (fun k => k = b) w (w.putObj b o) := ⟨rfl, rfl, rfl, by rw [put_size]; exact Nat.le_refl _, fun _ _ hk => put_other hk⟩
/-- A map's block turned: what is no map stands. -/
theorem put_same (w : World) (b : Nat) (o : Obj) (O : Foot) : Same (fun k => O k ∧ k ≠ b) w (w.putObj b o) := ⟨by rw [put_size]; exact Nat.le_refl _, fun _ hk => put_other hk.2⟩
theorem MapIs.noCell {w : World} {b : Nat} {m : List (Int × Value)} (h : MapIs w b m) (i : Nat) : w.cell? ⟨b, i, none⟩ = none := by
  obtain ⟨_, es, c, hb, _⟩ := h
  simp [World.cell?, hb]
theorem MapIs.noRow {w : World} {b base : Nat} {m : List (Int × Value)} {e : TypeId} {size n : Nat} {v : Value} {xs : List Value} (h : MapIs w b m) (hr : w.ownsRow base e size v n xs) : v.ownBlock ≠ some b := by
  obtain ⟨_, es, c, hb, _⟩ := h
  rcases hr.2 with ⟨rfl, _⟩ | ⟨g, cap, cur, rfl, _, hg, _⟩
  · simp [Value.ownBlock]
  · intro e2
    obtain rfl : g = b := by simpa [Value.ownBlock] using e2
    rw [hb] at hg; cases hg
theorem BytesIn.noMap {w : World} {O : Foot} {b : Nat} {m : List (Int × Value)} {v : Value} {bs : List (BitVec 8)} (h : BytesIn O w v bs) (hm : MapIs w b m) : BytesIn (fun k => O k ∧ k ≠ b) w v bs :=
  ⟨h.1, fun hne k e => ⟨⟨(h.2 hne k e).1, fun ek => by subst ek; exact noBytes_map hm (h.2 hne k e).2⟩, (h.2 hne k e).2⟩⟩
theorem RowsIn.noMap {n₀ : Nat} {w : World} {O : Foot} {b : Nat} {m : List (Int × Value)} {v : Value} {l : List (List (BitVec 8))} (h : RowsIn n₀ O w v l) (hm : MapIs w b m) : RowsIn n₀ (fun k => O k ∧ k ≠ b) w v l := by
  obtain ⟨cs, h1, h2, h3⟩ := h
  refine ⟨cs, h1, fun k e => ⟨h2 k e, fun ek => hm.noRow h1 (by rw [← ek]; exact e)⟩, fun i x hx => ?_⟩
  obtain ⟨u, hu, hb⟩ := h3 i x hx
  exact ⟨u, hu, hb.noMap hm⟩
theorem LooseIn.noMap {n₀ : Nat} {w : World} {O : Foot} {b : Nat} {m : List (Int × Value)} {v : Value} {l : List (Nat × List (BitVec 8))} (h : LooseIn n₀ O w v l) (hm : MapIs w b m) : LooseIn n₀ (fun k => O k ∧ k ≠ b) w v l := by
  obtain ⟨cs, h1, h2, h3⟩ := h
  refine ⟨cs, h1, fun k e => ⟨h2 k e, fun ek => hm.noRow h1 (by rw [← ek]; exact e)⟩, fun i x hx => ?_⟩
  obtain ⟨h0, u, hu, hb⟩ := h3 i x hx
  exact ⟨h0, u, hu, hb.noMap hm⟩
theorem RowsIn.wide {n₀ : Nat} {w : World} {O Q : Foot} {v : Value} {l : List (List (BitVec 8))} (h : RowsIn n₀ O w v l) (hO : ∀ k, O k → Q k) : RowsIn n₀ Q w v l := by
  obtain ⟨cs, h1, h2, h3⟩ := h
  refine ⟨cs, h1, fun k e => hO k (h2 k e), fun i x hx => ?_⟩
  obtain ⟨u, hu, hb⟩ := h3 i x hx
  exact ⟨u, hu, hb.mono hO⟩
theorem LooseIn.wide {n₀ : Nat} {w : World} {O Q : Foot} {v : Value} {l : List (Nat × List (BitVec 8))} (h : LooseIn n₀ O w v l) (hO : ∀ k, O k → Q k) : LooseIn n₀ Q w v l := by
  obtain ⟨cs, h1, h2, h3⟩ := h
  refine ⟨cs, h1, fun k e => hO k (h2 k e), fun i x hx => ?_⟩
  obtain ⟨h0, u, hu, hb⟩ := h3 i x hx
  exact ⟨h0, u, hu, hb.mono hO⟩

/-- A sector's fast bytes put. -/
def Dev.put (d : Dev) (k : Nat) (bs : List (BitVec 8)) : Dev := { d with fast := fun j => if j = k then bs else d.fast j }
theorem keys_set {m : List (Int × Value)} {n k : Nat} {v : Value} (h : KeysIn m n) (hk : k < n) : KeysIn (mset m k v) n := fun p hp => by
  rcases mem_mset hp with rfl | hp
  · exact ⟨k, hk, rfl⟩
  · exact h p hp
theorem keys_del {m : List (Int × Value)} {n : Nat} {k : Int} (h : KeysIn m n) : KeysIn (mdel m k) n := fun p hp => h p (mem_mdel hp)
/-- The map of what is fast turned. -/
theorem DevParts.putFast {n₀ : Nat} {O : Foot} {w : World} {D F P L : Nat} {lv : Value} {fm pm lm fm' : List (Int × Value)} {d : Dev} (h : DevParts n₀ O w D F P L lv fm pm lm d) {o : Obj} (hm : MapIs (w.putObj F o) F fm') (k : Nat) (bs : List (BitVec 8)) (hlen : bs.length = d.size)
    (hkeys : KeysIn fm' d.sectors) (hother : ∀ j : Nat, j ≠ k → mget fm' j = mget fm j) (hk : (mget fm' k = none ∧ bs = zeros d.size) ∨ ∃ v, mget fm' k = some v ∧ BytesIn O w v bs) : DevParts n₀ O (w.putObj F o) D F P L lv fm' pm lm (d.put k bs) := by
  have hs := put_same w F o O
  have hDF : D ≠ F := fun e => by
    have h1 := h.blk
    obtain ⟨_, es, c, hb, _⟩ := h.mF
    rw [e] at h1
    unfold DevBlk at h1
    rw [hb] at h1; cases h1
  have hw : ∀ k, (O k ∧ k ≠ F) → O k := fun k h => h.1
  exact
    { blk := (put_other hDF).trans h.blk
      mF := hm
      mP := h.mP.same (put_other h.apart.1.symm)
      mL := h.mL.same (put_other h.apart.2.1.symm)
      oD := h.oD, oF := h.oF, oP := h.oP, oL := h.oL, apart := h.apart
      inn := fun j hj => by rw [put_size]; exact h.inn j hj
      lo := h.lo, right := h.right, kF := hkeys, kP := h.kP, kL := h.kL
      len := fun j => by
        show (if j = k then bs else d.fast j).length = d.size
        split
        · exact hlen
        · exact h.len j
      fast := fun j hj => by
        show _ ∨ _
        by_cases e : j = k
        · subst e
          rw [show (d.put j bs).fast j = bs by simp [Dev.put]]
          exact hk.imp id fun ⟨v, h1, h2⟩ => ⟨v, h1, (hs.bytes (h2.noMap h.mF)).mono hw⟩
        · rw [show (d.put k bs).fast j = d.fast j by simp [Dev.put, e], hother j e]
          exact (h.fast j hj).imp id fun ⟨v, h1, h2⟩ => ⟨v, h1, (hs.bytes (h2.noMap h.mF)).mono hw⟩
      plen := h.plen
      past := fun j hj => (h.past j hj).imp id fun ⟨v, h1, h2⟩ => ⟨v, h1, ((h2.noMap h.mF).keep hs).wide hw⟩
      rows := h.rows
      loose := ((h.loose.noMap h.mF).keep hs).wide hw
      llen := h.llen
      last := h.last }

set_option maxHeartbeats 1000000 in
theorem setFast_parts {n₀ : Nat} {O : Foot} {w : World} {D F P L : Nat} {lv : Value} {fm pm lm : List (Int × Value)} {d : Dev} (h : DevParts n₀ O w D F P L lv fm pm lm d) (k : Nat) (hk : k < d.sectors) (v : Value) (bs : List (BitVec 8)) (hv : BytesIn O w v bs) (hlen : bs.length = d.size) :
    Calls Try.prog 26 #[.pointer (some ⟨D, 0, none⟩), .int .i64 k, v] w fun e w' => e = .returned (.tuple #[]) ∧ (∃ fm', DevParts n₀ O w' D F P L lv fm' pm lm (d.put k bs)) ∧ Moves (fun j => j = F) w w' := by
  have c2 : w.cell? ⟨D, 2, none⟩ = some (.map (some F)) := blk_cell h.blk 2
  have hsz := h.right.2
  have hz := isZero_any w.heap.size bs v w hv.1 (by omega)
  cases hzb : zeroB bs with
  | true =>
    rw [hzb] at hz
    have hbs : bs = zeros d.size := by
      unfold zeroB at hzb
      rw [← hlen]
      apply List.ext_getElem
      · rw [zeros_len]
      · intro i h1 h2
        have := List.all_eq_true.1 hzb bs[i] (List.getElem_mem h1)
        simpa [zeros] using this
    obtain ⟨es, c, hdel, hm⟩ := run_delete_int (P := Try.prog) Try.underlying54 Try.underlying3 h.mF (k : Int)
    have hp := h.putFast hm k bs hlen (keys_del h.kF) (fun j hj => by rw [mget_mdel h.mF.1, if_neg (by omega)]) (.inl ⟨by rw [mget_mdel h.mF.1, if_pos rfl], hbs⟩)
    have HP := Lib.hid hp
    have HZ := Lib.hid hz
    obtain ⟨av, cv, rfl, _⟩ := hv.1
    clear h hk hv hlen hz hp hm hbs hzb
    go_enter Try.func26, Try.ntmps26
    go_wp2_with (go_at_call 45; refine HZ.out.mono ?_; rintro e w' ⟨rfl, rfl⟩)
    go_end0
    exact ⟨rfl, ⟨_, HP.out⟩, put_moves _ _ _⟩
  | false =>
    rw [hzb] at hz
    obtain ⟨es, c, hset, hm⟩ := run_mapUpdate_int (P := Try.prog) Try.underlying54 Try.underlying3 h.mF (k : Int) v
    have hp := h.putFast hm k bs hlen (keys_set h.kF hk) (fun j hj => by rw [mget_mset, if_neg (by omega)]) (.inr ⟨v, by rw [mget_mset, if_pos rfl], hv⟩)
    have HP := Lib.hid hp
    have HZ := Lib.hid hz
    obtain ⟨av, cv, rfl, _⟩ := hv.1
    clear h hk hv hlen hz hp hm hzb
    go_enter Try.func26, Try.ntmps26
    go_wp2_with (go_at_call 45; refine HZ.out.mono ?_; rintro e w' ⟨rfl, rfl⟩)
    go_end0
    exact ⟨rfl, ⟨_, HP.out⟩, put_moves _ _ _⟩
theorem setFast_any (n₀ : Nat) (O : Foot) (w : World) (D : Nat) (d : Dev) (h : DevAt n₀ O w D d) (k : Nat) (hk : k < d.sectors) (v : Value) (bs : List (BitVec 8)) (hv : BytesIn O w v bs) (hlen : bs.length = d.size) :
    Calls Try.prog 26 #[.pointer (some ⟨D, 0, none⟩), .int .i64 k, v] w fun e w' => e = .returned (.tuple #[]) ∧ DevAt n₀ O w' D (d.put k bs) ∧ Step O O w w' := by
  obtain ⟨F, P, L, lv, fm, pm, lm, h⟩ := h
  exact (setFast_parts h k hk v bs hv hlen).mono fun _ _ ⟨he, ⟨fm', hp⟩, hm⟩ => ⟨he, ⟨F, P, L, lv, fm', pm, lm, hp⟩, hm.mono (fun i _ e => by rw [e]; exact h.oF), fun _ hk => .inl hk⟩

end Go.Proofs.Ytiibpkncdflfcaa
namespace Go.Proofs.Ytiibpkncdflfcaa
open Go.RowKit

/-- What a sector has now: its last loose write, or what is fast. -/
def Dev.cur (d : Dev) (k : Nat) : List (BitVec 8) :=
  match d.loose.reverse.find? (fun x => decide (x.1 = k)) with
  | some x => x.2
  | none => d.fast k
theorem cur_none {d : Dev} {k : Nat} (h : ∀ x ∈ d.loose, x.1 ≠ k) : d.cur k = d.fast k := by
  unfold Dev.cur
  rw [show d.loose.reverse.find? (fun x => decide (x.1 = k)) = none from List.find?_eq_none.2 (fun x hx => by simpa using h x (by simpa using hx))]
theorem cur_some {d : Dev} {k i : Nat} {bs : List (BitVec 8)} (hi : d.loose[i]? = some (k, bs)) (h : ∀ (j : Nat) x, i < j → d.loose[j]? = some x → x.1 ≠ k) : d.cur k = bs := by
  unfold Dev.cur
  have hlt : i < d.loose.length := (List.getElem?_eq_some_iff.1 hi).1
  have hsp : d.loose = d.loose.take i ++ (k, bs) :: d.loose.drop (i + 1) := by
    have e : d.loose[i] = (k, bs) := by simpa [hlt] using hi
    rw [← e, List.getElem_cons_drop, List.take_append_drop]
  have hno : ∀ x ∈ (d.loose.drop (i + 1)).reverse, ¬ (decide (x.1 = k)) = true := by
    intro x hx
    have hx : x ∈ d.loose.drop (i + 1) := by simpa using hx
    obtain ⟨j, hj, rfl⟩ := List.mem_iff_getElem.1 hx
    rw [List.getElem_drop]
    have hj2 : i + 1 + j < d.loose.length := by rw [List.length_drop] at hj; omega
    have := h (i + 1 + j) (d.loose[i + 1 + j]) (by omega) (by simp [hj2])
    simpa using this
  rw [hsp, List.reverse_append, List.reverse_cons, List.append_assoc, List.find?_append, List.find?_eq_none.2 hno]
  simp

/-- What Read answers. -/
def ReadOf (d : Dev) (at_ : Int) (w : World) (e : Ending) (w' : World) : Prop :=
  Below w.heap.size w w' ∧ ∃ v, e = .returned (.tuple #[v, .int .i64 (askErr d.sectors d.down at_)]) ∧
    ((askErr d.sectors d.down at_ ≠ 0 ∧ v = .slice none 0 0) ∨ (askErr d.sectors d.down at_ = 0 ∧ w'.ownsRow w.heap.size 5 1 v d.size (cellsOf (d.cur at_.toNat))))

theorem cell_at2 {w : World} {n₀ : Nat} {e : TypeId} {v : Value} {n g i : Nat} {cs : List Value} {u : Value} (h : w.ownsRow n₀ e 2 v n cs) (hg : v.ownBlock = some g) (hu : cs[i]? = some u) : w.cell? ⟨g, i, none⟩ = some u := by
  have := h.cells hg i u hu
  rwa [add_plain, Nat.zero_add] at this

set_option maxHeartbeats 2000000 in
theorem fread_any (n₀ : Nat) (O : Foot) (w : World) (D : Nat) (d : Dev) (h : DevAt n₀ O w D d) (at_ : Int) :
    Calls Try.prog 11 #[.pointer (some ⟨D, 0, none⟩), .int .i64 at_] w (ReadOf d at_ w) := by
  have h0 := h
  obtain ⟨F, P, L, lv, fm, pm, lm, h⟩ := h
  have ha := asked_any h.blk at_
  by_cases he : askErr d.sectors d.down at_ = 0
  · have hin : 0 ≤ at_ ∧ at_ < d.sectors := by
      unfold askErr at he
      split at he
      · cases he
      · split at he
        · assumption
        · cases he
    obtain ⟨k, rfl⟩ := Int.eq_ofNat_of_zero_le hin.1
    have hk : k < d.sectors := by omega
    have HFIN : Hid (∀ v w', Below w.heap.size w w' → w'.ownsRow w.heap.size 5 1 v d.size (cellsOf (d.cur k)) → ReadOf d k w (.returned (.tuple #[v, .int .i64 0])) w') := fun v w' hb ho => ⟨hb, v, by rw [he], .inr ⟨he, ho⟩⟩
    rw [he] at ha
    have c5 : w.cell? ⟨D, 5, none⟩ = some (.map (some L)) := blk_cell h.blk 5
    have c4 : w.cell? ⟨D, 4, none⟩ = some lv := blk_cell h.blk 4
    have hlk := run_lookup_int (P := Try.prog) Try.underlying56 Try.underlying3 h.mL (k : Int) (.int .i64 0) (by kernel_rfl) true
    have HA := Lib.hid ha
    have hsz := h.right.2
    rcases h.last k hk with ⟨hn, hno⟩ | ⟨i, bs, hi, hl, hno⟩
    · rw [hn] at hlk
      simp only [Option.getD_none, Option.isSome_none, if_true] at hlk
      have HC := Lib.hid (fastBytes_any n₀ O w D d h0 k hk)
      have HE := Lib.hid (cur_none hno)
      clear h0 h ha he hin hk hn hno
      go_enter Try.func11, Try.ntmps11
      go_wp2_with (first
        | (go_at_call 17; (with_reducible refine HA.out.mono ?_); rintro e w' ⟨rfl, rfl⟩)
        | (go_at_call 24; (with_reducible refine HC.out.mono ?_); rintro e w2 ⟨v, rfl, hv, hb⟩))
      go_ret2
      exact HFIN.out _ _ hb (by rw [HE.out]; exact hv)
    · rw [hi] at hlk
      simp only [Option.getD_some, Option.isSome_some, if_true] at hlk
      obtain ⟨cs, hrow, _, hcells⟩ := h.loose
      obtain ⟨_, u, hu, hub⟩ := hcells i _ hl
      have hub : BytesIn O w u bs := hub
      have hlen : bs.length = d.size := (h.llen _ (List.mem_of_getElem? hl)).2
      have hlt : i < d.loose.length := (List.getElem?_eq_some_iff.1 hl).1
      have hE := cur_some hl hno
      have hll : d.loose.length ≤ maxLen := by
        rcases hrow.2 with ⟨_, h2⟩ | ⟨_, cap, _, _, _, _, h2, h3, _⟩
        · rw [h2]; exact Nat.zero_le _
        · omega
      obtain ⟨g, cap, rfl⟩ : ∃ g cap, lv = .slice (some ⟨g, 0, none⟩) d.loose.length cap := by
        rcases hrow.2 with ⟨_, h2⟩ | ⟨g, cap, _, h1, _⟩
        · omega
        · exact ⟨g, cap, h1⟩
      have cu : w.cell? ⟨g, 2 * i + 1, none⟩ = some u := cell_at2 hrow rfl hu
      have cu2 : w.cell? ⟨g, i * 2 + 1, none⟩ = some u := by rw [Nat.mul_comm i 2]; exact cu
      have HC := Lib.hid (clone_any w.heap.size u bs w hub.1 (Nat.le_refl _) (by omega))
      obtain ⟨au, cpu, rfl, _⟩ := hub.1
      have HE := Lib.hid hE
      have HL := Lib.hid hlen
      unfold maxLen at hll
      have i0 : (0 : Int) ≤ i := by omega
      have i1 : (i : Int) < d.loose.length := by omega
      clear h0 h ha he hin hk hi hno hrow hcells hl hE hu hub hlen
      go_enter Try.func11, Try.ntmps11
      go_wp2_with (first
        | (go_at_call 17; (with_reducible refine HA.out.mono ?_); rintro e w' ⟨rfl, rfl⟩)
        | (go_at_call 18; (with_reducible refine HC.out.mono ?_); rintro e w2 ⟨v, rfl, hv, hb⟩))
      go_ret2
      exact HFIN.out _ _ hb (by rw [HE.out, ← HL.out]; exact hv)
  · have hne : (askErr d.sectors d.down at_ != 0) = true := by simpa using he
    have HA := Lib.hid ha
    have HFIN : Hid (ReadOf d at_ w (.returned (.tuple #[.slice none 0 0, .int .i64 (askErr d.sectors d.down at_)])) w) := ⟨Below.refl _ _, _, rfl, .inl ⟨he, rfl⟩⟩
    generalize askErr d.sectors d.down at_ = er at HA HFIN hne
    generalize ReadOf d at_ w = post at HFIN ⊢
    clear h0 h ha he
    go_enter Try.func11, Try.ntmps11
    go_wp2_with (go_at_call 17; (with_reducible refine HA.out.mono ?_); rintro e w' ⟨rfl, rfl⟩)
    exact HFIN.out

end Go.Proofs.Ytiibpkncdflfcaa
namespace Go.Proofs.Ytiibpkncdflfcaa
open Go.RowKit

section
variable {n₀ : Nat} {O : Foot} {w : World} {D : Nat} {d : Dev}
theorem sectors_any (h : DevAt n₀ O w D d) : Calls Try.prog 47 #[.pointer (some ⟨D, 0, none⟩)] w fun e w' => e = .returned (.int .i64 d.sectors) ∧ w = w' := by
  obtain ⟨F, P, L, lv, fm, pm, lm, h⟩ := h
  have c0 : w.cell? ⟨D, 0, none⟩ = some (.int .i64 d.sectors) := blk_cell h.blk 0
  clear h
  go_enter Try.func47, Try.ntmps47
  go_wp2
  go_ret
  exact ⟨rfl, rfl⟩
theorem fsize_any (h : DevAt n₀ O w D d) : Calls Try.prog 23 #[.pointer (some ⟨D, 0, none⟩)] w fun e w' => e = .returned (.int .i64 d.size) ∧ w = w' := by
  obtain ⟨F, P, L, lv, fm, pm, lm, h⟩ := h
  have c0 : w.cell? ⟨D, 1, none⟩ = some (.int .i64 d.size) := blk_cell h.blk 1
  clear h
  go_enter Try.func23, Try.ntmps23
  go_wp2
  go_ret
  exact ⟨rfl, rfl⟩
/-- A cell of the device's own block turned, other than those that name its parts. -/
theorem DevParts.turn {F P L : Nat} {lv : Value} {fm pm lm : List (Int × Value)} (h : DevParts n₀ O w D F P L lv fm pm lm d) {w' : World} (hm : Moves (fun k => k = D) w w') (armed acts : Nat) (down : Bool) (hb : DevBlk w' D d.sectors d.size F P lv L armed acts down) :
    DevParts n₀ O w' D F P L lv fm pm lm { d with armed := armed, acts := acts, down := down } := by
  have hs : Same (fun k => O k ∧ k ≠ D) w w' := ⟨hm.size, fun k hk => hm.block k (h.inn k hk.1) hk.2⟩
  have hw : ∀ k, (O k ∧ k ≠ D) → O k := fun k h => h.1
  have hnc : NoBytes w D := noBytes_cells h.blk (by decide)
  have hby : ∀ {v : Value} {bs : List (BitVec 8)}, BytesIn O w v bs → BytesIn O w' v bs := fun hbb => (hs.bytes ⟨hbb.1, fun hne k e => ⟨⟨(hbb.2 hne k e).1, fun ek => hnc (ek ▸ (hbb.2 hne k e).2)⟩, (hbb.2 hne k e).2⟩⟩).mono hw
  have hrow : ∀ {e : TypeId} {size n : Nat} {v : Value} {xs : List Value}, e ≠ 59 → (∀ k, v.ownBlock = some k → O k) → w.ownsRow n₀ e size v n xs → w'.ownsRow n₀ e size v n xs := fun he ho hr => hs.row hr (fun k ek => ⟨ho k ek, fun ekD => by subst ekD; exact own_ne hr h.blk he ek⟩)
  have hmap : ∀ {b : Nat} {m : List (Int × Value)}, MapIs w b m → O b → MapIs w' b m := fun hmb ho => hs.map hmb ⟨ho, fun e => by
    subst e
    obtain ⟨_, es, c, hbb, _⟩ := hmb
    have := h.blk
    unfold DevBlk at this
    rw [hbb] at this; cases this⟩
  exact
    { blk := hb
      mF := hmap h.mF h.oF
      mP := hmap h.mP h.oP
      mL := hmap h.mL h.oL
      oD := h.oD, oF := h.oF, oP := h.oP, oL := h.oL, apart := h.apart
      inn := fun k hk => Nat.lt_of_lt_of_le (h.inn k hk) hm.size
      lo := h.lo, right := h.right, kF := h.kF, kP := h.kP, kL := h.kL, len := h.len
      fast := fun k hk => (h.fast k hk).imp id fun ⟨v, h1, h2⟩ => ⟨v, h1, hby h2⟩
      plen := h.plen
      past := fun k hk => (h.past k hk).imp id fun ⟨v, h1, h2⟩ => ⟨v, h1, by
        obtain ⟨cs, h3, h4, h5⟩ := h2
        refine ⟨cs, hrow (by decide) h4 h3, h4, fun i x hx => ?_⟩
        obtain ⟨u, hu, hb⟩ := h5 i x hx
        exact ⟨u, hu, hby hb⟩⟩
      rows := h.rows
      loose := by
        obtain ⟨cs, h3, h4, h5⟩ := h.loose
        refine ⟨cs, hrow (by decide) h4 h3, h4, fun i x hx => ?_⟩
        obtain ⟨h0, u, hu, hb⟩ := h5 i x hx
        exact ⟨h0, u, hu, hby hb⟩
      llen := h.llen
      last := h.last }

end

end Go.Proofs.Ytiibpkncdflfcaa
namespace Go.Proofs.Ytiibpkncdflfcaa
open Go.RowKit

/-- A write or a sync counted. -/
def Dev.act (d : Dev) : Dev := { d with armed := d.armed - 1, acts := d.acts + 1, down := if d.armed = 1 then true else d.down }
def Dev.forget (d : Dev) : Dev := { d with loose := [] }
section
variable {n₀ : Nat} {O : Foot} {w : World} {D : Nat} {d : Dev}
theorem act_parts {F P L : Nat} {lv : Value} {fm pm lm : List (Int × Value)} (h : DevParts n₀ O w D F P L lv fm pm lm d) (h2 : d.acts < 9223372036854775807) (h3 : d.armed ≤ 9223372036854775807) :
    Calls Try.prog 19 #[.pointer (some ⟨D, 0, none⟩)] w fun e w' => e = .returned (.int .i64 (if d.armed = 1 then 4 else 0)) ∧ DevParts n₀ O w' D F P L lv fm pm lm d.act ∧ Moves (fun k => k = D) w w' := by
  refine (act_any h.blk (by omega) (by omega) (by omega) (by omega)).mono fun e w' ⟨he, hb, hm, _⟩ => ?_
  have e1 : ((d.armed : Int) = 1) = (d.armed = 1) := by rw [eq_iff_iff]; omega
  simp only [e1] at he hb
  have e2 : (if (d.armed : Int) = 0 then 0 else (d.armed : Int) - 1) = ((d.armed - 1 : Nat) : Int) := by split <;> omega
  rw [e2] at hb
  exact ⟨he, h.turn hm (d.armed - 1) (d.acts + 1) (if d.armed = 1 then true else d.down) hb, hm⟩
theorem act_dev (h : DevAt n₀ O w D d) (h2 : d.acts < 9223372036854775807) (h3 : d.armed ≤ 9223372036854775807) :
    Calls Try.prog 19 #[.pointer (some ⟨D, 0, none⟩)] w fun e w' => e = .returned (.int .i64 (if d.armed = 1 then 4 else 0)) ∧ DevAt n₀ O w' D d.act ∧ Step O O w w' := by
  obtain ⟨F, P, L, lv, fm, pm, lm, h⟩ := h
  refine (act_any h.blk (by omega) (by omega) (by omega) (by omega)).mono fun e w' ⟨he, hb, hm, _⟩ => ?_
  have e1 : ((d.armed : Int) = 1) = (d.armed = 1) := by rw [eq_iff_iff]; omega
  simp only [e1] at he hb
  have e2 : (if (d.armed : Int) = 0 then 0 else (d.armed : Int) - 1) = ((d.armed - 1 : Nat) : Int) := by split <;> omega
  rw [e2] at hb
  refine ⟨he, ⟨F, P, L, lv, fm, pm, lm, h.turn hm (d.armed - 1) (d.acts + 1) (if d.armed = 1 then true else d.down) hb⟩, hm.mono (fun i _ e => by rw [e]; exact h.oD), fun _ hk => .inl hk⟩
end

theorem noBytes_dev {n₀ : Nat} {O : Foot} {w : World} {D F P L : Nat} {lv : Value} {fm pm lm : List (Int × Value)} {d : Dev} (h : DevParts n₀ O w D F P L lv fm pm lm d) : NoBytes w D := noBytes_cells h.blk (by decide)
/-- Bytes stand through what is written to blocks in which none stand. -/
theorem bytes_moves {O X : Foot} {w w2 : World} (hm : Moves X w w2) (hX : ∀ k, X k → NoBytes w k) {v : Value} {bs : List (BitVec 8)} (h : BytesIn O w v bs) : BytesIn O w2 v bs :=
  ⟨(h.1.keep fun hne _ hp hlt => hm.cell hlt fun hx => hX _ hx (h.2 hne _ hp).2).mono hm.size, fun hne k e => by
    obtain ⟨h1, cs, z, h2⟩ := h.2 hne k e
    exact ⟨h1, cs, z, (hm.block k (blk_lt h2) fun hx => hX _ hx ⟨cs, z, h2⟩).trans h2⟩⟩
theorem rows_moves {n₀ : Nat} {O X : Foot} {w w2 : World} (hm : Moves X w w2) (hX : ∀ k, X k → NoBytes w k) {v : Value} {l : List (List (BitVec 8))} (h : RowsIn n₀ O w v l) (hv : ∀ k, v.ownBlock = some k → ¬ X k) : RowsIn n₀ O w2 v l := by
  obtain ⟨cs, h1, h2, h3⟩ := h
  refine ⟨cs, hm.row h1 hv, h2, fun i x hx => ?_⟩
  obtain ⟨u, hu, hb⟩ := h3 i x hx
  exact ⟨u, hu, bytes_moves hm hX hb⟩
theorem rows_ne_map {n₀ : Nat} {O : Foot} {w : World} {v : Value} {l : List (List (BitVec 8))} {g : Nat} {m : List (Int × Value)} (h : RowsIn n₀ O w v l) (hm : MapIs w g m) : v.ownBlock ≠ some g := by
  obtain ⟨cs, h1, _⟩ := h
  exact hm.noRow h1
theorem rows_ne_dev {n₀ : Nat} {O : Foot} {w : World} {v : Value} {l : List (List (BitVec 8))} {D F P L : Nat} {lv : Value} {fm pm lm : List (Int × Value)} {d : Dev} (h : RowsIn n₀ O w v l) (hd : DevParts n₀ O w D F P L lv fm pm lm d) : v.ownBlock ≠ some D := by
  obtain ⟨cs, h1, _⟩ := h
  exact own_ne h1 hd.blk (by decide)
theorem dev_ne_map {n₀ : Nat} {O : Foot} {w : World} {D F P L : Nat} {lv : Value} {fm pm lm : List (Int × Value)} {d : Dev} (h : DevParts n₀ O w D F P L lv fm pm lm d) {g : Nat} {m : List (Int × Value)} (hm : MapIs w g m) : g ≠ D := fun e => by
  subst e
  obtain ⟨_, es, c, hb, _⟩ := hm
  have := h.blk
  unfold DevBlk at this
  rw [hb] at this; cases this

set_option maxHeartbeats 1000000 in
theorem forget_any (n₀ : Nat) (O : Foot) (w : World) (D : Nat) (d : Dev) (h : DevAt n₀ O w D d) :
    Calls Try.prog 27 #[.pointer (some ⟨D, 0, none⟩)] w fun e w' => e = .returned (.tuple #[]) ∧ DevAt n₀ O w' D d.forget ∧ Step O O w w' := by
  obtain ⟨F, P, L, lv, fm, pm, lm, h⟩ := h
  have c4 : w.cell? ⟨D, 4, none⟩ = some lv := blk_cell h.blk 4
  have c5 : w.cell? ⟨D, 5, none⟩ = some (.map (some L)) := blk_cell h.blk 5
  have f4 : w.frozen? ⟨D, 4, none⟩ = false := blk_frozen h.blk 4
  have hLD := dev_ne_map h h.mL
  have hm1 : Moves (fun k => k = D ∨ k = L) w (w.setCell ⟨D, 4, none⟩ (.slice none 0 0)) := (Moves.refl (fun k => k = D ∨ k = L) w).setCell (p := ⟨D, 4, none⟩) (fun _ => .inl rfl) _
  have hL1 : MapIs (w.setCell ⟨D, 4, none⟩ (.slice none 0 0)) L lm := h.mL.same (Below.heap_setCell _ _ _ _ hLD)
  obtain ⟨es, c, hclr, hL2⟩ := run_clear_int (P := Try.prog) Try.underlying56 hL1
  have hm2 : Moves (fun k => k = D ∨ k = L) w ((w.setCell ⟨D, 4, none⟩ (.slice none 0 0)).putObj L (.map es c)) := hm1.trans ((put_moves _ L (.map es c)).mono (T := fun k => k = D ∨ k = L) (fun i _ e => .inr e)) (fun _ _ e => e)
  have hX : ∀ k, (k = D ∨ k = L) → NoBytes w k := fun k hk => by
    rcases hk with rfl | rfl
    · exact noBytes_dev h
    · exact noBytes_map h.mL
  have hmap : ∀ {g : Nat} {m : List (Int × Value)}, MapIs w g m → g ≠ L → MapIs ((w.setCell ⟨D, 4, none⟩ (.slice none 0 0)).putObj L (.map es c)) g m := fun hg hne => hg.same (hm2.block _ hg.lt (fun e => e.elim (dev_ne_map h hg) hne))
  have hfin : DevAt n₀ O ((w.setCell ⟨D, 4, none⟩ (.slice none 0 0)).putObj L (.map es c)) D d.forget ∧ Step O O w ((w.setCell ⟨D, 4, none⟩ (.slice none 0 0)).putObj L (.map es c)) := by
    refine ⟨⟨F, P, L, .slice none 0 0, fm, pm, [], ?_⟩, hm2.mono (fun i _ e => e.elim (fun e => by rw [e]; exact h.oD) (fun e => by rw [e]; exact h.oL)), fun _ hk => .inl hk⟩
    exact
      { blk := (put_other hLD.symm).trans (devSet h.blk 4 _)
        mF := hmap h.mF h.apart.2.1
        mP := hmap h.mP h.apart.2.2
        mL := hL2
        oD := h.oD, oF := h.oF, oP := h.oP, oL := h.oL, apart := h.apart
        inn := fun k hk => Nat.lt_of_lt_of_le (h.inn k hk) hm2.size
        lo := h.lo, right := h.right, kF := h.kF, kP := h.kP
        kL := fun p hp => by cases hp
        len := h.len
        fast := fun k hk => (h.fast k hk).imp id fun ⟨v, h1, h2⟩ => ⟨v, h1, bytes_moves hm2 hX h2⟩
        plen := h.plen
        past := fun k hk => (h.past k hk).imp id fun ⟨v, h1, h2⟩ => ⟨v, h1, rows_moves hm2 hX h2 (fun j e hj => hj.elim (fun ej => rows_ne_dev h2 h (by rw [← ej]; exact e)) (fun ej => rows_ne_map h2 h.mL (by rw [← ej]; exact e)))⟩
        rows := h.rows
        loose := ⟨[], World.ownsRow_nil _ _ _ _, (fun k e => by cases e), (fun i x hx => by simp [Dev.forget] at hx)⟩
        llen := fun x hx => by cases hx
        last := fun k _ => .inl ⟨rfl, fun x hx => by cases hx⟩ }
  have HF := Lib.hid hfin
  clear h hm1 hL1 hL2 hm2 hX hmap hfin
  have hLD2 : D ≠ L := hLD.symm
  go_enter Try.func27, Try.ntmps27
  go_wp2
  go_end0
  exact ⟨rfl, HF.out⟩

end Go.Proofs.Ytiibpkncdflfcaa
namespace Go.Proofs.Ytiibpkncdflfcaa
open Go.RowKit

theorem DevParts.widen {n₀ : Nat} {O Q : Foot} {w : World} {D F P L : Nat} {lv : Value} {fm pm lm : List (Int × Value)} {d : Dev} (h : DevParts n₀ O w D F P L lv fm pm lm d) (hO : ∀ k, O k → Q k) (hin : Foot.In Q w) (hlo : ∀ k, Q k → n₀ ≤ k) : DevParts n₀ Q w D F P L lv fm pm lm d :=
  { h with
    oD := hO _ h.oD, oF := hO _ h.oF, oP := hO _ h.oP, oL := hO _ h.oL
    inn := hin
    lo := hlo
    fast := fun k hk => (h.fast k hk).imp id fun ⟨v, h1, h2⟩ => ⟨v, h1, h2.mono hO⟩
    past := fun k hk => (h.past k hk).imp id fun ⟨v, h1, h2⟩ => ⟨v, h1, h2.wide hO⟩
    loose := h.loose.wide hO }
theorem DevAt.widen {n₀ : Nat} {O Q : Foot} {w : World} {D : Nat} {d : Dev} (h : DevAt n₀ O w D d) (hO : ∀ k, O k → Q k) (hin : Foot.In Q w) (hlo : ∀ k, Q k → n₀ ≤ k) : DevAt n₀ Q w D d := by
  obtain ⟨F, P, L, lv, fm, pm, lm, h⟩ := h
  exact ⟨F, P, L, lv, fm, pm, lm, h.widen hO hin hlo⟩

/-- Behind the first k loose writes made fast. -/
def Dev.settle (d : Dev) : List (Nat × List (BitVec 8)) → Dev
  | [] => d
  | x :: l => (d.put x.1 x.2).settle l
theorem settle_snoc (d : Dev) (l : List (Nat × List (BitVec 8))) (x : Nat × List (BitVec 8)) : d.settle (l ++ [x]) = (d.settle l).put x.1 x.2 := by
  induction l generalizing d with
  | nil => rfl
  | cons y l ih => exact ih _
theorem settle_same (d : Dev) (l : List (Nat × List (BitVec 8))) : (d.settle l).loose = d.loose ∧ (d.settle l).sectors = d.sectors ∧ (d.settle l).size = d.size ∧ (d.settle l).past = d.past ∧ (d.settle l).armed = d.armed ∧ (d.settle l).acts = d.acts ∧ (d.settle l).down = d.down := by
  induction l generalizing d with
  | nil => exact ⟨rfl, rfl, rfl, rfl, rfl, rfl, rfl⟩
  | cons y l ih => exact ih _

theorem slice_cells {w : World} {n₀ : Nat} {e : TypeId} {size n : Nat} {v : Value} {cs : List Value} (h : w.ownsRow n₀ e size v n cs) (hn : 0 < n) : ∃ g cap, v = .slice (some ⟨g, 0, none⟩) n cap ∧ n ≤ maxLen := by
  rcases h.2 with ⟨_, h2⟩ | ⟨g, cap, _, h1, _, _, h2, h3, _⟩
  · omega
  · exact ⟨g, cap, h1, by omega⟩

/-- What a sync does. -/
def Dev.sync (d : Dev) : Dev := if d.down then d else if d.armed = 1 then d.act else ((d.act).settle d.loose).forget
def syncErr (d : Dev) : Int := if d.down then 4 else if d.armed = 1 then 4 else 0

end Go.Proofs.Ytiibpkncdflfcaa

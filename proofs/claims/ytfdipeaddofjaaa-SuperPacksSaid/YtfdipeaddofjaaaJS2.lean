/-
  Joined: Sup8, Sup9, Sup10, Sup11.
  Conditions: none.
-/
import Derived.Test.YtfdipeaddofjaaaSup7
namespace Go.Proofs.Ytfdipeaddofjaaa
open Go.RowKit Go.Shelf Go.Lib Go.Sort

instance : Inhabited HeadP := ⟨HeadP.zero⟩
def encH (x : HeadP) : List Value := x.cells.toList
/-- Sorted, the greatest generation first. -/
def sortH : List HeadP → List HeadP
  | [x, y] => if x.gen < y.gen then [y, x] else [x, y]
  | l => l
def cfH (a b : HeadP) : Int := compareInt b.gen a.gen
theorem sortH_two (x y : HeadP) : sortH [x, y] = if x.gen < y.gen then [y, x] else [x, y] := rfl
theorem sortH_one (x : HeadP) : sortH [x] = [x] := rfl
theorem sortH_nil : sortH [] = [] := rfl
theorem lt_gen (x y : HeadP) : ltOf cfH y x = decide (x.gen < y.gen) := by
  unfold ltOf cfH compareInt
  by_cases h1 : x.gen < y.gen
  · simp [h1]
  · by_cases h2 : x.gen > y.gen
    · simp [h1, h2]
    · simp [h1, h2]
theorem ins_two (x y : HeadP) : Go.Sort.insertionSort (ltOf cfH) #[x, y] 0 2 = (sortH [x, y]).toArray := by
  unfold Go.Sort.insertionSort
  rw [Go.Sort.insOuter, if_pos (by decide), Go.Sort.insOuter, if_neg (by decide), sortH_two]
  show Go.Sort.insInner (ltOf cfH) 0 1 #[x, y] = _
  rw [Go.Sort.insInner]
  have e0 : (decide (0 + 1 > 0) && ltOf cfH (#[x, y][0 + 1]!) (#[x, y][0]!)) = decide (x.gen < y.gen) := lt_gen x y
  rw [e0]
  by_cases h1 : x.gen < y.gen
  · rw [if_pos (by simpa using h1), if_pos h1]
    rfl
  · rw [if_neg (by simpa using h1), if_neg h1]
theorem ins_one (x : HeadP) : Go.Sort.insertionSort (ltOf cfH) #[x] 0 1 = #[x] := by
  unfold Go.Sort.insertionSort
  rw [Go.Sort.insOuter, if_neg (by decide)]
theorem ins_zero : Go.Sort.insertionSort (ltOf cfH) #[] 0 0 = #[] := by
  unfold Go.Sort.insertionSort
  rw [Go.Sort.insOuter, if_neg (by decide)]
theorem ins_any (hs : List HeadP) (h : hs.length ≤ 2) (n : Nat) (hn : n = hs.length) : Go.Sort.insertionSort (ltOf cfH) hs.toArray 0 n = (sortH hs).toArray := by
  subst hn
  rcases hs with _ | ⟨x, _ | ⟨y, _ | ⟨z, l⟩⟩⟩
  · rw [sortH_nil]; exact ins_zero
  · rw [sortH_one]; exact ins_one x
  · exact ins_two x y
  · simp at h
theorem sortH_len (hs : List HeadP) (h : hs.length ≤ 2) : (sortH hs).length = hs.length := by
  rcases hs with _ | ⟨x, _ | ⟨y, _ | ⟨z, l⟩⟩⟩
  · rfl
  · rfl
  · rw [sortH_two]
    split
    · rfl
    · rfl
  · simp at h
theorem flatN_get {α : Type} (f : α → List Value) (n : Nat) (hf : ∀ a, (f a).length = n) (l : List α) (i : Nat) (a : α) (h : l[i]? = some a) (k : Nat) (hk : k < n) : (l.flatMap f)[i * n + k]? = (f a)[k]? := by
  induction l generalizing i with
  | nil => simp at h
  | cons b l ih =>
    rw [List.flatMap_cons]
    cases i with
    | zero =>
      obtain rfl : b = a := by simpa using h
      rw [Nat.zero_mul, Nat.zero_add, List.getElem?_append_left (by rw [hf]; exact hk)]
    | succ i =>
      rw [List.getElem?_append_right (by rw [hf, Nat.succ_mul]; omega), hf, show (i + 1) * n + k - n = i * n + k by rw [Nat.succ_mul]; omega]
      exact ih i (by simpa using h)
theorem flat_any (hs : List HeadP) : (flatK encH 15 hs.toArray).toList = rowsH hs := by
  apply List.ext_getElem?
  intro i
  rw [Array.getElem?_toList]
  have hsz : (flatK encH 15 hs.toArray).size = hs.length * 15 := by simp
  by_cases hi : i < hs.length * 15
  · have hq : i / 15 < hs.length := by omega
    have hk : i % 15 < 15 := Nat.mod_lt _ (by decide)
    have e : i / 15 * 15 + i % 15 = i := by omega
    have h1 := flatN_get encH 15 (fun _ => rfl) hs (i / 15) hs[i / 15] (by simp [hq]) (i % 15) hk
    rw [e] at h1
    have h2 := get_flatK encH 15 hs.toArray i (by simpa using hi)
    rw [Array.getElem?_eq_getElem (by rw [hsz]; exact hi)]
    rw [getElem!_pos (flatK encH 15 hs.toArray) i (by rw [hsz]; exact hi)] at h2
    rw [h2]
    show _ = (hs.flatMap encH)[i]?
    rw [h1]
    have h3 : (hs.toArray)[i / 15]! = hs[i / 15] := by simp [hq]
    rw [h3]
    have h4 : i % 15 < (encH hs[i / 15]).length := hk
    rw [List.getElem?_eq_getElem h4, getElem!_pos (encH hs[i / 15]) (i % 15) h4]
  · rw [Array.getElem?_eq_none (by rw [hsz]; omega), List.getElem?_eq_none (by rw [rowsH_len]; omega)]
theorem sw_at {w : World} {g : Nat} {cur : Array Value} {T : TypeId} {z : Nat × Nat} (h : w.heap[g]? = some (.cells cur T z)) (n : Nat) (d : Array HeadP) (os : Array Obj) :
    (sortWorldK encH 15 w g 0 n d os).heap[g]? = some (.cells (putCells id 0 (flatK encH 15 d) cur) T z) := by
  have hl := blk_lt h
  unfold sortWorldK putRowK putRow
  rw [heap_grow_old _ _ (by simpa [mapBlock, ahead] using hl)]
  simp [mapBlock, Array.getElem?_modify, h, onCells]
theorem sw_moves (w : World) (g n : Nat) (d : Array HeadP) (os : Array Obj) : Moves (fun k => k = g) w (sortWorldK encH 15 w g 0 n d os) := by
  refine ⟨rfl, rfl, rfl, ?_, fun k hk hs => ?_⟩
  · unfold sortWorldK putRowK putRow
    simp [mapBlock, grow]
  · unfold sortWorldK putRowK putRow
    rw [heap_grow_old _ _ (by simpa [mapBlock, ahead] using hk)]
    have : ¬ g = k := fun e => hs e.symm
    simp [mapBlock, Array.getElem?_modify, this]
theorem put_take (F cur : Array Value) (h : F.size ≤ cur.size) : (putCells id 0 F cur).toList.take F.size = F.toList := by
  apply List.ext_getElem?
  intro i
  rw [List.getElem?_take]
  by_cases hi : i < F.size
  · rw [if_pos hi, Array.getElem?_toList, Array.getElem?_toList]
    unfold putCells
    rw [Array.getElem?_mapIdx, Array.getElem?_eq_getElem (by omega), Array.getElem?_eq_getElem hi]
    simp [hi]
  · rw [if_neg hi, Array.getElem?_toList, Array.getElem?_eq_none (by omega)]
theorem putc_size (F cur : Array Value) : (putCells id 0 F cur).size = cur.size := by simp [putCells]

theorem hlen_any (n : Nat) (W : World) (h : n ≤ 12) : Calls Try.prog 82 #[.int .u64 n] W fun e w' => (∃ l : Int, e = .returned (.int .i64 l)) ∧ w' = W :=
  (Any.bits_Len bitsLen2 n W (by omega) (by omega)).mono fun _ _ ⟨he, hw⟩ => ⟨⟨_, he⟩, hw⟩

/-- What the sorting leaves. -/
def Sorted2 (n₀ : Nat) (hs : List HeadP) (v : Value) (w : World) (e : Ending) (w' : World) : Prop := e = .returned (.tuple #[]) ∧ w'.ownsRow n₀ 35 15 v hs.length (rowsH (sortH hs)) ∧ Moves (fun k => v.ownBlock = some k) w w'
set_option maxRecDepth 100000 in
theorem sort_some (n₀ : Nat) (hs : List HeadP) (h2 : hs.length ≤ 2) (g cap : Nat) (w : World) (Nb : Nat) (T : TypeId) (hrow : w.ownsRow n₀ 35 15 (.slice (some ⟨g, 0, none⟩) hs.length cap) hs.length (rowsH hs)) (hN : w.heap[Nb]? = some (.cells #[.func (.func 48) #[] #[]] T (0, 0))) (hNg : Nb ≠ g) :
    Calls Try.prog 68 #[.slice (some ⟨g, 0, none⟩) hs.length cap, .func (.func 69) #[] #[.pointer (some ⟨Nb, 0, none⟩)]] w (Sorted2 n₀ hs (.slice (some ⟨g, 0, none⟩) hs.length cap) w) := by
  obtain ⟨hl1, hl2⟩ := hrow
  rcases hl2 with ⟨hx, _⟩ | ⟨g', cap', cur, hv, hb, hg, hn, hc, hs2, ht⟩
  · cases hx
  · simp only [Value.slice.injEq, Option.some.injEq, Addr.mk.injEq] at hv
    obtain ⟨⟨rfl, _⟩, _, rfl⟩ := hv
    have hF := flat_any hs
    have hFs : (flatK encH 15 hs.toArray).size = hs.length * 15 := by simp
    have hcs : (flatK encH 15 hs.toArray).size ≤ cur.size := by rw [hFs, hs2]; exact Nat.mul_le_mul_right _ hn
    have hH : HoldsK encH 15 w g 0 hs.toArray := by
      intro j hj
      rw [Nat.zero_add]
      refine ⟨?_, blk_frozen hg j⟩
      rw [blk_cell hg j]
      have e : cur.toList[j]? = (flatK encH 15 hs.toArray).toList[j]? := by
        rw [hF, ← ht, List.getElem?_take, if_pos (by rw [← hFs]; exact hj)]
      rw [Array.getElem?_toList, Array.getElem?_toList] at e
      rw [e, Array.getElem?_eq_getElem hj, getElem!_pos (flatK encH 15 hs.toArray) j hj]
      rfl
    have eg : ∀ args w, (callFunc 69 args).run Try.prog w = .ok (.enter 69 args) w := enters_of Try.func69 (by kernel_rfl) rfl
    have hcmp : CmpLays Try.prog 69 #[.pointer (some ⟨Nb, 0, none⟩)] encH 15 cfH g 0 hs.toArray.size w := fun m os dk _ x y =>
      clos_any x y Nb T _ (((sw_moves w g m dk os).block Nb (blk_lt hN) hNg).trans hN)
    have hcon := AnyQ.slices_SortFunc_small sortHd 15 Try.isAgg35 Try.sizeOf35 encH (fun _ => rfl) (fun x v hv => x.one v hv) cfH 69 #[.pointer (some ⟨Nb, 0, none⟩)] g 0 cap hs.toArray w eg hcmp hH (blk_lt hg) (by simp; omega) hlen_any
    rw [ins_any hs h2 _ (by simp)] at hcon
    refine hcon.mono ?_
    rintro e w' ⟨he, n, os, rfl⟩
    have hsl := sortH_len hs h2
    refine ⟨he, ⟨?_, .inr ⟨g, cap, _, rfl, hb, sw_at hg n _ os, hn, hc, by rw [putc_size]; exact hs2, ?_⟩⟩, (sw_moves w g n _ os).mono (fun i _ e => by rw [e]; rfl)⟩
    · rw [rowsH_len, hsl]; omega
    · have hF2 := flat_any (sortH hs)
      have hFs2 : (flatK encH 15 (sortH hs).toArray).size = hs.length * 15 := by simp [hsl]
      rw [← hFs2, put_take _ _ (by rw [hFs2, ← hFs]; exact hcs), hF2]
end Go.Proofs.Ytfdipeaddofjaaa
namespace Go.Proofs.Ytfdipeaddofjaaa
open Go.RowKit Go.Shelf

theorem insn_nil (fv : Value) (w : World) : Calls Try.prog 88 #[.slice none 0 0, .int .i64 0, .int .i64 0, fv] w fun e w' => e = .returned (.tuple #[]) ∧ w = w' := by
  go_enter Try.func88, Try.ntmps88
  go_wp2
  refine wp_loop_rounds 1 ?_
  rw [rounds_succ]
  go_wp2
  (try simp only [Exit.inBlock, Exit.then])
  go_wp2
  go_end0
  exact ⟨rfl, rfl⟩
theorem pdq_nil (lim : Int) (fv : Value) (w : World) : Calls Try.prog 81 #[.slice none 0 0, .int .i64 0, .int .i64 0, .int .i64 lim, fv] w fun e w' => e = .returned (.tuple #[]) ∧ w = w' := by
  have HI := Lib.hid (insn_nil fv)
  go_enter Try.func81, Try.ntmps81
  go_wp2
  refine wp_loop_rounds 1 ?_
  rw [rounds_succ]
  go_wp2_with (go_at_call 88; (with_reducible refine (HI.out _).mono ?_); rintro e w' ⟨rfl, rfl⟩)
  (try simp only [Exit.inBlock, Exit.then])
  refine bodyPost_ret (results_none rfl _ _ _) rfl ?_
  exact ⟨rfl, rfl⟩
theorem sort_nil (fv : Value) (w : World) : Calls Try.prog 68 #[.slice none 0 0, fv] w fun e w' => e = .returned (.tuple #[]) ∧ w = w' := by
  have HP := Lib.hid (fun lim W => pdq_nil lim fv W)
  have HL : Hid (∀ W, Calls Try.prog 82 #[.int .u64 0] W fun e w' => ∃ l : Int, e = .returned (.int .i64 l) ∧ w' = W) := fun W => (hlen_any 0 W (by decide)).mono fun _ _ ⟨⟨l, he⟩, hw⟩ => ⟨l, he, hw⟩
  go_enter Try.func68, Try.ntmps68
  go_wp2_with (first
    | (go_at_call 82; (with_reducible refine (HL.out _).mono ?_); rintro e w' ⟨l, rfl, rfl⟩)
    | (go_at_call 81; (with_reducible refine (HP.out _ _).mono ?_); rintro e w' ⟨rfl, rfl⟩))
  go_end0
  exact ⟨rfl, rfl⟩
theorem sort_any (n₀ : Nat) (hs : List HeadP) (h2 : hs.length ≤ 2) (v : Value) (w : World) (Nb : Nat) (T : TypeId) (hT : 35 ≠ T) (hrow : w.ownsRow n₀ 35 15 v hs.length (rowsH hs)) (hN : w.heap[Nb]? = some (.cells #[.func (.func 48) #[] #[]] T (0, 0))) :
    Calls Try.prog 68 #[v, .func (.func 69) #[] #[.pointer (some ⟨Nb, 0, none⟩)]] w (Sorted2 n₀ hs v w) := by
  rcases id hrow.2 with ⟨rfl, h0⟩ | ⟨g, cap, cur, rfl, hb, hg, _⟩
  · obtain rfl : hs = [] := List.eq_nil_of_length_eq_zero h0
    refine (sort_nil _ w).mono ?_
    rintro e w' ⟨rfl, rfl⟩
    exact ⟨rfl, hrow, Moves.refl _ _⟩
  · exact sort_some n₀ hs h2 g cap w Nb T hrow hN (fun e => blk_ne hg hN hT e.symm)
theorem greatest_any (n₀ : Nat) (hs : List HeadP) (h2 : hs.length ≤ 2) (v : Value) (w : World) (hrow : w.ownsRow n₀ 35 15 v hs.length (rowsH hs)) :
    Calls Try.prog 47 #[v, .func (.func 48) #[] #[]] w (Sorted2 n₀ hs v w) := by

  have HS := Lib.hid (fun W (hr : W.ownsRow n₀ 35 15 v hs.length (rowsH hs)) (hN : W.heap[w.heap.size]? = some (.cells #[.func (.func 48) #[] #[]] 106 (0, 0))) => sort_any n₀ hs h2 v W w.heap.size _ (by decide) hr hN)
  have HB : Hid (Below w.heap.size w (w.alloc (.cells #[.func (.func 48) #[] #[]] 106))) := (Below.refl _ _).alloc (Nat.le_refl _) _
  have HC := Lib.hid (HS.out _ (ownsRow_below hrow HB.out) (heap_alloc_new _ _))
  obtain ⟨a, c, rfl⟩ := owns_slice hrow
  clear hrow
  go_enter Try.func47, Try.ntmps47
  go_wp2_with (go_at_call 68; (with_reducible refine HC.out.mono ?_); rintro e w' ⟨rfl, hr, hm⟩; have HR := Lib.hid hr; have HM := Lib.hid hm; clear hr hm)
  go_end0
  exact ⟨rfl, HR.out, (Moves.of_below HB.out).trans HM.out (fun _ _ h => h)⟩
end Go.Proofs.Ytfdipeaddofjaaa
namespace Go.Proofs.Ytfdipeaddofjaaa
open Go.RowKit Go.Shelf
attribute [local go_sem] Oper.semAt_some

theorem infoHead : (Try.prog.info? 35).map (fun i => (i.zero, i.size, i.bytes)) = some (some (.agg HeadP.zero.cells), 15, 120) := by kernel_rfl
theorem info_partsH {i : Option TypeInfo} {z : Value} {s b : Nat} (h : i.map (fun i => (i.zero, i.size, i.bytes)) = some (some z, s, b)) : ∃ i0, i = some i0 ∧ i0.zero = some z ∧ i0.size = s ∧ i0.bytes = b := by
  cases i with
  | none => cases h
  | some i0 => simp at h; exact ⟨i0, rfl, h.1, h.2.1, h.2.2⟩
theorem headsOf_any (v : Option Addr) (w : World) : Calls Try.prog 46 #[.pointer v] w fun e w' => e = .returned (.func (.func 66) #[] #[.pointer (some ⟨w.heap.size, 0, none⟩)]) ∧ w.alloc (.cells #[.pointer v] 46) = w' := by
  go_enter Try.func46, Try.ntmps46
  go_wp2
  go_ret
  exact ⟨rfl, rfl⟩
/-- What Heads leaves. -/
def HeadsAt (d : Dev) (W : World) (e : Ending) (W' : World) : Prop := ∃ v, e = .returned v ∧ W'.ownsRow W.heap.size 35 15 v (headsTo d 2).length (rowsH (sortH (headsTo d 2))) ∧ Below W.heap.size W W'

set_option maxRecDepth 100000 in
set_option maxHeartbeats 8000000 in
theorem heads_here {w0 w : World} {D : Nat} {d : Dev} (h : DevHere w0 D d w) : Calls Try.prog 16 #[.pointer (some ⟨D, 0, none⟩)] w (HeadsAt d w) := by
  obtain ⟨i0, hi, hz0, hz1, hz2⟩ := info_partsH infoHead
  have HH := Lib.hid h
  clear h
  refine (callsIn_wide (n := 3)).1 ?_
  refine callsIn_of_wp_marks Try.func16 rfl trivial ?_ rfl
  simp only [Try.ntmps16, List.size_toArray, List.length_cons, List.length_nil, Nat.reduceAdd, Nat.reduceSub, Array.replicate_succ, Array.replicate_zero, List.push_toArray, List.append_toArray, List.nil_append, List.cons_append]
  refine wpIn_wide.2 ?_
  go_wp2
  go_step3
  go_wp2
  go_step3
  go_wp2_with (go_at_call 46; (with_reducible refine (headsOf_any _ _).mono ?_); rintro e w' ⟨rfl, rfl⟩)
  obtain ⟨w2, hw2⟩ : ∃ w2, (w.alloc (.cells #[.slice none 0 0] 52)).alloc (.cells #[.pointer (some ⟨D, 0, none⟩)] 46) = w2 := ⟨_, rfl⟩
  have z2 : w2.heap.size = w.heap.size + 2 := by rw [← hw2]; simp
  have b2 : Below w.heap.size w w2 := by rw [← hw2]; exact ((Below.refl _ w).alloc (Nat.le_refl _) _).alloc (by simp) _
  have hbx : Boxed w2 w.heap.size 52 (.slice none 0 0) := by rw [← hw2]; exact (Boxed.new w _ _).alloc _
  have hbp : w2.heap[w.heap.size + 1]? = some (.cells #[.pointer (some ⟨D, 0, none⟩)] 46 (0, 0)) := by
    rw [← hw2]
    have := Boxed.new (w.alloc (.cells #[.slice none 0 0] 52)) 46 (.pointer (some ⟨D, 0, none⟩))
    rw [World.size_alloc] at this
    exact this
  rw [hw2]
  clear hw2
  have hn2 : w.heap.size ≤ w2.heap.size := by omega
  have HGS := Lib.hid (fun (v : Value) W (hr : W.ownsRow w.heap.size 35 15 v (headsTo d 2).length (rowsH (headsTo d 2))) => greatest_any w.heap.size (headsTo d 2) (headsTo_len d 2) v W hr)
  have HB2 := Lib.hid b2
  refine (wpIn_wide (n := 3)).1 ?_
  refine rangeFunc_seen (F := Fence.wide) (γ := List HeadP × Value) rfl (by decide) (gf := 66) (lb := #[.pointer (some ⟨w.heap.size + 1, 0, none⟩)]) rfl trivial (enters_of Try.func66 (by kernel_rfl) rfl)
    (encs := fun x : HeadP × Int => #[.agg x.1.cells, .int .i64 x.2]) (fun _ => rfl) 35 (fun x => x.1.cells) (fun x b => { tmps := #[.pointer (some ⟨D, 0, none⟩), undef, .slice none 0 0, .pointer (some ⟨w.heap.size, 0, none⟩), .pointer (some ⟨b, 0, none⟩), .int .i64 x.2, .pointer (some ⟨D, 0, none⟩), .func (.func 66) #[] #[.pointer (some ⟨w.heap.size + 1, 0, none⟩)], .agg x.1.cells, .int .i64 x.2, undef, undef, undef, undef, undef, undef, undef, undef, undef], defers := [] }) (HPre w.heap.size w.heap.size) (HBody w.heap.size w.heap.size) (HS w.heap.size w.heap.size (headsTo d 2) w2)
    (fun s W l o o' v _ hl ho h => h.turn hl ho)
    (fun s x W W' l o o1 o2 o' hn hl ho hl' ho1 h => h.turn (Nat.le_trans hn2 hn) hl ho hl' ho1)
    (fun W l o o' hn hl ho h => h.turn (Nat.le_trans hn2 hn) hl ho) ?ass ?body ?call ?done
  case ass =>
    intro l x W K hK
    unfold HeadP.cells at hK ⊢
    gi_wp2
    exact hK
  case body =>
    rintro l ⟨hs, lv⟩ x b W ⟨hv, hrow, hlen, hBx⟩ hle hbk
    have hv : Boxed W w.heap.size 52 lv := hv
    have hrow : W.ownsRow w.heap.size 35 15 lv hs.length (rowsH hs) := hrow
    have hlen : hs.length ≤ 2 := hlen
    have hbk : W.heap[b]? = some (.cells x.1.cells 35 (0, 0)) := hbk
    by_cases hx : x.2 = 0
    · have hnx : hNext hs x = hs ++ [x.1] := if_pos hx
      have e1 : (x.2 != 0) = false := by simpa using hx
      obtain ⟨d0, d1, d2, d3, d4, d5, d6, d7, d8, d9, d10, d11, d12, d13, d14⟩ := head_all (h := x.1) hbk (Below.refl _ _)
      have cB := hv.cell
      have hnew : ∀ (j : Nat) (u : Value), x.1.cells.toList[j]? = some u → (W.alloc (.cells #[.int .i64 x.1.plan.sectors, .int .i64 x.1.plan.size, .int .i64 x.1.plan.regions, .int .i64 x.1.plan.rs, .int .i64 x.1.plan.log, .int .i64 x.1.plan.depth, .int .i64 x.1.plan.memory, .int .u64 (U x.1.plan.seed), .int .i64 x.1.gen, .int .i64 x.1.page, .int .i64 x.1.stamp, .int .i64 x.1.depth, .int .i64 x.1.log, .int .i64 x.1.region, .int .i64 x.1.time] 35)).cell? ((⟨W.heap.size, 0, none⟩ : Addr).add j) = some u := by
        intro j u hj
        rw [add_plain, Nat.zero_add, blk_cell (heap_alloc_new _ _)]
        rw [Array.getElem?_toList] at hj
        exact hj
      have HROW := Lib.hid hrow
      have HBX := Lib.hid hv
      have HLE := Lib.hid (show w.heap.size ≤ W.heap.size from Nat.le_trans hn2 hle)
      have HLN := Lib.hid hlen
      have HNEW := Lib.hid hnew
      have HNX := Lib.hid hnx
      clear hv hrow hlen hBx hle hbk hnew hbx hbp b2 z2 hx hnx
      gi_wp2_with (gi_at_builtin; (refine wpListIn_append_own_at _ rfl _ _ 52 rfl w.heap.size 35 i0 _ 15 120 Try.underlying52 hi hz0 hz1 hz2 rfl (by decide) lv hs.length (rowsH hs) rfl (HROW.out.alloc _) ⟨W.heap.size, 0, none⟩ 1 1 x.1.cells.toList rfl rfl HNEW.out x.1.one (by have := HLN.out; unfold maxLen; omega) (by have := HLN.out; omega) (by have := HLE.out; simp; omega) ?_); intro v' w1 hown hgrow hnil hat; obtain ⟨g, cc, rfl⟩ := ownsRow_succ hown; obtain ⟨r1, r2, r3, r4, r5⟩ := Boxed.appended HBX.out (by decide) HROW.out HLE.out (Nat.le_refl _) hown hgrow; have cB1 := r1.cell; have fB1 := r1.frozen; have HR2 := Lib.hid r2; have HR3 := Lib.hid r3; have HR4 := Lib.hid r4; have HR5 := Lib.hid r5; have HGR := Lib.hid hgrow; clear hown hgrow hnil hat r1 r2 r3 r4 r5)
      refine ⟨HR4.out.from _, ⟨_, HR2.out, ?_, HR5.out, ((KeepsAt.alloc W _).trans (KeepsAt.grown HGR.out (fun k e h => h.2 e))).trans (KeepsAt.setCell _ _ _ (fun h => h.1 rfl))⟩⟩
      show World.ownsRow _ _ _ _ _ (hNext hs x).length (rowsH (hNext hs x))
      rw [HNX.out, rowsH_snoc, List.length_append, List.length_singleton]
      exact HR3.out
    · have hnx : hNext hs x = hs := if_neg hx
      have e1 : (x.2 != 0) = true := by simpa using hx
      have HF : Hid (KeepsFrom w2.heap.size W W ∧ HBody w.heap.size w.heap.size (hs, lv) x W W) := ⟨KeepsFrom.refl _ _, lv, hv, by show W.ownsRow _ _ _ _ (hNext hs x).length (rowsH (hNext hs x)); rw [hnx]; exact hrow, Below.refl _ _, KeepsAt.refl _ _⟩
      clear hv hrow hlen hBx hle hbk hbx hbp b2 z2 hx hnx
      gi_wp2
      exact HF.out
  case call =>
    intro l Rdy W0 hB hR h0 hY
    have hlt : w.heap.size + 1 < w2.heap.size := by omega
    refine (headsOf1_seen l (w.heap.size + 1) w.heap.size w.heap.size D d w0 W0 Rdy ((hB.block _ hlt).trans hbp) (by omega) (Nat.le_trans hn2 hB.size) (fun V hV => HH.out.on ((HB2.out.trans (hB.mono hn2)).trans hV)) hR h0 ((hB.block _ (by omega)).trans hbx) (Nat.le_refl _) (fun s x W hr hle hp => hY s x W hr (Nat.le_trans hB.size hle) hp)).mono ?_
    rintro e W' ⟨he, hr, v, h2, h3, h5⟩
    exact ⟨he, hr, v, h2, h3, (hB.mono hn2).trans h5⟩
  case done =>
    rintro D2 W hD ⟨v, h2, h3, h5⟩ hK
    have hc := h2.cell
    have hne := own_ne h3 h2 (by decide)
    have hnd : v.ownBlock ≠ some D2 := by
      intro e
      rcases h3.2 with ⟨rfl, _⟩ | ⟨g, cap, cur, rfl, _, hg, _⟩
      · cases e
      · obtain rfl : g = D2 := by simpa [Value.ownBlock] using e
        rw [hg] at hK; cases hK
    have HC := Lib.hid (HGS.out v W h3)
    have HX : Hid (∀ w4, Moves (fun k => v.ownBlock = some k) W w4 → w4.cell? ⟨w.heap.size, 0, none⟩ = some v ∧ w4.heap[D2]? = some (.deferred (some [])) ∧ Below w.heap.size W w4) := fun w4 hm =>
      ⟨(hm.cell (p := ⟨w.heap.size, 0, none⟩) (blk_lt h2) hne).trans hc, (hm.block D2 (blk_lt hK) hnd).trans hK, hm.below (fun i e => (h3.lt i e).1) (by have := h5.size; omega)⟩
    have HH5 := Lib.hid h5
    have HB := Lib.hid b2
    have HDD := Lib.hid hD
    clear h2 h3 h5 hK hne hnd hbx hbp b2 z2 hD
    go_wp2_with (go_at_call 47; (with_reducible refine HC.out.mono ?_); rintro e w4 ⟨rfl, hr, hm⟩; obtain ⟨c4, hk4, hb4⟩ := HX.out _ hm; have HR := Lib.hid hr; have HK4 := Lib.hid hk4; have HB4 := Lib.hid hb4; clear hr hm hk4 hb4)
    rw [Exit.noGoto_ret]
    refine ⟨by simp, .inl ⟨_, _, rfl, run_takeDeferred HK4.out, ?_⟩⟩
    refine ⟨_, results_tmp rfl _ _ _, v, rfl, ownsRow_putObj HR.out _ HK4.out rfl, ?_⟩
    exact (HB.out.trans (HH5.out.trans HB4.out)).trans ((Below.refl _ w4).grown (grownBy_putObj' _ D2 _) (by have := blk_lt HK4.out; have := HDD.out; omega) (fun k e => by cases e; have := HDD.out; omega))
end Go.Proofs.Ytfdipeaddofjaaa
namespace Go.Proofs.Ytfdipeaddofjaaa
open Go.RowKit
attribute [-go_sem] Instr.build Instr.fill

theorem load_res (w : World) (z : Nat) (x : HeadP) (n : Int) (a : Act) (h : w.heap[z]? = some (.cells x.cells 35 (0, 0))) (h2 : a.tmps.getD 2 undef = .pointer (some ⟨z, 0, none⟩)) (h3 : a.tmps.getD 3 undef = .int .i64 n) :
    (results Try.f19 a.tmps).run Try.prog w = .ok (.tuple #[.agg x.cells, .int .i64 n]) w := by
  have h2' : a.tmps[2]?.getD undef = .pointer (some ⟨z, 0, none⟩) := by simpa using h2
  have h3' : a.tmps[3]?.getD undef = .int .i64 n := by simpa using h3
  simp [results, Try.results19, h2', h3', asAddr, run_loadVar_row w z 35 35 x.cells (0, 0) _ h Try.underlying35 rfl (kh_sz x)]
@[local go_sem] theorem build_zeroL (W : World) : (Instr.build 35 #[]).run Try.prog W = .ok (.agg HeadP.zero.cells) W := run_build W _ _ _ (by kernel_rfl)
/-- The newest head. -/
def loadH (d : Dev) : HeadP := (sortH (headsTo d 2)).headD HeadP.zero
def loadErr (d : Dev) : Int := if headsTo d 2 = [] then 15 else 0
/-- What Load leaves. -/
def Loaded (x : HeadP) (er : Int) (W : World) (e : Ending) (W' : World) : Prop := e = .returned (.tuple #[.agg x.cells, .int .i64 er]) ∧ Below W.heap.size W W'

set_option maxRecDepth 100000 in
set_option maxHeartbeats 2000000 in
theorem load_nil (W : World) : Calls Try.prog 19 #[.pointer none] W (Loaded HeadP.zero 1 W) := by
  have HZ0 : Hid ((W.alloc (.cells HeadP.zero.cells 35)).heap[W.heap.size]? = some (.cells HeadP.zero.cells 35 (0, 0))) := heap_alloc_new _ _
  have HB0 : Hid (Below W.heap.size W (W.alloc (.cells HeadP.zero.cells 35))) := (Below.refl _ _).alloc (Nat.le_refl _) _
  go_enter Try.func19, Try.ntmps19
  go_upto_region 1 with (fail)
  change (Code.region _ _ _).wp _ _ _ (W.alloc (.cells HeadP.zero.cells 35))
  generalize W.alloc (.cells HeadP.zero.cells 35) = w0 at *
  go_upto_region 2 with (fail)
  refine wp_region_list ?_
  refine wpList_plain rfl fun KK hKK => ?_
  go_simp
  refine hKK _ _ ?_
  clear hKK KK
  refine wpList_store_row (o := ⟨none, _, _, _, _, _⟩) rfl 35 (.tmp 2) (.tmp 8) rfl W.heap.size HeadP.zero.cells rfl rfl 35 HeadP.zero.cells HZ0.out (kh_sz _) rfl (kh_one _) ?_
  go_wp2
  have hend : (w0.setRow W.heap.size HeadP.zero.cells).heap[W.heap.size]? = some (.cells HeadP.zero.cells 35 (0, 0)) := setRow_heap _ _ _ _ _ _ HZ0.out
  exact bodyPost_ret (v := .tuple #[.agg HeadP.zero.cells, .int .i64 1]) (load_res _ W.heap.size _ _ _ hend rfl rfl) rfl ⟨rfl, below_setRow HB0.out (Nat.le_refl _) _⟩

set_option maxRecDepth 100000 in
set_option maxHeartbeats 4000000 in
theorem load_here {w W : World} {D : Nat} {d : Dev} (h : DevHere w D d W) : Calls Try.prog 19 #[.pointer (some ⟨D, 0, none⟩)] W (Loaded (if d.down then HeadP.zero else loadH d) (if d.down then 4 else loadErr d) W) := by
  have HZ0 : Hid ((W.alloc (.cells HeadP.zero.cells 35)).heap[W.heap.size]? = some (.cells HeadP.zero.cells 35 (0, 0))) := heap_alloc_new _ _
  have HB0 : Hid (Below W.heap.size W (W.alloc (.cells HeadP.zero.cells 35))) := (Below.refl _ _).alloc (Nat.le_refl _) _
  have HD0 := Lib.hid (h.on HB0.out)
  have HDO := Lib.hid (here_down HD0.out)
  have HHS := Lib.hid (heads_here HD0.out)
  clear h
  cases hd : d.down with
  | true =>
    rw [hd] at HDO
    clear hd HHS
    go_enter Try.func19, Try.ntmps19
    go_upto_region 1 with (fail)
    change (Code.region _ _ _).wp _ _ _ (W.alloc (.cells HeadP.zero.cells 35))
    generalize W.alloc (.cells HeadP.zero.cells 35) = w0 at *
    go_upto_region 4 with (go_at_call 53; (with_reducible refine HDO.out.mono ?_); rintro e w' ⟨rfl, rfl⟩)
    refine wp_region_list ?_
    refine wpList_plain rfl fun KK hKK => ?_
    go_simp
    refine hKK _ _ ?_
    clear hKK KK
    refine wpList_store_row (o := ⟨none, _, _, _, _, _⟩) rfl 35 (.tmp 2) (.tmp 12) rfl W.heap.size HeadP.zero.cells rfl rfl 35 HeadP.zero.cells HZ0.out (kh_sz _) rfl (kh_one _) ?_
    go_wp2
    have hend : (w0.setRow W.heap.size HeadP.zero.cells).heap[W.heap.size]? = some (.cells HeadP.zero.cells 35 (0, 0)) := setRow_heap _ _ _ _ _ _ HZ0.out
    exact bodyPost_ret (v := .tuple #[.agg HeadP.zero.cells, .int .i64 4]) (load_res _ W.heap.size _ _ _ hend rfl rfl) rfl ⟨rfl, below_setRow HB0.out (Nat.le_refl _) _⟩
  | false =>
    rw [hd] at HDO
    have hlen := headsTo_len d 2
    have hsl := sortH_len (headsTo d 2) hlen
    show Calls _ _ _ _ (Loaded (loadH d) (loadErr d) W)
    clear hd
    cases hhs : headsTo d 2 with
    | nil =>
      have HR : Hid (loadH d = HeadP.zero ∧ loadErr d = 15) := by unfold Hid loadH loadErr; rw [hhs]; exact ⟨rfl, rfl⟩
      have HHS : Hid (Calls Try.prog 16 #[.pointer (some ⟨D, 0, none⟩)] (W.alloc (.cells HeadP.zero.cells 35)) fun e W' => ∃ a c, e = .returned (.slice a 0 c) ∧ Below (W.alloc (.cells HeadP.zero.cells 35)).heap.size (W.alloc (.cells HeadP.zero.cells 35)) W') := HHS.out.mono fun e W' ⟨v, he, hr, hb⟩ => by
        rw [hhs] at hr
        obtain ⟨a, c, rfl⟩ := owns_slice hr
        exact ⟨a, c, he, hb⟩
      clear hhs hlen hsl
      go_enter Try.func19, Try.ntmps19
      go_upto_region 1 with (fail)
      change (Code.region _ _ _).wp _ _ _ (W.alloc (.cells HeadP.zero.cells 35))
      generalize W.alloc (.cells HeadP.zero.cells 35) = w0 at *
      go_upto_region 7 with (first
        | (go_at_call 53; (with_reducible refine HDO.out.mono ?_); rintro e w' ⟨rfl, rfl⟩)
        | (go_at_call 16; (with_reducible refine HHS.out.mono ?_); rintro e w1 ⟨a, c, rfl, hb⟩; have HB1 := Lib.hid hb; clear hb))
      have hz1 := (HB1.out.block _ (blk_lt HZ0.out)).trans HZ0.out
      have HZ1 := Lib.hid hz1
      clear hz1
      refine wp_region_list ?_
      refine wpList_plain rfl fun KK hKK => ?_
      go_simp
      refine hKK _ _ ?_
      clear hKK KK
      refine wpList_store_row (o := ⟨none, _, _, _, _, _⟩) rfl 35 (.tmp 2) (.tmp 18) rfl W.heap.size HeadP.zero.cells rfl rfl 35 HeadP.zero.cells HZ1.out (kh_sz _) rfl (kh_one _) ?_
      go_wp2
      have hend : (w1.setRow W.heap.size HeadP.zero.cells).heap[W.heap.size]? = some (.cells HeadP.zero.cells 35 (0, 0)) := setRow_heap _ _ _ _ _ _ HZ1.out
      exact bodyPost_ret (v := .tuple #[.agg HeadP.zero.cells, .int .i64 15]) (load_res _ W.heap.size _ _ _ hend rfl rfl) rfl ⟨by rw [HR.out.1, HR.out.2], below_setRow (HB0.out.trans (HB1.out.mono HB0.out.size)) (Nat.le_refl _) _⟩
    | cons y ys =>
      obtain ⟨x, xs, hxs⟩ : ∃ x xs, sortH (headsTo d 2) = x :: xs := by
        cases hq : sortH (headsTo d 2) with
        | nil => rw [hq, hhs] at hsl; simp at hsl
        | cons x xs => exact ⟨x, xs, rfl⟩
      have HR : Hid (loadH d = x ∧ loadErr d = 0) := by
        unfold Hid loadH loadErr
        rw [hxs, hhs]
        exact ⟨rfl, rfl⟩
      obtain ⟨n, hn⟩ : ∃ n, (headsTo d 2).length = n := ⟨_, rfl⟩
      have hn1 : 1 ≤ n := by rw [← hn, hhs]; simp
      have hn2 : n ≤ 2 := by omega
      have HHS : Hid (Calls Try.prog 16 #[.pointer (some ⟨D, 0, none⟩)] (W.alloc (.cells HeadP.zero.cells 35)) fun e W' => ∃ g c, e = .returned (.slice (some ⟨g, 0, none⟩) n c) ∧ W'.ownsRow (W.alloc (.cells HeadP.zero.cells 35)).heap.size 35 15 (.slice (some ⟨g, 0, none⟩) n c) n (rowsH (x :: xs)) ∧ Below (W.alloc (.cells HeadP.zero.cells 35)).heap.size (W.alloc (.cells HeadP.zero.cells 35)) W') := HHS.out.mono fun e W' ⟨v, he, hr, hb⟩ => by
        rw [hxs, hn] at hr
        obtain ⟨g, c, rfl, _⟩ := slice_cells hr (by omega)
        exact ⟨g, c, he, hr, hb⟩
      have m1 : (1 : Int) ≤ n := by omega
      have m3 : 0 < n := hn1
      have m2 : ((n : Int) == 0) = false := by rw [beq_eq_false_iff_ne]; omega
      clear hhs hlen hsl hxs hn
      go_enter Try.func19, Try.ntmps19
      go_upto_region 1 with (fail)
      change (Code.region _ _ _).wp _ _ _ (W.alloc (.cells HeadP.zero.cells 35))
      generalize W.alloc (.cells HeadP.zero.cells 35) = w0 at *
      go_upto_region 8 with (first
        | (go_at_call 53; (with_reducible refine HDO.out.mono ?_); rintro e w' ⟨rfl, rfl⟩)
        | (go_at_call 16; (with_reducible refine HHS.out.mono ?_); rintro e w1 ⟨g, c, rfl, hr, hb⟩; have HB1 := Lib.hid hb; have HRW := Lib.hid hr; clear hb hr))
      have HZ1 := Lib.hid ((HB1.out.block _ (blk_lt HZ0.out)).trans HZ0.out)
      have hcell : ∀ (j : Nat) (u : Value), x.cells.toList[j]? = some u → w1.cell? ⟨g, j, none⟩ = some u := by
        intro j u hj
        have hj2 : (rowsH (x :: xs))[j]? = some u := by
          unfold rowsH
          rw [List.flatMap_cons, List.getElem?_append_left (List.getElem?_eq_some_iff.1 hj).1]
          exact hj
        have := HRW.out.cells rfl _ _ hj2
        rwa [add_plain, Nat.zero_add] at this
      obtain ⟨d0, d1, d2, d3, d4, d5, d6, d7, d8, d9, d10, d11, d12, d13, d14⟩ := And.intro (hcell 0 _ rfl) (And.intro (hcell 1 _ rfl) (And.intro (hcell 2 _ rfl) (And.intro (hcell 3 _ rfl) (And.intro (hcell 4 _ rfl) (And.intro (hcell 5 _ rfl) (And.intro (hcell 6 _ rfl) (And.intro (hcell 7 _ rfl) (And.intro (hcell 8 _ rfl) (And.intro (hcell 9 _ rfl) (And.intro (hcell 10 _ rfl) (And.intro (hcell 11 _ rfl) (And.intro (hcell 12 _ rfl) (And.intro (hcell 13 _ rfl) (hcell 14 _ rfl))))))))))))))
      clear hcell
      refine wp_region_list ?_
      refine wpList_plain rfl fun KK hKK => ?_
      go_simp
      refine hKK _ _ ?_
      clear hKK KK
      refine wpList_plain rfl fun KK hKK => ?_
      go_simp
      refine hKK _ _ ?_
      clear hKK KK
      refine wpList_plain rfl fun KK hKK => ?_
      go_simp
      refine hKK _ _ ?_
      clear hKK KK
      refine wpList_store_row (o := ⟨none, _, _, _, _, _⟩) rfl 35 (.tmp 2) (.tmp 21) rfl W.heap.size x.cells rfl rfl 35 HeadP.zero.cells HZ1.out (kh_sz _) rfl (kh_one _) ?_
      go_wp2
      have hend : (w1.setRow W.heap.size x.cells).heap[W.heap.size]? = some (.cells x.cells 35 (0, 0)) := setRow_heap _ _ _ _ _ _ HZ1.out
      exact bodyPost_ret (v := .tuple #[.agg x.cells, .int .i64 0]) (load_res _ W.heap.size _ _ _ hend rfl rfl) rfl ⟨by rw [HR.out.1, HR.out.2], below_setRow (HB0.out.trans (HB1.out.mono HB0.out.size)) (Nat.le_refl _) _⟩
end Go.Proofs.Ytfdipeaddofjaaa

/-
  flash: Crash.
  Conditions: none.
-/
import Derived.Test.YtadglpnmhpmebaaFlash11
import Derived.Laws.CopyOwn
namespace Go.Proofs.Ytadglpnmhpmebaa
open Go.RowKit

/-- A row of numbers in a block that is none of O. -/
def IntsOff (O : Foot) (w : World) (v : Value) (fs : List Int) : Prop :=
  ∃ a cap, v = .slice a fs.length cap ∧ (fs = [] ∨ ∃ g off, a = some ⟨g, off, none⟩ ∧ g < w.heap.size ∧ ¬ O g ∧ ∀ j, j < fs.length → w.cell? ⟨g, off + j, none⟩ = some (.int .i64 (fs[j]?.getD 0)))
theorem IntsOff.nil (O : Foot) (w : World) : IntsOff O w (.slice none 0 0) [] := ⟨none, 0, rfl, .inl rfl⟩

/-- The beginning of a loose write done. -/
def Dev.patch (d : Dev) (x : (Nat × List (BitVec 8)) × Int) : Dev := d.put x.1.1 (x.1.2.take (doneOf d.size x.2) ++ (d.fast x.1.1).drop (doneOf d.size x.2))
def Dev.patches (d : Dev) (l : List ((Nat × List (BitVec 8)) × Int)) : Dev := l.foldl Dev.patch d
theorem patches_snoc (d : Dev) (l : List ((Nat × List (BitVec 8)) × Int)) (x : (Nat × List (BitVec 8)) × Int) : d.patches (l ++ [x]) = (d.patches l).patch x := by simp [Dev.patches]
theorem patches_same (d : Dev) (l : List ((Nat × List (BitVec 8)) × Int)) : (d.patches l).loose = d.loose ∧ (d.patches l).sectors = d.sectors ∧ (d.patches l).size = d.size ∧ (d.patches l).past = d.past ∧ (d.patches l).armed = d.armed ∧ (d.patches l).acts = d.acts ∧ (d.patches l).down = d.down := by
  induction l generalizing d with
  | nil => exact ⟨rfl, rfl, rfl, rfl, rfl, rfl, rfl⟩
  | cons y l ih => exact ih _
/-- A crash. -/
def Dev.crash (d : Dev) (fs : List Int) : Dev := { ((d.patches (d.loose.zip fs)).forget) with armed := 0, down := false }

theorem own_splice {w w3 : World} {base g n cap : Nat} {bs xs : List (BitVec 8)} {cur : Array Value} (h : w.ownsRow base 5 1 (.slice (some ⟨g, 0, none⟩) n cap) n (cellsOf bs)) (hg : w.heap[g]? = some (.cells cur 5 (0, 0)))
    (h3 : w3.heap[g]? = some (.cells (splice cur.toList 0 (cellsOf xs)).toArray 5 (0, 0))) (hx : xs.length ≤ n) : w3.ownsRow base 5 1 (.slice (some ⟨g, 0, none⟩) n cap) n (cellsOf (xs ++ bs.drop xs.length)) := by
  obtain ⟨h1, h2⟩ := h
  rcases h2 with ⟨h2, _⟩ | ⟨g', cap', cur', hv, hb, hg', hn, hc, hs, ht⟩
  · cases h2
  · simp only [Value.slice.injEq, Option.some.injEq, Addr.mk.injEq] at hv
    obtain ⟨⟨rfl, _⟩, _, rfl⟩ := hv
    rw [hg] at hg'
    simp only [Option.some.injEq, Obj.cells.injEq, and_true] at hg'
    subst hg'
    rw [cellsOf_len] at h1
    have hbl : bs.length = n := by omega
    have hcs : cur.toList.length = cap := by simpa using hs
    refine ⟨by rw [cellsOf_len, List.length_append, List.length_drop]; omega, .inr ⟨g, cap, _, rfl, hb, h3, hn, hc, ?_, ?_⟩⟩
    · simp only [List.size_toArray]
      rw [length_splice _ _ _ (by rw [cellsOf_len]; omega)]
      omega
    · show (splice cur.toList 0 (cellsOf xs)).take (n * 1) = _
      unfold splice
      rw [List.take_zero, List.nil_append, Nat.zero_add, cellsOf_len, cellsOf_append, Nat.mul_one, List.take_append, cellsOf_len, List.take_of_length_le (by rw [cellsOf_len]; exact hx)]
      congr 1
      rw [← List.drop_take, show cellsOf (bs.drop xs.length) = (cellsOf bs).drop xs.length by simp [cellsOf, List.map_drop], ← ht, Nat.mul_one]
theorem sizeU8 : (Try.prog.info? 5).map (·.size) = some 1 := by kernel_rfl
theorem own_block {w : World} {base g n cap size : Nat} {e : TypeId} {xs : List Value} (h : w.ownsRow base e size (.slice (some ⟨g, 0, none⟩) n cap) n xs) : ∃ cur, w.heap[g]? = some (.cells cur e (0, 0)) ∧ base ≤ g ∧ n ≤ cap ∧ cur.size = cap * size := by
  rcases h.2 with ⟨h2, _⟩ | ⟨g', cap', cur', hv, hb, hg', hn, hc, hs, ht⟩
  · cases h2
  · simp only [Value.slice.injEq, Option.some.injEq, Addr.mk.injEq] at hv
    obtain ⟨⟨rfl, _⟩, _, rfl⟩ := hv
    exact ⟨cur', hg', hb, hn, hs⟩

/-- The last two stores. -/
theorem crash_end {n₀ : Nat} {O O2 : Foot} {w w2 : World} {D : Nat} {d : Dev} (h : DevAt n₀ O2 w2 D d) (hs : Step O O2 w w2) : ∀ e W, e = Ending.returned (.tuple #[]) → W = (w2.setCell ⟨D, 6, none⟩ (.int .i64 0)).setCell ⟨D, 8, none⟩ (.bool false) → DevLeft n₀ O w D { d with armed := 0, down := false } (.tuple #[]) e W := by
  rintro e W rfl rfl
  obtain ⟨F, P, L, lv, fm, pm, lm, h⟩ := h
  have hm : Moves (fun k => k = D) w2 ((w2.setCell ⟨D, 6, none⟩ (.int .i64 0)).setCell ⟨D, 8, none⟩ (.bool false)) := ((Moves.refl (fun k => k = D) w2).setCell (p := ⟨D, 6, none⟩) (fun _ => rfl) _).setCell (p := ⟨D, 8, none⟩) (fun _ => rfl) _
  have h2 := h.turn hm 0 d.acts false (devSet (devSet h.blk 6 _) 8 _)
  exact ⟨rfl, O2, ⟨F, P, L, lv, fm, pm, lm, h2⟩, hs.trans ⟨hm.mono (fun i _ e => by rw [e]; exact h.oD), fun _ hk => .inl hk⟩⟩

theorem zip_take_succ {α β : Type} (l : List α) (m : List β) (k : Nat) (x : α) (y : β) (hx : l[k]? = some x) (hy : m[k]? = some y) : (l.zip m).take (k + 1) = (l.zip m).take k ++ [(x, y)] := by
  have h1 := (List.getElem?_eq_some_iff.1 hx)
  have h2 := (List.getElem?_eq_some_iff.1 hy)
  obtain ⟨h1, rfl⟩ := h1
  obtain ⟨h2, rfl⟩ := h2
  rw [List.take_succ_eq_append_getElem (by simp; omega)]
  simp

/-- Between two rounds of a crash. -/
def CrashAt (n₀ : Nat) (O : Foot) (w : World) (D F P L : Nat) (lv : Value) (pm lm : List (Int × Value)) (d : Dev) (fs : List Int) (k : Nat) (wr : World) : Prop :=
  ∃ O' fm', DevParts n₀ O' wr D F P L lv fm' pm lm (d.patches ((d.loose.zip fs).take k)) ∧ Step O O' w wr

/-- A round's end. -/
theorem crash_step {n₀ : Nat} {O O' : Foot} {w wr w3 : World} {D F P L : Nat} {lv : Value} {fm pm lm : List (Int × Value)} {d : Dev} {fs : List Int} {k g cap : Nat} {x : Nat × List (BitVec 8)} {f : Int} {cur : Array Value} {wB : World}
    (h : DevParts n₀ O' wr D F P L lv fm pm lm (d.patches ((d.loose.zip fs).take k))) (hs : Step O O' w wr) (hn : n₀ ≤ wr.heap.size) (hx : d.loose[k]? = some x) (hf : fs[k]? = some f)
    {b0 : Nat} (hb0 : wr.heap.size ≤ b0) (hrow : wB.ownsRow b0 5 1 (.slice (some ⟨g, 0, none⟩) d.size cap) d.size (cellsOf ((d.patches ((d.loose.zip fs).take k)).fast x.1))) (hg : wB.heap[g]? = some (.cells cur 5 (0, 0)))
    (h3 : w3.heap[g]? = some (.cells (splice cur.toList 0 (cellsOf (x.2.take (doneOf d.size f)))).toArray 5 (0, 0))) (hb : Below wr.heap.size wr w3) :
    Calls Try.prog 34 #[.pointer (some ⟨D, 0, none⟩), .int .i64 (x.1 : Int), .slice (some ⟨g, 0, none⟩) d.size cap] w3 fun e w' => e = .returned (.tuple #[]) ∧ CrashAt n₀ O w D F P L lv pm lm d fs (k + 1) w' ∧ wr.heap.size ≤ w'.heap.size := by
  have hsame := patches_same d ((d.loose.zip fs).take k)
  have hl : (d.patches ((d.loose.zip fs).take k)).loose = d.loose := hsame.1
  have hz : (d.patches ((d.loose.zip fs).take k)).size = d.size := hsame.2.2.1
  have hxs := h.llen x (by rw [hl]; exact List.mem_of_getElem? hx)
  rw [hz] at hxs
  have hle := doneOf_le d.size f
  have htl : (x.2.take (doneOf d.size f)).length = doneOf d.size f := by rw [List.length_take]; omega
  have hr := own_splice hrow hg h3 (by rw [htl]; exact hle)
  rw [htl] at hr
  have hlen : (x.2.take (doneOf d.size f) ++ ((d.patches ((d.loose.zip fs).take k)).fast x.1).drop (doneOf d.size f)).length = d.size := by
    have := h.len x.1
    rw [List.length_append, htl, List.length_drop, this, hz]; omega
  have hsz := hb.size
  have hd := (h.keep (Same.of_below hb h.inn)).widen (Q := fun j => O' j ∨ (wr.heap.size ≤ j ∧ j < w3.heap.size)) (fun _ h => .inl h) (fun j hj => hj.elim (fun e => by have := h.inn j e; omega) (fun e => e.2)) (fun j hj => hj.elim (h.lo j) (fun e => by omega))
  have hbi : BytesIn (fun j => O' j ∨ (wr.heap.size ≤ j ∧ j < w3.heap.size)) w3 (.slice (some ⟨g, 0, none⟩) d.size cap) (x.2.take (doneOf d.size f) ++ ((d.patches ((d.loose.zip fs).take k)).fast x.1).drop (doneOf d.size f)) := by
    refine BytesIn.of_owns (base := b0) ?_ (fun j h1 h2 => .inr ⟨by omega, h2⟩)
    rw [hlen]; exact hr
  refine (setFast_parts hd x.1 hxs.1 _ _ hbi (by rw [hlen, hz])).mono ?_
  rintro e w' ⟨he, ⟨fm2, hp2⟩, hm2⟩
  refine ⟨he, ⟨(fun j => O' j ∨ (wr.heap.size ≤ j ∧ j < w3.heap.size)), fm2, ?_, hs.trans ⟨?_, ?_⟩⟩, Nat.le_trans hsz hm2.size⟩
  · rw [zip_take_succ _ _ k x f hx hf, patches_snoc]
    unfold Dev.patch
    rw [hz]
    exact hp2
  · exact (Moves.of_below (S := O') hb).trans hm2 (fun i hi e => by rw [e]; exact h.oF)
  · exact fun j hj => hj.imp id (fun e => e.1)

set_option maxRecDepth 100000 in
set_option maxHeartbeats 4000000 in
theorem crash_any (n₀ : Nat) (O : Foot) (w : World) (D : Nat) (d : Dev) (h : DevAt n₀ O w D d) (u : Value) (fs : List Int) (hu : IntsOff O w u fs) (hn : n₀ ≤ w.heap.size) (hll : d.loose.length ≤ 1099511627776) (hfl : fs.length ≤ 1099511627776) :
    Calls Try.prog 17 #[.pointer (some ⟨D, 0, none⟩), u] w (DevLeft n₀ O w D (d.crash fs) (.tuple #[])) := by
  obtain ⟨F, P, L, lv, fm, pm, lm, h⟩ := h
  obtain ⟨ls, hlrow, _, _⟩ := h.loose
  obtain ⟨la, lc, hlv⟩ := owns_slice hlrow
  have c4 : w.cell? ⟨D, 4, none⟩ = some (.slice la d.loose.length lc) := by rw [← hlv]; exact blk_cell h.blk 4
  have hin := h.inn
  obtain ⟨fa, fc, rfl, hfs⟩ := hu
  have l1 : (d.loose.length : Int) ≤ 1099511627776 := by omega
  have l2 : (fs.length : Int) ≤ 1099511627776 := by omega
  have HIN := Lib.hid hin
  have HLV := Lib.hid hlv
  have hst : CrashAt n₀ O w D F P L lv pm lm d fs 0 w := ⟨O, fm, by simpa [Dev.patches] using h, Step.refl _ _⟩
  have HST := Lib.hid hst
  have HFIN : Hid (∀ k wr, CrashAt n₀ O w D F P L lv pm lm d fs k wr → (d.loose.length ≤ k ∨ fs.length ≤ k) → ∀ W, Below wr.heap.size wr W → Calls Try.prog 35 #[.pointer (some ⟨D, 0, none⟩)] W fun e w2 => e = .returned (.tuple #[]) ∧ ∃ O2, DevAt n₀ O2 w2 D ((d.patches (d.loose.zip fs)).forget) ∧ Step O O2 w w2) := by
    rintro k wr ⟨O', fm', hp, hs⟩ hk W hW
    have e1 : (d.loose.zip fs).take k = d.loose.zip fs := List.take_of_length_le (by rw [List.length_zip]; omega)
    rw [e1] at hp
    refine (forget_any n₀ O' W D _ ⟨F, P, L, lv, fm', pm, lm, hp.keep (Same.of_below hW hp.inn)⟩).mono ?_
    rintro e w2 ⟨he, hd, hs2⟩
    exact ⟨he, O', hd, hs.trans (Step.behind hW hs2)⟩
  clear h hlrow hlv hin hst
  go_enter Try.func17, Try.ntmps17
  go_wp2
  go_loopw [14] (fun iv wr => ∃ k : Nat, k ≤ d.loose.length ∧ k ≤ fs.length ∧ iv = .int .i64 k ∧ CrashAt n₀ O w D F P L lv pm lm d fs k wr ∧ w.heap.size ≤ wr.heap.size) (fun iv _ => d.loose.length - (intOf iv).toNat)
  case atStart => exact ⟨0, Nat.zero_le _, Nat.zero_le _, rfl, HST.out, Nat.le_refl _⟩
  case round =>
    obtain ⟨k, hk, hkf, rfl, hC, hsz⟩ := hrel
    by_cases hlt : k < d.loose.length
    · have HC := Lib.hid hC
      obtain ⟨O', fm', hp, hs⟩ := hC
      have hsame := patches_same d ((d.loose.zip fs).take k)
      have hdl : (d.patches ((d.loose.zip fs).take k)).loose = d.loose := hsame.1
      have hdz : (d.patches ((d.loose.zip fs).take k)).size = d.size := hsame.2.2.1
      have hds : (d.patches ((d.loose.zip fs).take k)).sectors = d.sectors := hsame.2.1
      obtain ⟨cs, hrow, _, hcells⟩ := hp.loose
      rw [hdl] at hrow hcells
      obtain ⟨x, hx⟩ : ∃ x, d.loose[k]? = some x := ⟨d.loose[k], by simp [hlt]⟩
      obtain ⟨hc0, u, hu, hub⟩ := hcells k x hx
      have hxs := hp.llen x (by rw [hdl]; exact List.mem_of_getElem? hx)
      obtain ⟨g, cap, hg, _⟩ := slice_cells hrow (by omega)
      have hlv2 := HLV.out.symm.trans hg
      simp only [Value.slice.injEq] at hlv2
      obtain ⟨rfl, _, rfl⟩ := hlv2
      have q0 : wr.cell? ⟨g, k * 2, none⟩ = some (.int .i64 (x.1 : Int)) := by rw [Nat.mul_comm]; exact cell_at2 hrow (by rw [hg]; rfl) hc0
      have q1 : wr.cell? ⟨g, k * 2 + 1, none⟩ = some u := by rw [Nat.mul_comm]; exact cell_at2 hrow (by rw [hg]; rfl) hu
      have hb : Below wr.heap.size wr (wr.alloc (.cells #[.int .i64 (x.1 : Int), u] 72)) := (Below.refl _ _).alloc (Nat.le_refl _) _
      have k0 : (0 : Int) ≤ k := by omega
      have k1 : (k : Int) < d.loose.length := by omega
      obtain ⟨au, cu, rfl, hcu1, _⟩ := id hub.1
      by_cases hfl2 : k < fs.length
      · rcases hfs with hfs | ⟨gf, off, rfl, hgf, hgO, hcf⟩
        · subst hfs; simp at hfl2
        obtain ⟨f, hf⟩ : ∃ f, fs[k]? = some f := ⟨fs[k], by simp [hfl2]⟩
        have cf : wr.cell? ⟨gf, off + k, none⟩ = some (.int .i64 f) := by
          have := hcf k hfl2
          rw [hf] at this
          exact (hs.moves.cell (p := ⟨gf, off + k, none⟩) hgf hgO).trans this
        have hkx : x.1 < (d.patches ((d.loose.zip fs).take k)).sectors := hxs.1
        have hFB := fastBytes_any n₀ O' (wr.alloc (.cells #[.int .i64 (x.1 : Int), .slice au x.2.length cu] 72)) D _ ⟨F, P, L, lv, fm', pm, lm, hp.keep (Same.of_below hb hp.inn)⟩ x.1 hkx
        have hDN := fun W (hW : Below wr.heap.size wr W) => done_any n₀ O' W D _ ⟨F, P, L, lv, fm', pm, lm, hp.keep (Same.of_below hW hp.inn)⟩ f
        have hST := fun g cap cur wB w3 b0 => crash_step (g := g) (cap := cap) (cur := cur) (wB := wB) (w3 := w3) (b0 := b0) hp hs (Nat.le_trans hn hsz) hx hf
        have hub2 := hub.1
        have hlgf : gf < wr.heap.size := by omega
        rw [hdz] at hFB hDN
        have hdn := doneOf_le d.size f
        have hxl : x.2.length = d.size := by rw [← hdz]; exact hxs.2
        have hszd := hp.right.2
        rw [hdz] at hszd
        have HB := Lib.hid hb
        have HFB := Lib.hid hFB
        have HDN := Lib.hid hDN
        have HST2 := Lib.hid hST
        have HU := Lib.hid hub2
        have HXL := Lib.hid hxl
        obtain ⟨m, hm⟩ : ∃ m, doneOf d.size f = m := ⟨_, rfl⟩
        rw [hm] at HDN HST2 hdn
        obtain ⟨fb, hfb⟩ : ∃ fb, (d.patches ((d.loose.zip fs).take k)).fast x.1 = fb := ⟨_, rfl⟩
        rw [hfb] at HFB HST2
        have m1 : (m : Int) ≤ d.size := by omega
        have m2 : (m : Int) ≤ x.2.length := by omega
        have m3 : m ≤ x.2.length := by omega
        have s4 : (d.size : Int) ≤ 512 := by omega
        have kf1 : (k : Int) < fs.length := by omega
        clear hcells hrow hp hs hsame hdl hdz hds hx hub hub2 hxs hc0 hu hb hFB hDN hST hf hcf hfb hm hxl hkx
        go_upto_region 6 with (go_at_call 39; (with_reducible refine HFB.out.mono ?_); rintro e wB ⟨v, rfl, hv, hbB⟩)
        obtain ⟨gv, cv, rfl, _⟩ := slice_cells hv (by omega)
        obtain ⟨cur, hgB, hgv, hcv1, hcurs⟩ := own_block hv
        have hVB : wB.heap[wr.heap.size]? = some (.cells #[.int .i64 (x.1 : Int), .slice au x.2.length cu] 72 (0, 0)) := (hbB.block _ (by simp)).trans (heap_alloc_new wr _)
        have hBB : Below wr.heap.size wr wB := HB.out.trans (hbB.mono (by simp))
        have v1 : wB.cell? ⟨wr.heap.size, 1, none⟩ = some (.slice au x.2.length cu) := blk_cell hVB 1
        have cfB : wB.cell? ⟨gf, off + k, none⟩ = some (.int .i64 f) := (hBB.cell (p := ⟨gf, off + k, none⟩) hlgf).trans cf
        have huB := (HU.out.below hBB).pre m m3
        have hnn : (cellsOf (x.2.take m)).length = Nat.min m d.size := by rw [cellsOf_len, List.length_take, Nat.min_eq_left m3]; exact (Nat.min_eq_left hdn).symm
        have hfit : 0 + (cellsOf (x.2.take m)).length ≤ cur.toList.length := by
          have e1 : cur.toList.length = cv := by simpa using hcurs
          rw [cellsOf_len, List.length_take, e1, Nat.min_eq_left m3]; omega
        have m4 : (m : Int) ≤ cu := by omega
        have m0 : (0 : Int) ≤ m := by omega
        have h1c := cellsOf_one (x.2.take m)
        have hpos : 0 < (cellsOf (x.2.take m)).length → ∃ ad, au = some ad ∧ ∀ j v, (cellsOf (x.2.take m))[j]? = some v → wB.drew.cell? (ad.add j) = some v := by
          intro hp
          rw [cellsOf_len] at hp
          obtain ⟨a', c', e', _, _, h'⟩ := id huB
          simp only [Value.slice.injEq] at e'
          obtain ⟨rfl, _, rfl⟩ := e'
          rcases h' with h' | ⟨g', off', rfl, _⟩
          · rw [h'] at hp; simp at hp
          · exact ⟨_, rfl, huB.news.2⟩
        have HV := Lib.hid hv
        have HGB := Lib.hid hgB
        have HVB := Lib.hid hVB
        have HBB := Lib.hid hBB
        have HbB := Lib.hid hbB
        have HNN := Lib.hid hnn
        have HFIT := Lib.hid hfit
        have H1C := Lib.hid h1c
        have HPOS := Lib.hid hpos
        clear hv hgB hVB hBB hbB hnn hfit h1c hpos huB hcurs hcv1
        obtain ⟨ad, rfl⟩ : ∃ ad, au = some ad := by
          obtain ⟨a', c', e', _, _, h'⟩ := HU.out
          simp only [Value.slice.injEq] at e'
          obtain ⟨rfl, _, rfl⟩ := e'
          rcases h' with h' | ⟨g', off', rfl, _⟩
          · have := HXL.out; rw [h'] at this; simp at this; omega
          · exact ⟨_, rfl⟩
        go_region_held3 (fun W => W.cell? ⟨wr.heap.size, 1, none⟩ = some (.slice (some ad) x.2.length cu) ∧ W.cell? ⟨gf, off + k, none⟩ = some (.int .i64 f))
          (first
            | exact ⟨v1, cfB⟩
            | exact ⟨blk_cell hV3 1, (hB3.cell (p := ⟨gf, off + k, none⟩) hlgf).trans cf⟩)
          (first
            | (go_at_call 41; (with_reducible refine (HDN.out _ HBB.out.drew).mono ?_); rintro e w' ⟨rfl, rfl⟩)
            | (refine step_copy_splice rfl (.tmp 28) (.tmp 37) 42 42 rfl 5 Try.underlying42 sizeU8 (some ⟨gv, 0, none⟩) (some ad) d.size cv m cu rfl rfl gv 0 cur.toList 5 (show wB.drew.heap[gv]? = _ from HGB.out) (cellsOf (x.2.take m)) HNN.out (fun hp => ⟨rfl, HPOS.out hp⟩) HFIT.out H1C.out _ _ HbB.out.drew hgv ?_; intro w3 HG3 hb3; have hV3 : w3.heap[wr.heap.size]? = some (.cells #[.int .i64 (x.1 : Int), .slice (some ad) x.2.length cu] 72 (0, 0)) := (hb3.block _ (by simp)).trans (heap_alloc_new wr _); have hB3 : Below wr.heap.size wr w3 := HB.out.trans (hb3.mono (by simp)); have y0 : w3.cell? ⟨wr.heap.size, 0, none⟩ = some (.int .i64 (x.1 : Int)) := blk_cell hV3 0; have HSET := Lib.hid (HST2.out gv cv cur wB w3 _ (by simp) HV.out HGB.out HG3.out hB3)))
        go_wp2_with (go_at_call 34; (with_reducible refine HSET.out.mono ?_); rintro e w4 ⟨rfl, hC4, hz4⟩; have HC4 := Lib.hid hC4; clear hC4)
        go_roundw
        case rel => exact ⟨k + 1, by omega, by omega, by go_num, HC4.out, by omega⟩
        case measure => simp [intOf]; omega
      · obtain rfl : k = fs.length := by omega
        have HFG := Lib.hid (HFIN.out _ wr HC.out (.inr (Nat.le_refl _)) _ hb)
        clear hcells hrow hp hs hsame hdl hdz hds hx hub hxs hc0 hu hb
        go_wp2_with (go_at_call 35; (with_reducible refine HFG.out.mono ?_); rintro e w2 ⟨rfl, O2, hd2, hs2⟩; obtain ⟨F2, P2, L2, lv2, fm2, pm2, lm2, hd3⟩ := id hd2; have e6 := blk_cell hd3.blk 6; have e8 := blk_cell hd3.blk 8; have f6 := blk_frozen hd3.blk 6; have f8 := blk_frozen hd3.blk 8; have HD2 := Lib.hid hd2; have HS2 := Lib.hid hs2; clear hd2 hd3 hs2)
        go_end0
        exact crash_end HD2.out HS2.out _ _ rfl rfl
    · obtain rfl : k = d.loose.length := by omega
      have HFG := Lib.hid (HFIN.out _ wr hC (.inl (Nat.le_refl _)) _ (Below.refl _ _))
      clear hC
      go_wp2_with (go_at_call 35; (with_reducible refine HFG.out.mono ?_); rintro e w2 ⟨rfl, O2, hd2, hs2⟩; obtain ⟨F2, P2, L2, lv2, fm2, pm2, lm2, hd3⟩ := id hd2; have e6 := blk_cell hd3.blk 6; have e8 := blk_cell hd3.blk 8; have f6 := blk_frozen hd3.blk 6; have f8 := blk_frozen hd3.blk 8; have HD2 := Lib.hid hd2; have HS2 := Lib.hid hs2; clear hd2 hd3 hs2)
      go_end0
      exact crash_end HD2.out HS2.out _ _ rfl rfl

end Go.Proofs.Ytadglpnmhpmebaa

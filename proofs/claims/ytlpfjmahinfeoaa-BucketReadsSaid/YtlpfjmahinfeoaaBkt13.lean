/-
  bucket.Pack.
  Conditions: none.
-/
import Derived.Test.YtlpfjmahinfeoaaBkt12
import Derived.Test.YtlpfjmahinfeoaaNearB
namespace Go.Proofs.Ytlpfjmahinfeoaa
open Go.RowKit Go.Shelf
attribute [local go_sem] Oper.semAt_some

theorem loadBytes_any (n : Nat) (hn : n ≤ 70368744177664) (w : World) : Calls Try.prog 29 #[.int .i64 n] w fun e w' => e = .returned (.int .i64 (10 + n * 20)) ∧ w = w' := by
  have e1 : wrap64 ((n : Int) * 20) = (n : Int) * 20 := IntWalk.wrap64_in _ ⟨by omega, by omega⟩
  have e2 : wrap64 (10 + (n : Int) * 20) = 10 + (n : Int) * 20 := IntWalk.wrap64_in _ ⟨by omega, by omega⟩
  go_enter Try.func29, Try.ntmps29
  go_wp2
  go_ret
  exact ⟨rfl, rfl⟩
theorem WrAt.putObj {w W : World} {row : List (BitVec 8)} {limit : Int} (h : WrAt w row limit W) {i : Nat} {o o' : Obj} (ho : W.heap[i]? = some o) (hc : o.isCells = false) (hi : w.heap.size ≤ i) : WrAt w row limit (W.putObj i o') := by
  obtain ⟨v, h1, h2, h3⟩ := h
  have hne : ∀ {j : Nat} {cs : Array Value} {t : TypeId} {sp : Nat × Nat}, W.heap[j]? = some (.cells cs t sp) → j ≠ i := fun hj e => by
    subst e
    rw [ho] at hj
    cases hj
    cases hc
  refine ⟨v, ⟨(World.putObj_heap_other (hne h1.blk)).trans h1.blk, (bput_moves W i o').row h1.own (fun k e hk => ?_)⟩, h2.trans ((bput_moves W i o').below (fun j hj => by omega) h2.size), h3⟩
  obtain ⟨cs, sp, h4⟩ := own_cellsW h1.own e
  exact hne h4 hk
/-- A load, or none, and an error's number. -/
def Loaded (bs : List (BitVec 8)) (er : Int) (w : World) (e : Ending) (w' : World) : Prop := ∃ u, e = .returned (.tuple #[u, .int .i64 er]) ∧ w'.ownsRow w.heap.size 5 1 u bs.length (cellsOf bs) ∧ Below w.heap.size w w'
/-- The head of a load. -/
def hdB (d p : Int) (n : Nat) : List (BitVec 8) := leI 1 d ++ leI 1 n ++ leI 8 p
theorem hdB_len (d p : Int) (n : Nat) : (hdB d p n).length = 10 := by
  unfold hdB
  simp only [List.length_append, leI_len]
  rfl
/-- Between two rounds of Pack. -/
structure PkInv (w V : World) (d p : Int) (v : Value) (es : List Ent) (X Y : Nat) (k : Nat) (W : World) : Prop where
  le : k ≤ es.length
  wr : WrAt V (hdB d p es.length ++ (es.take k).flatMap entB) (10 + es.length * 20) W
  b0 : W.heap[w.heap.size]? = some (.cells #[.int .i64 d, .int .i64 p, v] 31 (0, 0))
  bX : W.heap[X]? = some (.cells #[.int .i64 d, .int .i64 p, v] 31 (0, 0))
  bY : W.heap[Y]? = some (.cells #[.pointer (some ⟨V.heap.size, 0, none⟩)] 67 (0, 0))
theorem PkInv.on {w V W W' : World} {d p : Int} {v : Value} {es : List Ent} {X Y k : Nat} (h : PkInv w V d p v es X Y k W) (hb : Below W.heap.size W W') : PkInv w V d p v es X Y k W' :=
  ⟨h.le, h.wr.behind hb, (hb.block _ (blk_lt h.b0)).trans h.b0, (hb.block _ (blk_lt h.bX)).trans h.bX, (hb.block _ (blk_lt h.bY)).trans h.bY⟩
theorem PkInv.put {w V W : World} {d p : Int} {v : Value} {es : List Ent} {X Y k : Nat} (h : PkInv w V d p v es X Y k W) {i : Nat} {o o' : Obj} (ho : W.heap[i]? = some o) (hc : o.isCells = false) (hi : V.heap.size ≤ i) : PkInv w V d p v es X Y k (W.putObj i o') := by
  have hne : ∀ {j : Nat} {cs : Array Value} {t : TypeId} {sp : Nat × Nat}, W.heap[j]? = some (.cells cs t sp) → j ≠ i := fun hj e => by
    subst e
    rw [ho] at hj
    cases hj
    cases hc
  exact ⟨h.le, h.wr.putObj ho hc hi, (World.putObj_heap_other (hne h.b0)).trans h.b0, (World.putObj_heap_other (hne h.bX)).trans h.bX, (World.putObj_heap_other (hne h.bY)).trans h.bY⟩
set_option maxRecDepth 100000 in
set_option maxHeartbeats 8000000 in
theorem pack_no (d p s : Int) (a : Option Addr) (m c : Nat) (es : List Ent) (w : World) (hE : EntsAt w.heap.size w (.slice a m c) es) (hR : ¬ Right14 d p s es) :
    Calls Try.prog 6 #[.agg #[.int .i64 d, .int .i64 p, .slice a m c], .int .i64 s] w (Loaded [] 5 w) := by
  have hb1 : Below w.heap.size w (w.alloc (.cells #[.int .i64 d, .int .i64 p, .slice a m c] 31)) := (Below.refl _ w).alloc (Nat.le_refl _) _
  have HRT := Lib.hid ((right_any d p s a m c es _ (hE.next hb1)).mono (R' := fun e W' => e = .returned (.bool false) ∧ Below (w.alloc (.cells #[.int .i64 d, .int .i64 p, .slice a m c] 31)).heap.size (w.alloc (.cells #[.int .i64 d, .int .i64 p, .slice a m c] 31)) W') (fun e W' ⟨r, he, hr, hb⟩ => by
    cases r with
    | true => exact absurd (hr.1 rfl) hR
    | false => exact ⟨he, hb⟩))
  have HB := Lib.hid hb1
  clear hE hR hb1
  go_enter Try.func6, Try.ntmps6
  go_wp2_with (go_at_call 9; (with_reducible refine HRT.out.mono ?_); rintro e w2 ⟨rfl, hb2⟩; have HB2 := Lib.hid hb2; clear hb2)
  go_ret2
  exact ⟨_, rfl, World.ownsRow_nil _ _ _ _, HB.out.trans (HB2.out.mono HB.out.size)⟩
set_option maxRecDepth 100000 in
set_option maxHeartbeats 8000000 in
theorem pack_yes (d p s : Int) (a : Option Addr) (c : Nat) (es : List Ent) (w : World) (hE : EntsAt w.heap.size w (.slice a es.length c) es) (hR : Right14 d p s es) :
    Calls Try.prog 6 #[.agg #[.int .i64 d, .int .i64 p, .slice a es.length c], .int .i64 s] w (Loaded (bktB d p es) 0 w) := by
  obtain ⟨w1, hw1⟩ : ∃ w1, w.alloc (.cells #[.int .i64 d, .int .i64 p, .slice a es.length c] 31) = w1 := ⟨_, rfl⟩
  have hb1 : Below w.heap.size w w1 := by rw [← hw1]; exact (Below.refl _ w).alloc (Nat.le_refl _) _
  have hg1 : w1.heap[w.heap.size]? = some (.cells #[.int .i64 d, .int .i64 p, .slice a es.length c] 31 (0, 0)) := by rw [← hw1]; exact heap_alloc_new _ _
  have HW1 := Lib.hid hw1
  have HB1 := Lib.hid hb1
  have HG1 := Lib.hid hg1
  have hlen : es.length ≤ 255 := by have := hR.head.len; have := hR.head.s2; omega
  have HMAY : Hid (∀ k, k < es.length → (es[k]?.getD default).may = true) := fun k hk => by
    have h := hR.all k hk
    unfold Ent.may
    exact decide_eq_true ⟨⟨h.r0, h.r1⟩, ⟨h.a0, h.a1⟩, h.s0, h.s1⟩
  have HEN : Hid (∀ W, Below w.heap.size w W → ∀ i, i < es.length → ∃ g off, a = some ⟨g, off, none⟩ ∧ EntAt W g (off + i * 4) (es[i]?.getD default)) := fun W hb i hi => by
    obtain ⟨g, off, ha, hg, h4⟩ := (hE.below hb).get hi
    exact ⟨g, off, ha, h4⟩
  have HRT := Lib.hid ((right_any d p s a es.length c es _ (hE.next hb1)).mono (R' := fun e W' => e = .returned (.bool true) ∧ Below w1.heap.size w1 W') (fun e W' ⟨r, he, hr, hb⟩ => by
    cases r with
    | false => exact absurd (hr.2 hR) (by simp)
    | true => exact ⟨he, hb⟩))
  have HLB := Lib.hid (fun W => loadBytes_any es.length (by omega) W)
  have hd0 := hR.head.d0
  have hd1 := hR.head.d1
  have hp0 := hR.p0
  have hp1 : p < 18446744073709551616 := by
    have h1 := hR.p1
    obtain ⟨D, rfl⟩ := Int.eq_ofNat_of_zero_le hd0
    have hM : (2 : Nat) ^ D ≤ 256 := Nat.pow_le_pow_right (by decide) (show D ≤ 8 by omega)
    have e0 : ((2 : Int) ^ D) = ((2 ^ D : Nat) : Int) := by simp
    rw [Int.toNat_natCast, e0] at h1
    omega
  have u0 : IntKind.u64.wrap d = d := wrapU64 hd0 (by omega)
  have u1 : IntKind.u64.wrap (es.length : Int) = es.length := wrapU64 (by omega) (by omega)
  have u2 : IntKind.u64.wrap p = p := wrapU64 hp0 hp1
  have hmx : max (10 + (es.length : Int) * 20) 0 = 10 + (es.length : Int) * 20 := by omega
  have HNW := Lib.hid (fun W => newWriter_any (10 + (es.length : Int) * 20) W)
  rw [hmx] at HNW
  have HLEN := Lib.hid hlen
  have HNU := Lib.hid (And.intro hd0 (And.intro hd1 (And.intro hp0 hp1)))
  clear hw1 hb1 hg1 hE hR hmx hlen hd0 hd1 hp0 hp1
  refine callsIn_wide (n := 3).1 ?_
  refine callsIn_of_wp_marks Try.func6 rfl trivial ?_ rfl
  simp only [Try.ntmps6, List.size_toArray, List.length_cons, List.length_nil, Nat.reduceAdd, Nat.reduceSub, Array.replicate_succ, Array.replicate_zero, List.push_toArray, List.append_toArray, List.nil_append, List.cons_append]
  refine wpIn_wide.2 ?_
  go_upto_region 1 with (fail)
  rw [HW1.out]
  have c0 : w1.cell? ⟨w.heap.size, 0, none⟩ = some (.int .i64 d) := blk_cell HG1.out 0
  have c1 : w1.cell? ⟨w.heap.size, 1, none⟩ = some (.int .i64 p) := blk_cell HG1.out 1
  have c3 : w1.cell? ⟨w.heap.size, 2, none⟩ = some (.slice a es.length c) := blk_cell HG1.out 2
  go_upto_region 4 with (first
    | (go_at_call 9; (with_reducible refine HRT.out.mono ?_); rintro e w2 ⟨rfl, hb2⟩; have HB2 := Lib.hid (HB1.out.trans (hb2.mono HB1.out.size)); have HG2 := Lib.hid ((hb2.block _ (blk_lt HG1.out)).trans HG1.out); have c2 : w2.cell? ⟨w.heap.size, 2, none⟩ = some (.slice a es.length c) := blk_cell HG2.out 2; clear hb2)
    | (go_at_call 29; (with_reducible refine (HLB.out _).mono ?_); rintro e w' ⟨rfl, rfl⟩)
    | (go_at_call 28; (with_reducible refine (HNW.out _).mono ?_); rintro e w3 ⟨rfl, hw3⟩; have HW3 := Lib.hid hw3; clear hw3))
  obtain ⟨w4, hw4⟩ : ∃ w4, w3.alloc (.cells #[.pointer (some ⟨w2.heap.size, 0, none⟩)] 67) = w4 := ⟨_, rfl⟩
  change Code.wp _ _ _ _ (w3.alloc (.cells #[.pointer (some ⟨w2.heap.size, 0, none⟩)] 67))
  rw [hw4]
  have hz3 : w3.heap.size = w2.heap.size + 1 := by rw [HW3.out]; exact World.size_alloc ..
  have hb4 : Below w3.heap.size w3 w4 := by rw [← hw4]; exact (Below.refl _ _).alloc (Nat.le_refl _) _
  have hwr3 : WrAt w2 [] (10 + es.length * 20) w3 := by rw [HW3.out]; exact WrAt.new w2 _ (by omega)
  have hwr4 := hwr3.behind hb4
  have hY4 : w4.heap[w3.heap.size]? = some (.cells #[.pointer (some ⟨w2.heap.size, 0, none⟩)] 67 (0, 0)) := by rw [← hw4]; exact heap_alloc_new _ _
  have hbt4 : Below w2.heap.size w2 w4 := hwr4.size
  have hG4 := (hbt4.block _ (blk_lt HG2.out)).trans HG2.out
  obtain ⟨Y, hY⟩ : ∃ Y, w3.heap.size = Y := ⟨_, rfl⟩
  rw [hY] at hY4
  have hne1 : w.heap.size ≠ w2.heap.size := by have := blk_lt HG2.out; omega
  have hne2 : Y ≠ w2.heap.size := by omega
  have HS : Hid (∀ W', WStay w2.heap.size w4 W' → W'.heap[w.heap.size]? = some (.cells #[.int .i64 d, .int .i64 p, .slice a es.length c] 31 (0, 0)) ∧ W'.heap[Y]? = some (.cells #[.pointer (some ⟨w2.heap.size, 0, none⟩)] 67 (0, 0))) := fun W' hs => ⟨hs.blk hG4 hne1 (by decide), hs.blk hY4 hne2 (by decide)⟩
  have HSC : Hid (∀ W', WStay w2.heap.size w4 W' → W'.cell? ⟨w.heap.size, 0, none⟩ = some (.int .i64 d) ∧ W'.cell? ⟨w.heap.size, 1, none⟩ = some (.int .i64 p) ∧ W'.cell? ⟨w.heap.size, 2, none⟩ = some (.slice a es.length c) ∧ W'.cell? ⟨Y, 0, none⟩ = some (.pointer (some ⟨w2.heap.size, 0, none⟩))) := fun W' hs => ⟨blk_cell (HS.out W' hs).1 0, blk_cell (HS.out W' hs).1 1, blk_cell (HS.out W' hs).1 2, blk_cell (HS.out W' hs).2 0⟩
  obtain ⟨e0, e1, e2, e3⟩ := HSC.out _ (WStay.refl _ _)
  obtain ⟨hd0, hd1, hp0, hp1⟩ := HNU.out
  have hlen := HLEN.out
  have HN1 := Lib.hid (hwr4.numIS d 1 hd0 (by omega) rfl (by simp; omega) (by omega))
  have HN2 := Lib.hid (fun W' (hw : WrAt w2 ([] ++ leI 1 d) (10 + es.length * 20) W') => hw.numIS (es.length : Int) 1 (by omega) (by omega) rfl (by rw [List.length_append, leI_len]; simp; omega) (by omega))
  have HN3 := Lib.hid (fun W' (hw : WrAt w2 ([] ++ leI 1 d ++ leI 1 es.length) (10 + es.length * 20) W') => hw.numIS p 8 hp0 hp1 rfl (by rw [List.length_append, List.length_append, leI_len, leI_len]; simp; omega) (by omega))
  have HZ : Hid (w2.heap.size + 2 ≤ w4.heap.size ∧ w.heap.size < w2.heap.size) := ⟨by have := blk_lt hY4; omega, blk_lt HG2.out⟩
  rw [hY]
  clear c0 c1 c2 c3 hw4 hz3 hb4 hwr3 hwr4 hY4 hbt4 hG4 hY hne1 hne2 hd0 hd1 hp0 hp1 hlen
  go_wp2_with (first
    | (go_at_call 30; (with_reducible refine HN1.out.mono ?_); rintro e w5 ⟨⟨rfl, hw5⟩, hs5⟩; have HS5 := Lib.hid hs5; have HN4 := Lib.hid (HN2.out _ hw5); obtain ⟨f0, f1, f2, f3⟩ := HSC.out _ hs5; clear hw5 hs5 e0 e1 e2 e3)
    | (go_at_call 30; (with_reducible refine HN4.out.mono ?_); rintro e w6 ⟨⟨rfl, hw6⟩, hs6⟩; have HS6 := Lib.hid (HS5.out.trans hs6); have HN5 := Lib.hid (HN3.out _ hw6); obtain ⟨k0, k1, k2, k3⟩ := HSC.out _ HS6.out; clear hw6 hs6 f0 f1 f2 f3)
    | (go_at_call 30; (with_reducible refine HN5.out.mono ?_); rintro e w7 ⟨⟨rfl, hw7⟩, hs7⟩; have HW7 := Lib.hid hw7; have HS7 := Lib.hid (HS6.out.trans hs7); obtain ⟨m0, m1, m2, m3⟩ := HSC.out _ HS7.out; clear hw7 hs7 k0 k1 k2 k3)
    | (go_at_call 31; (with_reducible refine (all_any _ _ _ _ _ _).mono ?_); rintro e w8 ⟨rfl, hw8⟩; have HW8 := Lib.hid hw8; clear hw8))
  have hb8 : Below w7.heap.size w7 w8 := by rw [← HW8.out]; exact (Below.refl _ _).alloc (Nat.le_refl _) _
  have hX8 : w8.heap[w7.heap.size]? = some (.cells #[.int .i64 d, .int .i64 p, .slice a es.length c] 31 (0, 0)) := by rw [← HW8.out]; exact heap_alloc_new _ _
  have hz8 : w2.heap.size + 2 ≤ w8.heap.size := by have := HS7.out.1; have := HZ.out; have := hb8.size; omega
  have HINV : Hid (PkInv w w2 d p (.slice a es.length c) es w7.heap.size Y 0 w8) := by
    refine ⟨Nat.zero_le _, ?_, (hb8.block _ (blk_lt (HS.out _ HS7.out).1)).trans (HS.out _ HS7.out).1, hX8, (hb8.block _ (blk_lt (HS.out _ HS7.out).2)).trans (HS.out _ HS7.out).2⟩
    have := HW7.out.behind hb8
    simpa [hdB] using this
  have HZ8 := Lib.hid hz8
  have HB2W := Lib.hid HB2.out
  clear hb8 hX8 hz8 m0 m1 m2 m3
  refine (wpIn_wide (n := 3)).1 ?_
  refine rangeFunc_nearB (α := Nat) (γ := Nat) (F := Fence.wide) rfl (by decide) (gf := 55) (lb := #[.pointer (some ⟨w7.heap.size, 0, none⟩)]) rfl trivial (enters_of Try.func55 (by kernel_rfl) rfl)
    (entEnc es) (fun _ => rfl) (fun k _ => k + 1) 0 5 53 (fun k => (es[k]?.getD default).cells) (PkInv w w2 d p (.slice a es.length c) es w7.heap.size Y) (fun k x _ => x = k ∧ k < es.length) (fun k => k = es.length) ?hbel ?hturn ?hmayT ?hmayB ?hround ?h0 ?hcall ?hdone
  case hbel => exact fun k W W' h hb => h.on hb
  case hturn =>
    intro k W i o o' hi ho hc h
    have := HZ8.out
    exact h.put ho hc (by omega)
  case hmayT => exact fun _ _ _ _ _ _ _ h => h
  case hmayB => exact fun _ _ _ _ h _ => h
  case h0 =>
    intro o ho
    exact HINV.out.on (((Below.refl _ w8).alloc (Nat.le_refl _) _).alloc (by simp) _)
  case hcall =>
    intro l J W0 hl hlW hJI hJB hJP hJ0 hY2
    refine (all1_inv 2 (by decide) l w7.heap.size a c es (by have := HLEN.out; omega) J (fun _ => False) W0 (fun k W hj => ⟨blk_cell (hJI _ _ hj).bX 2, HEN.out W (HB2W.out.trans ((hJI _ _ hj).wr.size.mono HB2W.out.size))⟩) hJB hJ0 (fun k W hj hk => ?_)).mono ?_
    · refine (hY2 k k W hj ⟨rfl, hk⟩).mono ?_
      rintro e W4 ⟨rfl, h1, _⟩
      exact .inl ⟨rfl, h1⟩
    · rintro e W4 ⟨hv, ⟨k, hk, hj⟩ | h⟩
      · exact ⟨hv, k, by have := (hJI _ _ hj).le; omega, hj⟩
      · exact h.elim
  case hdone =>
    rintro W k rfl h hK
    obtain ⟨_, hwr, _, _, hbY⟩ := h
    rw [List.take_length] at hwr
    have hLe : hdB d p es.length ++ es.flatMap entB = bktB d p es := rfl
    rw [hLe] at hwr
    obtain ⟨L, hL⟩ : ∃ L, bktB d p es = L := ⟨_, rfl⟩
    rw [hL] at hwr
    have HLL := Lib.hid hL
    clear hLe hL
    have cY : W.cell? ⟨Y, 0, none⟩ = some (.pointer (some ⟨w2.heap.size, 0, none⟩)) := blk_cell hbY 0
    have HT := Lib.hid (hwr.take (by have := HLEN.out; omega))
    have HWR := Lib.hid hwr
    clear hwr hbY
    go_wp2_with (go_at_call 33; (with_reducible refine HT.out.mono ?_); rintro e w9 ⟨u, rfl, hu, hb9, hw9⟩; obtain ⟨au, cu, rfl⟩ := owns_slice hu; have HU9 := Lib.hid hu; have HB9 := Lib.hid hb9; clear hu hb9 hw9)
    have hK9 := (HB9.out.block _ (Array.getElem?_eq_some_iff.1 hK).1).trans hK
    refine ⟨by simp, .inl ⟨_, _, rfl, run_takeDeferred hK9, ?_⟩⟩
    have hle : w.heap.size ≤ W.heap.size := Nat.le_trans (Nat.le_of_lt HZ.out.2) HWR.out.size.size
    have hbw : Below w.heap.size w w9 := HB2W.out.trans ((HWR.out.size.trans (HB9.out.mono HWR.out.size.size)).mono HB2W.out.size)
    have hz8 := HZ8.out
    have hz := HZ.out
    have hr : (w9.putObj w8.heap.size (.deferred none)).ownsRow W.heap.size 5 1 (.slice au L.length cu) L.length (cellsOf L) := (bput_moves w9 w8.heap.size (.deferred none)).row HU9.out (fun k e h => by
      obtain ⟨cs, sp, h1⟩ := own_cellsW HU9.out e
      subst h
      rw [hK9] at h1; cases h1)
    refine ⟨.tuple #[.slice au L.length cu, .int .i64 0], by simp [results, Try.results6, go_sem], ?_⟩
    rw [HLL.out]
    exact ⟨_, rfl, base_own hr hle, hbw.trans ((bput_moves w9 w8.heap.size (.deferred none)).below (fun j (hj : j = w8.heap.size) => by omega) hbw.size)⟩
  case hround =>
    apply Exists.intro
    apply And.intro
    · intro l k W b K hb hK
      unfold entEnc Ent.cells
      gi_wp2
      rw [← hb]
      exact hK
    · rintro l s0 k b W hI ⟨hxk, hlt⟩ hbl hbk hwl ⟨o, ho, hoc⟩ hD
      subst hxk
      have hbk : W.heap[b]? = some (.cells (es[k]?.getD default).cells 53 (0, 0)) := hbk
      have hmay := HMAY.out k hlt
      have htk := take_flat es k hlt
      obtain ⟨x, hx⟩ : ∃ x, (es[k]?.getD default) = x := ⟨_, rfl⟩
      rw [hx] at hbk hmay htk
      have hz := HZ.out
      have hz8 := HZ8.out
      have hbne : b ≠ w2.heap.size := by omega
      have hYne : Y ≠ w2.heap.size := by
        obtain ⟨v, h1, _⟩ := hI.wr
        intro e
        have h2 := hI.bY
        rw [e, h1.blk] at h2
        cases h2
      have hXne : w7.heap.size ≠ w2.heap.size := by have := HS7.out.1; omega
      have hlen := HLEN.out
      have hfl : ((es.take k).flatMap entB).length = 20 * k := by rw [ents_bytes_len, List.length_take]; omega
      have HN1 := Lib.hid (show CallsIn (Fence.wide.inRound l) 0 Try.prog 30 #[.pointer (some ⟨w2.heap.size, 0, none⟩), .int .u64 (U x.hash), .int .i64 8] W (WrtS w2 (hdB d p es.length ++ (es.take k).flatMap entB ++ leB 8 x.hash) (10 + es.length * 20) W) from CallsIn.inRound l (callsIn_wide (n := 0).2 (hI.wr.numS x.hash 8 rfl (by rw [List.length_append, hdB_len, hfl]; omega) (by omega))))
      have HL2 := Lib.hid (fun W' (hw : WrAt w2 (hdB d p es.length ++ (es.take k).flatMap entB ++ leB 8 x.hash) (10 + es.length * 20) W') => CallsIn.inRound l (callsIn_wide (n := 0).2 (locWrite_any hw x hmay (by rw [List.length_append, List.length_append, hdB_len, hfl, leB_len]; omega) (by omega))))
      have HSB : Hid (∀ W', WStay w2.heap.size W W' → W'.heap[b]? = some (.cells x.cells 53 (0, 0)) ∧ W'.heap[Y]? = some (.cells #[.pointer (some ⟨w2.heap.size, 0, none⟩)] 67 (0, 0)) ∧ W'.heap[w.heap.size]? = some (.cells #[.int .i64 d, .int .i64 p, .slice a es.length c] 31 (0, 0)) ∧ W'.heap[w7.heap.size]? = some (.cells #[.int .i64 d, .int .i64 p, .slice a es.length c] 31 (0, 0)) ∧ W'.heap[w8.heap.size + 1]? = W.heap[w8.heap.size + 1]? ∧ W'.heap[w8.heap.size]? = W.heap[w8.heap.size]? ∧ Stay 5 (w8.heap.size + 1) W W') := fun W' hs => by
        refine ⟨hs.blk hbk hbne (by decide), hs.blk hI.bY hYne (by decide), hs.blk hI.b0 (by omega) (by decide), hs.blk hI.bX hXne (by decide), ?_, ?_, hs.1, fun i o hi ho hc => hs.2 i o ho (by omega) hc⟩
        · rw [ho]; exact hs.2 _ _ ho (by omega) (fun cs sp e => by subst e; cases hoc)
        · rw [hD]; exact hs.2 _ _ hD (by omega) (fun cs sp e => by cases e)
      have c0 : W.cell? ⟨b, 0, none⟩ = some (.int .u64 (U x.hash)) := blk_cell hbk 0
      have cY : W.cell? ⟨Y, 0, none⟩ = some (.pointer (some ⟨w2.heap.size, 0, none⟩)) := blk_cell hI.bY 0
      have HTK := Lib.hid htk
      have HLT := Lib.hid hlt
      have t5 : Fence.wide.fn 30 := trivial
      have t6 : Fence.wide.fn 32 := trivial
      clear hx hI hlt hbl hbk hwl ho hoc hD hmay htk hz hz8 hbne hYne hXne hlen hfl o
      gi_wp2_with (first
        | (gi_at_call 30; (with_reducible refine HN1.out.mono ?_); rintro e w9 ⟨⟨rfl, hw9⟩, hs9⟩; have HS9 := Lib.hid hs9; have HL3 := Lib.hid (HL2.out _ hw9); have c1 : w9.cell? ⟨b, 1, none⟩ = some (.int .i64 x.reg) := blk_cell (HSB.out _ hs9).1 1; have c2 : w9.cell? ⟨b, 2, none⟩ = some (.int .i64 x.at_) := blk_cell (HSB.out _ hs9).1 2; have c3 : w9.cell? ⟨b, 3, none⟩ = some (.int .i64 x.size) := blk_cell (HSB.out _ hs9).1 3; have cZ : w9.cell? ⟨Y, 0, none⟩ = some (.pointer (some ⟨w2.heap.size, 0, none⟩)) := blk_cell (HSB.out _ hs9).2.1 0; clear hw9 hs9 c0 cY)
        | (gi_at_call 32; (with_reducible refine HL3.out.mono ?_); rintro e w10 ⟨⟨rfl, hw10⟩, hs10⟩; have HW10 := Lib.hid hw10; have HS10 := Lib.hid (HS9.out.trans hs10); clear hw10 hs10))
      obtain ⟨_, q2, q3, q4, q5, q6, q7⟩ := HSB.out _ HS10.out
      refine ⟨⟨q5, q6⟩, q7, HLT.out, ?_, q3, q4, q2⟩
      rw [HTK.out]
      have := HW10.out
      rw [List.append_assoc, List.append_assoc] at this
      exact this
end Go.Proofs.Ytlpfjmahinfeoaa

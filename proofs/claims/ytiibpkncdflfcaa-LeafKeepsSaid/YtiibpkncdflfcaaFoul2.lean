/-
  leaf.Foul on a device that is up: the sectors of leaves that no write gave.
  Conditions: the device is up.
-/
import Derived.Test.YtiibpkncdflfcaaFoul1
import Derived.Test.YtiibpkncdflfcaaBoxInts
namespace Go.Proofs.Ytiibpkncdflfcaa
open Go.RowKit Go.Shelf
attribute [local go_sem] Oper.semAt_some

/-- Is a sector foul? -/
def Dev.foulAt (d : Dev) (k : Nat) : Bool := decide (readErr (d.cur k) = 0) && !(d.pasts k).any (fun x => decide (x = d.cur k))
/-- The foul ones of the first n. -/
def Dev.fouls (d : Dev) (n : Nat) : List Int := ((List.range n).filter d.foulAt).map fun (k : Nat) => (k : Int)
theorem fouls_snoc (d : Dev) (n : Nat) : d.fouls (n + 1) = if d.foulAt n = true then d.fouls n ++ [(n : Int)] else d.fouls n := by
  unfold Dev.fouls
  rw [List.range_succ, List.filter_append, List.map_append]
  by_cases h : d.foulAt n = true
  · rw [if_pos h]; simp [h]
  · rw [if_neg h]; simp [h]
theorem fouls_len (d : Dev) (n : Nat) : (d.fouls n).length ≤ n := by
  unfold Dev.fouls
  rw [List.length_map]
  refine Nat.le_trans (List.length_filter_le _ _) ?_
  simp
/-- Between two rounds of Foul. -/
def FoulInv (V : World) (D X : Nat) (d : Dev) (s : Nat) (W : World) : Prop :=
  s ≤ d.sectors ∧ Below V.heap.size V W ∧ W.heap[V.heap.size]? = some (.cells #[.pointer (some ⟨D, 0, none⟩)] 26 (0, 0)) ∧ W.heap[X]? = some (.cells #[.pointer (some ⟨D, 0, none⟩)] 26 (0, 0)) ∧ BoxInts V.heap.size (V.heap.size + 1) (d.fouls s) W
theorem BoxInts.on {n₀ B : Nat} {xs : List Int} {W W' : World} (h : BoxInts n₀ B xs W) (hb : Below W.heap.size W W') : BoxInts n₀ B xs W' := by
  obtain ⟨v, b, r⟩ := h
  exact ⟨v, (hb.block _ b.lt).trans b, (Moves.of_below (S := fun _ => False) hb).row r (fun _ _ h => h)⟩
theorem BoxInts.put {n₀ B : Nat} {xs : List Int} {W : World} (h : BoxInts n₀ B xs W) {i : Nat} {o o' : Obj} (ho : W.heap[i]? = some o) (hc : o.isCells = false) : BoxInts n₀ B xs (W.putObj i o') := by
  obtain ⟨v, b, r⟩ := h
  refine ⟨v, (World.putObj_heap_other (fun e => ?_)).trans b, (put_moves W i o').row r (fun k e h => ?_)⟩
  · subst e
    rw [show W.heap[B]? = _ from b] at ho
    cases ho; cases hc
  · obtain ⟨cs, sp, h1⟩ := own_is_cells r e
    subst h
    rw [ho] at h1; cases h1; cases hc
theorem FoulInv.on {V W W' : World} {D X s : Nat} {d : Dev} (h : FoulInv V D X d s W) (hb : Below W.heap.size W W') : FoulInv V D X d s W' := by
  obtain ⟨h0, h1, h2, h3, h4⟩ := h
  exact ⟨h0, h1.trans (hb.mono h1.size), (hb.block _ (blk_lt h2)).trans h2, (hb.block _ (blk_lt h3)).trans h3, h4.on hb⟩
theorem FoulInv.put {V W : World} {D X s : Nat} {d : Dev} (h : FoulInv V D X d s W) {i : Nat} {o o' : Obj} (ho : W.heap[i]? = some o) (hc : o.isCells = false) (hi : V.heap.size ≤ i) : FoulInv V D X d s (W.putObj i o') := by
  have hne : ∀ {j : Nat} {cs : Array Value} {t : TypeId} {sp : Nat × Nat}, W.heap[j]? = some (.cells cs t sp) → j ≠ i := fun h1 e => by
    subst e
    rw [ho] at h1
    cases h1
    cases hc
  obtain ⟨h0, h1, h2, h3, h4⟩ := h
  exact ⟨h0, h1.trans ((put_moves W i o').below (fun j hj => by omega) h1.size), (World.putObj_heap_other (hne h2)).trans h2, (World.putObj_heap_other (hne h3)).trans h3, h4.put ho hc⟩
theorem FoulInv.skip {V W : World} {D X s : Nat} {d : Dev} (h : FoulInv V D X d s W) (hs : s < d.sectors) (hn : d.foulAt s = false) : FoulInv V D X d (s + 1) W := by
  obtain ⟨h0, h1, h2, h3, h4⟩ := h
  exact ⟨hs, h1, h2, h3, by rw [fouls_snoc, if_neg (by rw [hn]; simp)]; exact h4⟩
/-- What a round that adds a number leaves. -/
theorem FoulInv.step {V U w7 : World} {D X s m : Nat} {d : Dev} {v v7 : Value} {tmp : Obj} {cs : List Value} (h1 : Below V.heap.size V U) (h2 : U.heap[V.heap.size]? = some (.cells #[.pointer (some ⟨D, 0, none⟩)] 26 (0, 0))) (h3 : U.heap[X]? = some (.cells #[.pointer (some ⟨D, 0, none⟩)] 26 (0, 0)))
    (hb : Boxed U (V.heap.size + 1) 23 v) (hr : U.ownsRow V.heap.size 3 1 v (d.fouls s).length (ints (d.fouls s))) (hs : s < d.sectors) (hn : d.foulAt s = true)
    (hcs : cs = ints (d.fouls s ++ [(s : Int)])) (hm : m = (d.fouls s ++ [(s : Int)]).length) (hown : w7.ownsRow V.heap.size 3 1 v7 m cs) (hgrow : (U.alloc tmp).grownBy w7 v.ownBlock) :
    Boxed w7 (V.heap.size + 1) 23 v ∧ FoulInv V D X d (s + 1) (w7.setCell ⟨V.heap.size + 1, 0, none⟩ v7) ∧ (∀ (i : Nat) (o : Obj), U.heap[i]? = some o → i ≠ V.heap.size + 1 → (∀ cs sp, o ≠ .cells cs 3 sp) → (w7.setCell ⟨V.heap.size + 1, 0, none⟩ v7).heap[i]? = some o) ∧ U.heap.size ≤ (w7.setCell ⟨V.heap.size + 1, 0, none⟩ v7).heap.size := by
  obtain ⟨s1, s2, s3, s4⟩ := box_put (zs := d.fouls s ++ [(s : Int)]) hb hr h1.size (by omega) hcs hm hown hgrow
  have hall : ∀ (i : Nat) (o : Obj), U.heap[i]? = some o → i ≠ V.heap.size + 1 → (∀ cs sp, o ≠ .cells cs 3 sp) → (w7.setCell ⟨V.heap.size + 1, 0, none⟩ v7).heap[i]? = some o := fun i o ho hi hc => by
    have hl := (Array.getElem?_eq_some_iff.1 ho).1
    have h6 : (U.alloc tmp).heap[i]? = some o := (Below.heap_alloc _ _ _ hl).trans ho
    refine (Below.heap_setCell _ _ _ _ hi).trans ((hgrow.block i (by rw [World.size_alloc]; omega) (fun e => ?_)).trans h6)
    obtain ⟨cs, sp, h8⟩ := own_is_cells hr e.symm
    rw [ho] at h8
    cases h8
    exact hc _ _ rfl
  have hz : U.heap.size ≤ (w7.setCell ⟨V.heap.size + 1, 0, none⟩ v7).heap.size := by
    have := hgrow.size
    rw [World.size_alloc] at this
    have hz2 : (w7.setCell ⟨V.heap.size + 1, 0, none⟩ v7).heap.size = w7.heap.size := by simp [World.setCell]
    omega
  have hne : ∀ {i : Nat}, U.heap[i]? = some (.cells #[.pointer (some ⟨D, 0, none⟩)] 26 (0, 0)) → i ≠ V.heap.size + 1 := fun hi e => by
    subst e
    rw [show U.heap[V.heap.size + 1]? = _ from hb] at hi
    cases hi
  have nt : ∀ cs' sp, (Obj.cells #[.pointer (some ⟨D, 0, none⟩)] 26 (0, 0)) ≠ .cells cs' 3 sp := fun cs' sp h => by cases h
  refine ⟨s1, ⟨hs, h1.trans s4, hall _ _ h2 (hne h2) nt, hall _ _ h3 (hne h3) nt, ?_⟩, hall, hz⟩
  rw [fouls_snoc, if_pos hn]
  exact s2
theorem pasts_any {d : Dev} {k : Nat} (j : Nat) (x : List (BitVec 8)) (h : (d.pasts k)[j]? = some x) (hx : x = d.cur k) : (d.pasts k).any (fun x => decide (x = d.cur k)) = true :=
  List.any_eq_true.2 ⟨x, List.mem_of_getElem? h, by simpa using hx⟩
theorem pasts_none {d : Dev} {k : Nat} (h : ∀ (i : Nat) (x : List (BitVec 8)), (d.pasts k)[i]? = some x → x ≠ d.cur k) : (d.pasts k).any (fun x => decide (x = d.cur k)) = false := by
  rw [Bool.eq_false_iff]
  intro h1
  obtain ⟨x, hx, he⟩ := List.any_eq_true.1 h1
  obtain ⟨i, hi, rfl⟩ := List.mem_iff_getElem.1 hx
  exact h i _ (List.getElem?_eq_getElem hi) (by simpa using he)
set_option maxRecDepth 100000 in
set_option maxHeartbeats 4000000 in
theorem foul_here {w W : World} {D : Nat} {d : Dev} (h : DevHere w D d W) (hdn : d.down = false) (hsec : d.sectors ≤ 70000) (hpl : ∀ k, (d.past k).length ≤ 65536) :
    Calls Try.prog 10 #[.pointer (some ⟨D, 0, none⟩)] W fun e W' => ∃ v, e = .returned v ∧ IntsAt W'.heap.size W' v (d.fouls d.sectors) ∧ Below W.heap.size W W' := by
  obtain ⟨i0, hi, hz0, hz1, hz2⟩ := info_partsI infoInt
  have hsec1 : d.sectors ≤ 16384 := h.right.1.2
  have HH := Lib.hid h
  have HPL := Lib.hid hpl
  have HDN := Lib.hid hdn
  have HSS := Lib.hid h.right.2
  have HCUR := Lib.hid (fun k => cur_len h.flen (fun x hx => (h.llen x hx).2) k)
  have HPSL : Hid (∀ k x, x ∈ d.pasts k → x.length = d.size) := fun k x hx => by
    rcases List.mem_append.1 hx with hx | hx
    · exact h.plen k x (List.mem_reverse.1 hx)
    · obtain rfl : x = zeros d.size := by simpa using hx
      exact zeros_len _
  have HPSN : Hid (∀ k, (d.pasts k).length ≤ 65537) := fun k => by
    have := hpl k
    simp [Dev.pasts]
    omega
  clear h hpl hdn
  refine callsIn_wide (n := 3).1 ?_
  refine callsIn_of_wp_marks Try.func10 rfl trivial ?_ rfl
  simp only [Try.ntmps10, List.size_toArray, List.length_cons, List.length_nil, Nat.reduceAdd, Nat.reduceSub, Array.replicate_succ, Array.replicate_zero, List.push_toArray, List.append_toArray, List.nil_append, List.cons_append]
  refine wpIn_wide.2 ?_
  have HSO := Lib.hid (fun U => sectorsOf_any D U)
  go_wp2
  go_step3
  go_wp2
  go_step3
  go_wp2_with (go_at_call 28; (with_reducible refine (HSO.out _).mono ?_); rintro e w3 ⟨rfl, hw3⟩; have HW3 := Lib.hid hw3; clear hw3)
  have hs1 : (W.alloc (.cells #[.pointer (some ⟨D, 0, none⟩)] 26)).heap.size = W.heap.size + 1 := World.size_alloc ..
  have hs2 : ((W.alloc (.cells #[.pointer (some ⟨D, 0, none⟩)] 26)).alloc (.cells #[.slice none 0 0] 23)).heap.size = W.heap.size + 1 + 1 := by rw [World.size_alloc, hs1]
  have hz3 : w3.heap.size = W.heap.size + 3 := by rw [← HW3.out]; rw [World.size_alloc, hs2]
  have hb3 : Below W.heap.size W w3 := by rw [← HW3.out]; exact (((Below.refl _ W).alloc (Nat.le_refl _) _).alloc (by rw [hs1]; omega) _).alloc (by rw [hs2]; omega) _
  have hx1 : w3.heap[W.heap.size]? = some (.cells #[.pointer (some ⟨D, 0, none⟩)] 26 (0, 0)) := by rw [← HW3.out]; exact blk_alloc (blk_alloc (heap_alloc_new _ _) _) _
  have hx2 : w3.heap[W.heap.size + 1 + 1]? = some (.cells #[.pointer (some ⟨D, 0, none⟩)] 26 (0, 0)) := by
    rw [← HW3.out, ← hs2]
    exact heap_alloc_new _ _
  have hbx : Boxed w3 (W.heap.size + 1) 23 (.slice none 0 0) := by
    rw [← HW3.out]
    refine Boxed.alloc ?_ _
    have := Boxed.new (W.alloc (.cells #[.pointer (some ⟨D, 0, none⟩)] 26)) 23 (.slice none 0 0)
    rwa [hs1] at this
  have hinv : FoulInv W D (W.heap.size + 1 + 1) d 0 w3 := ⟨Nat.zero_le _, hb3, hx1, hx2, _, hbx, World.ownsRow_nil _ _ _ _⟩
  have HINV := Lib.hid hinv
  have HZ3 := Lib.hid hz3
  clear hs1 hs2 hz3 hb3 hx1 hx2 hbx hinv HW3
  refine (wpIn_wide (n := 3)).1 ?_
  refine rangeFunc_near (α := Nat × Value) (γ := Nat) (F := Fence.wide) rfl (by decide) (gf := 46) (lb := #[.pointer (some ⟨W.heap.size + 1 + 1, 0, none⟩)]) rfl trivial (enters_of Try.func46 (by kernel_rfl) rfl)
    (fun x => #[.int .i64 x.1, x.2]) (fun _ => rfl) (fun s _ => s + 1) 0 3 (FoulInv W D (W.heap.size + 1 + 1) d)
    (fun s x U => x.1 = s ∧ s < d.sectors ∧ BytesAt U.heap.size U x.2 (d.cur s)) (fun s => s = d.sectors) ?hbel ?hturn ?hmayT ?hround ?h0 ?hcall ?hdone
  case hbel => exact fun s U U' h hb => h.on hb
  case hturn =>
    intro s U i o o' hi ho hc h
    have := HZ3.out
    exact h.put ho hc (by omega)
  case hmayT =>
    rintro s x U o o' ho hc ⟨h1, h2, h3⟩
    refine ⟨h1, h2, ?_⟩
    have hne : ∀ (g i : Nat) (v : Value), U.cell? ⟨g, i, none⟩ = some v → g ≠ w3.heap.size + 1 := fun g i v h e => by
      subst e
      simp [World.cell?, ho] at h
      cases o <;> simp_all [Obj.isCells]
    obtain ⟨a, c, e1, e2, e3, e4⟩ := h3
    refine ⟨a, c, e1, e2, e3, e4.imp id fun ⟨g, off, q1, q2, q3⟩ => ⟨g, off, q1, by rw [World.putObj_size]; exact q2, fun j hj => ?_⟩⟩
    have := q3 j hj
    rw [← this]
    exact World.cell?_of_block (w := U) (World.putObj_heap_other (hne _ _ _ this))
  case h0 =>
    intro o ho
    exact HINV.out.on (((Below.refl _ w3).alloc (Nat.le_refl _) _).alloc (by simp) _)
  case hcall =>
    intro l J2 W0 hl hlW hJI hJB hJP hJ0 hY
    refine (sectorsOf1_in 2 (by decide) l (W.heap.size + 1 + 1) D w d HDN.out hsec1 J2 W0 (fun s U hj => ?_) hJB hJ0 (fun s v U hj hs hv => ?_)).mono ?_
    · obtain ⟨_, h1, _, h3, _⟩ := hJI _ _ hj
      exact ⟨blk_cell h3 0, HH.out.on h1⟩
    · refine (hY s (s, v) U hj ⟨rfl, hs, hv⟩).mono ?_
      rintro e W4 ⟨rfl, h1, _⟩
      exact ⟨rfl, h1⟩
    · rintro e W4 ⟨hv, hj⟩
      exact ⟨hv, _, rfl, hj⟩
  case hdone =>
    rintro U s rfl ⟨_, h1, _, _, v, h4, h5⟩ hK
    obtain ⟨va, vc, rfl⟩ := owns_slice h5
    have cB : U.cell? ⟨W.heap.size + 1, 0, none⟩ = some (.slice va (d.fouls d.sectors).length vc) := h4.cell
    have HR := Lib.hid (And.intro h1 (And.intro h5 hK))
    clear h1 h4 h5
    go_wp2
    obtain ⟨h1, h5, hK⟩ := HR.out
    refine ⟨by simp, .inl ⟨_, _, rfl, run_takeDeferred hK, ?_⟩⟩
    have hr : (U.putObj w3.heap.size (.deferred none)).ownsRow W.heap.size 3 1 (.slice va (d.fouls d.sectors).length vc) (d.fouls d.sectors).length (ints (d.fouls d.sectors)) := (put_moves U w3.heap.size (.deferred none)).row h5 (fun k e h => by
      obtain ⟨cs, sp, h1⟩ := own_is_cells h5 e
      subst h
      rw [hK] at h1; cases h1)
    exact ⟨_, results_tmp rfl _ _ _, _, rfl, IntsAt.of_owns hr rfl, h1.trans ((put_moves U w3.heap.size (.deferred none)).below (fun j hj => by have := HZ3.out; omega) h1.size)⟩
  case hround =>
    apply Exists.intro
    apply And.intro
    · intro l x U K hK2
      gi_wp2
      exact hK2
    · rintro l s ⟨k, u⟩ U hinv ⟨hk, hlt, hu⟩ hsz ⟨o, ho, hoc⟩ hD
      dsimp only at hk hu
      subst hk
      obtain ⟨ua, uc, rfl, _⟩ := id hu
      have HRE := Lib.hid (CallsIn.inRound l (callsIn_wide (n := 0).2 (read_any _ (d.cur k) U hu (by have := HCUR.out k; have := HSS.out; omega))))
      have t1 : Fence.wide.fn 29 := trivial
      have t2 : Fence.wide.fn 15 := trivial
      have t3 : Fence.wide.fn 30 := trivial
      have HOD := Lib.hid (And.intro ho (And.intro hoc hD))
      have HU := Lib.hid hu
      have HIN := Lib.hid hinv
      have HLT := Lib.hid hlt
      have HSKIP : Hid (∀ U', Below U.heap.size U U' → d.foulAt k = false → (U'.heap[w3.heap.size + 1]? = U.heap[w3.heap.size + 1]? ∧ U'.heap[w3.heap.size]? = U.heap[w3.heap.size]?) ∧ Stay 3 (w3.heap.size + 1) U U' ∧ FoulInv W D (W.heap.size + 1 + 1) d (k + 1) U') := fun U' hb hn =>
        ⟨⟨hb.block _ (by omega), hb.block _ (by omega)⟩, Stay.of_below hb, (HIN.out.on hb).skip HLT.out hn⟩
      obtain ⟨er, her⟩ : ∃ er, readErr (d.cur k) = er := ⟨_, rfl⟩
      rw [her] at HRE
      have HER := Lib.hid her
      have cD : ∀ U', Below U.heap.size U U' → U'.cell? ⟨W.heap.size, 0, none⟩ = some (.pointer (some ⟨D, 0, none⟩)) := fun U' hb => by
        obtain ⟨_, _, h2, _⟩ := HIN.out
        exact (hb.cell (p := ⟨W.heap.size, 0, none⟩) (blk_lt h2)).trans (blk_cell h2 0)
      have HCD := Lib.hid cD
      clear hu hinv hlt ho hoc hD her cD hsz
      have HNEW : Hid (∀ (w2 : World) (o2 : Obj), Below U.heap.size U w2 → Below U.heap.size U (w2.alloc o2)) := fun w2 o2 h => h.alloc h.size _
      by_cases he : er = 0
      · subst he
        have HP := Lib.hid (fun U' (hb : Below U.heap.size U U') => CallsIn.inRound l (callsIn_wide (n := 0).2 (here_past (HH.out.on (HIN.out.on hb).2.1) k HLT.out (HPL.out k))))
        gi_wp2_with (first
          | (gi_at_call 29; (with_reducible refine HRE.out.mono ?_); rintro e w2 ⟨ux, rfl, hux, hb2⟩; obtain ⟨xa, xc, rfl, _⟩ := id hux; unfold LeafP.cells; have HB2 := Lib.hid hb2; have cDD := HCD.out _ (HNEW.out _ (.cells #[.int .i64 (readL (d.cur k)).kind, .int .i64 (readL (d.cur k)).place, .int .i64 (readL (d.cur k)).stamp, .slice xa (readL (d.cur k)).load.length xc] 39) hb2); clear hux hb2)
          | (gi_at_call 15; (with_reducible refine (HP.out _ (HNEW.out _ _ HB2.out)).mono ?_); rintro e w5 ⟨up, rfl, hpr, hb5⟩; have HPR := Lib.hid hpr; obtain ⟨usp, hrp, _⟩ := id hpr; obtain ⟨pa, pc, rfl⟩ := owns_slice hrp; have HB5 := Lib.hid ((HNEW.out _ _ HB2.out).trans (hb5.mono (HNEW.out _ _ HB2.out).size)); clear hpr hrp hb5))
        have HPN : Hid ((d.pasts k).length ≤ 65537) := HPSN.out k
        have HEQ := Lib.hid (fun (U' : World) (hb : Below w5.heap.size w5 U') (j : Nat) (hj : j < (d.pasts k).length) => (show ∃ g a c, pa = some ⟨g, 0, none⟩ ∧ U'.cell? ⟨g, j, none⟩ = some (.slice a ((d.pasts k)[j]?.getD []).length c) ∧ CallsIn (Fence.wide.inRound l) 0 Try.prog 30 #[.slice a ((d.pasts k)[j]?.getD []).length c, .slice ua (d.cur k).length uc] U' (fun e w' => e = .returned (.bool (decide (((d.pasts k)[j]?.getD []) = d.cur k))) ∧ U' = w') from by
          obtain ⟨us, h1, h2⟩ := HPR.out.below hb
          obtain ⟨u1, hu1, ho1⟩ := h2 j _ (List.getElem?_eq_getElem hj)
          obtain ⟨g, cp, e⟩ := ownsRow_posP h1 (by omega)
          simp only [Value.slice.injEq] at e
          obtain ⟨rfl, _, rfl⟩ := e
          obtain ⟨a1, c1, rfl⟩ := owns_slice ho1
          have he : (d.pasts k)[j]?.getD [] = (d.pasts k)[j] := by rw [List.getElem?_eq_getElem hj]; rfl
          have hc := h1.cellAt j (by omega)
          rw [hu1] at hc
          refine ⟨g, a1, c1, rfl, by rw [he]; exact hc, ?_⟩
          rw [he]
          exact CallsIn.inRound l (callsIn_wide (n := 0).2 (equal_any _ _ _ _ U' (BytesAt.of_owns ho1) (HU.out.below (HB5.out.trans (hb.mono HB5.out.size)))))))
        have a1 : ((d.pasts k).length : Int) ≤ 65537 := by
          have := HPN.out
          omega
        clear cDD
        gi_loopw [25] (fun v wr => ∃ j : Nat, v = .int .i64 j ∧ j ≤ (d.pasts k).length ∧ Below w5.heap.size w5 wr ∧ ∀ i : Nat, i < j → (d.pasts k)[i]?.getD [] ≠ d.cur k) (fun v _ => (d.pasts k).length - (intOf v).toNat)
        case atStart => exact ⟨0, rfl, Nat.zero_le _, Below.refl _ _, fun i hi => absurd hi (by omega)⟩
        case round =>
          obtain ⟨j, rfl, hj, hb, hno⟩ := hrel
          by_cases hlt : j < (d.pasts k).length
          · obtain ⟨g, ea, ec, rfl, ce, heq⟩ := HEQ.out wr hb j hlt
            have i1 : (j : Int) < (d.pasts k).length := by omega
            have i0 : (0 : Int) ≤ j := by omega
            have HB := Lib.hid hb
            have HNO := Lib.hid hno
            have HLJ := Lib.hid hlt
            clear hb hno hlt hj
            by_cases hx : (d.pasts k)[j]?.getD [] = d.cur k
            · rw [decide_eq_true hx] at heq
              have HX := Lib.hid hx
              have HE := Lib.hid heq
              obtain ⟨y, hy⟩ : ∃ y, (d.pasts k)[j]?.getD [] = y := ⟨_, rfl⟩
              rw [hy] at ce HE HX
              have HY := Lib.hid hy
              clear hy
              clear hx heq
              gi_wp2_with (gi_at_call 30; (with_reducible refine HE.out.mono ?_); rintro e w6 ⟨rfl, rfl⟩)
              refine HSKIP.out _ (HB5.out.trans (HB.out.mono HB5.out.size)) ?_
              unfold Dev.foulAt
              rw [pasts_any j _ (List.getElem?_eq_getElem HLJ.out) (by have := HX.out; rw [← this, ← HY.out, List.getElem?_eq_getElem HLJ.out]; rfl)]
              simp
            · rw [decide_eq_false hx] at heq
              have HX := Lib.hid hx
              have HE := Lib.hid heq
              clear hx heq
              gi_wp2_with (gi_at_call 30; (with_reducible refine HE.out.mono ?_); rintro e w6 ⟨rfl, rfl⟩)
              go_roundw
              case rel => exact ⟨j + 1, by simp, by have := HLJ.out; omega, HB.out, fun i hi => by
                by_cases h : i = j
                · subst h; exact HX.out
                · exact HNO.out i (by omega)⟩
              case measure => (simp [intOf]; try omega)
          · obtain rfl : j = (d.pasts k).length := by omega
            have hbU := HB5.out.trans (hb.mono HB5.out.size)
            have HBU := Lib.hid hbU
            have HF : Hid (d.foulAt k = true) := by
              unfold Hid Dev.foulAt
              rw [HER.out, pasts_none (fun i x hx he => hno i (List.getElem?_eq_some_iff.1 hx).1 (by rw [hx]; exact he))]
              rfl
            obtain ⟨_, f1, f2, f3, v, bx, r⟩ := HIN.out.on hbU
            obtain ⟨va, vc, rfl⟩ := owns_slice r
            have cB := bx.cell
            have hwl := f1.size
            have HLN := Lib.hid (fouls_len d k)
            have HFF := Lib.hid (And.intro f1 (And.intro f2 f3))
            have HBX := Lib.hid bx
            have HR := Lib.hid r
            clear hb hbU hno hlt hj bx r f1 f2 f3 HEQ
            gi_wp2_with (gi_at_builtin; (refine wpListIn_append_own_at _ rfl _ _ 23 rfl W.heap.size 3 i0 _ 1 8 Try.underlying23 hi hz0 hz1 hz2 rfl (by decide) (.slice va (d.fouls k).length vc) (d.fouls k).length (ints (d.fouls k)) rfl (HR.out.alloc _) ⟨_, 0, none⟩ 1 1 (ints [(k : Int)]) rfl rfl (int_new _ (k : Int)) (ints_one _) (by have := HLN.out; have := HLT.out; unfold maxLen; omega) (by have := HLN.out; have := HLT.out; omega) (by simp; omega) ?_); intro v' w7 hown hgrow hnil hat; obtain ⟨g2, cc, rfl⟩ := ownsRow_succ hown; obtain ⟨s1, s2, s3, s4⟩ := FoulInv.step HFF.out.1 HFF.out.2.1 HFF.out.2.2 HBX.out HR.out HLT.out HF.out (by rw [ints_append]) (by simp) hown hgrow; have cB1 := s1.cell; have fB1 := s1.frozen; have HS2 := Lib.hid s2; have HS3 := Lib.hid s3; have HS4 := Lib.hid s4; clear hown hgrow hnil hat s1 s2 s3 s4)
            obtain ⟨ho, hoc, hD⟩ := HOD.out
            have hup : ∀ (i : Nat) (o : Obj), U.heap[i]? = some o → wr.heap[i]? = some o := fun i o h => (HBU.out.block i (Array.getElem?_eq_some_iff.1 h).1).trans h
            have hz := HZ3.out
            refine ⟨⟨?_, ?_⟩, ⟨Nat.le_trans HBU.out.size HS4.out, fun i o hi ho hc => HS3.out i o (hup i o ho) (by omega) hc⟩, HS2.out⟩
            · rw [ho]; exact HS3.out _ _ (hup _ _ ho) (by omega) (fun cs sp e => by subst e; cases hoc)
            · rw [hD]; exact HS3.out _ _ (hup _ _ hD) (by omega) (fun cs sp e => by cases e)
      · have hne : (er != 0) = true := by simpa using he
        have HNF : Hid (d.foulAt k = false) := by
          unfold Hid Dev.foulAt
          rw [HER.out, decide_eq_false he]
          rfl
        clear he
        gi_wp2_with (gi_at_call 29; (with_reducible refine HRE.out.mono ?_); rintro e w2 ⟨ux, rfl, hux, hb2⟩; obtain ⟨xa, xc, rfl, _⟩ := id hux; unfold LeafP.cells; have HB2 := Lib.hid hb2; clear hux hb2)
        exact HSKIP.out _ (HNEW.out _ _ HB2.out) HNF.out
end Go.Proofs.Ytiibpkncdflfcaa

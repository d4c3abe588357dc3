/-
  bucket.Find.
  Conditions: none.
-/
import Derived.Test.YtpihncafmjbccaaBkt11
import Derived.Test.YtpihncafmjbccaaBkt15
namespace Go.Proofs.Ytpihncafmjbccaa
open Go.RowKit Go.Shelf
attribute [local go_sem] Oper.semAt_some

/-- The location of an entry. -/
def Ent.loc (x : Ent) : Array Value := #[.int .i64 x.reg, .int .i64 x.at_, .int .i64 x.size]
/-- None of the first k has the hash. -/
def NoHash (h : BitVec 64) (es : List Ent) (k : Nat) : Prop := ∀ i, i < k → (es[i]?.getD default).hash ≠ h
/-- What Find answers. -/
def FindRet (h : BitVec 64) (es : List Ent) (w : World) (e : Ending) (w' : World) : Prop :=
  Below w.heap.size w w' ∧ ((∃ i, i < es.length ∧ (es[i]?.getD default).hash = h ∧ NoHash h es i ∧ e = .returned (.tuple #[.agg (es[i]?.getD default).loc, .bool true])) ∨ (NoHash h es es.length ∧ e = .returned (.tuple #[.agg #[.int .i64 0, .int .i64 0, .int .i64 0], .bool false])))
theorem loc_sz : (Try.prog.info? 35).map (·.size) = some 3 := by kernel_rfl
theorem find_res (w : World) (g g' : Nat) (cs : Array Value) (v : Value) (a : Act) (h4 : a.tmps.getD 4 undef = .pointer (some ⟨g, 0, none⟩)) (h5 : a.tmps.getD 5 undef = .pointer (some ⟨g', 0, none⟩)) (hg : w.heap[g]? = some (.cells cs 35 (0, 0))) (hs : cs.size = 3) (hv : w.cell? ⟨g', 0, none⟩ = some v) :
    (results Try.f7 a.tmps).run Try.prog w = .ok (.tuple #[.agg cs, v]) w := by
  have h4' : a.tmps[4]?.getD undef = .pointer (some ⟨g, 0, none⟩) := by simpa using h4
  have h5' : a.tmps[5]?.getD undef = .pointer (some ⟨g', 0, none⟩) := by simpa using h5
  have hr := run_loadVar_row (P := Try.prog) w g 35 35 cs (0, 0) _ hg Try.underlying35 rfl (by rw [hs]; exact loc_sz)
  simp [results, Try.results7, h4', h5', asAddr, hr]
  simp [go_sem, hv]
theorem boxed_row {W : World} {k : Nat} {t : TypeId} {v : Value} (h : Boxed W k t v) {g : Nat} (hne : k ≠ g) (cs : Array Value) : Boxed (W.setRow g cs) k t v := (setRow_other W g k cs hne).trans h
/-- Between two rounds of Find. -/
structure FdInv (w : World) (d p : Int) (h : BitVec 64) (a : Option Addr) (c : Nat) (es : List Ent) (k : Nat) (W : World) : Prop where
  le : k ≤ es.length
  no : NoHash h es k
  below : Below w.heap.size w W
  b1 : Boxed W (w.heap.size + 1) 25 (.int .u64 (U h))
  b2 : W.heap[w.heap.size + 2]? = some (.cells #[.int .i64 0, .int .i64 0, .int .i64 0] 35 (0, 0))
  b3 : Boxed W (w.heap.size + 3) 4 (.bool false)
  b4 : W.heap[w.heap.size + 4]? = some (.cells #[.int .i64 d, .int .i64 p, .slice a es.length c] 32 (0, 0))
theorem FdInv.on {w W W' : World} {d p : Int} {h : BitVec 64} {a : Option Addr} {c k : Nat} {es : List Ent} (H : FdInv w d p h a c es k W) (hb : Below W.heap.size W W') : FdInv w d p h a c es k W' :=
  ⟨H.le, H.no, H.below.trans (hb.mono H.below.size), (hb.block _ H.b1.lt).trans H.b1, (hb.block _ (blk_lt H.b2)).trans H.b2, (hb.block _ H.b3.lt).trans H.b3, (hb.block _ (blk_lt H.b4)).trans H.b4⟩
theorem FdInv.put {w W : World} {d p : Int} {h : BitVec 64} {a : Option Addr} {c k : Nat} {es : List Ent} (H : FdInv w d p h a c es k W) {i : Nat} {o o' : Obj} (hi : w.heap.size + 5 ≤ i) (_ho : W.heap[i]? = some o) : FdInv w d p h a c es k (W.putObj i o') :=
  ⟨H.le, H.no, H.below.trans ((bput_moves W i o').below (fun j hj => by omega) H.below.size), (World.putObj_heap_other (by omega)).trans H.b1, (World.putObj_heap_other (by omega)).trans H.b2, (World.putObj_heap_other (by omega)).trans H.b3, (World.putObj_heap_other (by omega)).trans H.b4⟩
theorem wpListIn_store_row {F : Fence} {n : Nat} {P : Program} {ops : Array Oper} {rest : List Oper} {o : Oper} {a : Act} {w : World} {Q : Exit → Act → World → Prop} (hgd : o.guard = none) (ty : TypeId) (x y : Operand) (ho : o.op = .store ty x y)
    (g : Nat) (cells : Array Value) (hx : a.eval x = .pointer (some ⟨g, 0, none⟩)) (hy : a.eval y = .agg cells)
    (t : TypeId) (old : Array Value) (hg : w.heap[g]? = some (.cells old t (0, 0))) (hi : (P.info? ty).map (·.size) = some cells.size)
    (hold : old.size = cells.size) (h1 : cells.all (·.oneCell') = true)
    (h : wpListIn F n P ops Q rest (a.put o.dst undef) (w.setRow g cells)) : wpListIn F n P ops Q (o :: rest) a w :=
  wpListIn_plain hgd fun _ hK => by
    unfold Oper.wpIn
    refine ⟨by simp [Oper.about, ho], ?_⟩
    rw [Oper.semAt_plain F _ _ (by rw [ho]; intro c hc'; cases hc')]
    simp only [execOp, ho, hx, hy, Instr.storeAt, Instr.sureAddr, Sem.run_bind, Sem.run_pure, Result.andThen_ok, run_storeVar_row w g t ty old cells hg hi hold h1]
    exact hK _ _ h
set_option maxRecDepth 100000 in
set_option maxHeartbeats 8000000 in
theorem find_in (d p : Int) (h : BitVec 64) (a : Option Addr) (c : Nat) (es : List Ent) (w : World) (hE : EntsAt w.heap.size w (.slice a es.length c) es) (hlen : es.length ≤ 100000) :
    CallsIn Fence.wide 3 Try.prog 7 #[.agg #[.int .i64 d, .int .i64 p, .slice a es.length c], .int .u64 (U h)] w (FindRet h es w) := by
  have t2 : Fence.wide.fn 22 := trivial
  obtain ⟨w5, hw5⟩ : ∃ w5, (((((w.alloc (.cells #[.int .i64 d, .int .i64 p, .slice a es.length c] 32)).alloc (.cells #[.int .u64 (U h)] 25)).alloc (.cells #[.int .i64 0, .int .i64 0, .int .i64 0] 35)).alloc (.cells #[.bool false] 4)).alloc (.cells #[.int .i64 d, .int .i64 p, .slice a es.length c] 32)) = w5 := ⟨_, rfl⟩
  have hz5 : w5.heap.size = w.heap.size + 5 := by rw [← hw5]; simp
  have hb5 : Below w.heap.size w w5 := by
    rw [← hw5]
    exact (((((Below.refl _ w).alloc (Nat.le_refl _) _).alloc (by simp) _).alloc (by simp; omega) _).alloc (by simp; omega) _).alloc (by simp; omega) _
  have hk1 : Boxed w5 (w.heap.size + 1) 25 (.int .u64 (U h)) := by
    rw [← hw5]
    have := Boxed.new (w.alloc (.cells #[.int .i64 d, .int .i64 p, .slice a es.length c] 32)) 25 (.int .u64 (U h))
    rw [World.size_alloc] at this
    exact ((this.alloc _).alloc _).alloc _
  have hk2 : w5.heap[w.heap.size + 2]? = some (.cells #[.int .i64 0, .int .i64 0, .int .i64 0] 35 (0, 0)) := by
    rw [← hw5]
    have := heap_alloc_new ((w.alloc (.cells #[.int .i64 d, .int .i64 p, .slice a es.length c] 32)).alloc (.cells #[.int .u64 (U h)] 25)) (.cells #[.int .i64 0, .int .i64 0, .int .i64 0] 35)
    rw [World.size_alloc, World.size_alloc] at this
    exact blk_alloc (blk_alloc this _) _
  have hk3 : Boxed w5 (w.heap.size + 3) 4 (.bool false) := by
    rw [← hw5]
    have := Boxed.new (((w.alloc (.cells #[.int .i64 d, .int .i64 p, .slice a es.length c] 32)).alloc (.cells #[.int .u64 (U h)] 25)).alloc (.cells #[.int .i64 0, .int .i64 0, .int .i64 0] 35)) 4 (.bool false)
    rw [World.size_alloc, World.size_alloc, World.size_alloc] at this
    exact this.alloc _
  have hk4 : w5.heap[w.heap.size + 4]? = some (.cells #[.int .i64 d, .int .i64 p, .slice a es.length c] 32 (0, 0)) := by
    rw [← hw5]
    have := heap_alloc_new ((((w.alloc (.cells #[.int .i64 d, .int .i64 p, .slice a es.length c] 32)).alloc (.cells #[.int .u64 (U h)] 25)).alloc (.cells #[.int .i64 0, .int .i64 0, .int .i64 0] 35)).alloc (.cells #[.bool false] 4)) (.cells #[.int .i64 d, .int .i64 p, .slice a es.length c] 32)
    rw [World.size_alloc, World.size_alloc, World.size_alloc, World.size_alloc] at this
    exact this
  have HW5 := Lib.hid hw5
  have HINV : Hid (FdInv w d p h a c es 0 w5) := ⟨Nat.zero_le _, fun i hi => absurd hi (by omega), hb5, hk1, hk2, hk3, hk4⟩
  have HEN : Hid (∀ W, Below w.heap.size w W → ∀ i, i < es.length → ∃ g off, a = some ⟨g, off, none⟩ ∧ EntAt W g (off + i * 4) (es[i]?.getD default)) := fun W hb i hi => by
    obtain ⟨g, off, ha, hg, h4⟩ := (hE.below hb).get hi
    exact ⟨g, off, ha, h4⟩
  have HZ5 := Lib.hid hz5
  have HLEN := Lib.hid hlen
  clear hw5 hb5 hk1 hk2 hk3 hk4 hE hz5 hlen
  refine callsIn_of_wp_marks Try.func7 rfl trivial ?_ rfl
  simp only [Try.ntmps7, List.size_toArray, List.length_cons, List.length_nil, Nat.reduceAdd, Nat.reduceSub, Array.replicate_succ, Array.replicate_zero, List.push_toArray, List.append_toArray, List.nil_append, List.cons_append]
  gi_wp2_with (gi_at_call 22; refine (all_in Fence.wide 2 trivial rfl _ _ _ _ _ _).mono ?_; rintro e w' ⟨rfl, rfl⟩)
  rw [HW5.out]
  clear HW5
  refine rangeFunc_inv (n := 3) (F := Fence.wide) rfl (by decide) (gf := 34) (lb := #[.pointer (some ⟨w.heap.size + 1 + 1 + 1 + 1, 0, none⟩)]) rfl trivial (enters_of Try.func34 (by kernel_rfl) rfl)
    (entEnc es) (fun _ => rfl) 40 (fun k => (es[k]?.getD default).cells) (fun k => k + 1) (fun k => k < es.length) 0 (FdInv w d p h a c es)
    (fun W => Below w.heap.size w W ∧ ∃ i, i < es.length ∧ (es[i]?.getD default).hash = h ∧ NoHash h es i ∧ W.heap[w.heap.size + 2]? = some (.cells (es[i]?.getD default).loc 35 (0, 0)) ∧ Boxed W (w.heap.size + 3) 4 (.bool true)) ?hbel ?hturn ?hstop ?hround ?h0 ?hcall ?hdone ?hleft
  case hbel => exact fun k W W' H hb => H.on hb
  case hturn =>
    intro k W o o' ho hc H
    have := HZ5.out
    exact H.put (by omega) ho
  case hstop =>
    rintro W o o' ho hc ⟨h1, i, h2, h3, h4, h5, h6⟩
    have := HZ5.out
    exact ⟨h1.trans ((bput_moves W _ o').below (fun j hj => by omega) h1.size), i, h2, h3, h4, (World.putObj_heap_other (by omega)).trans h5, (World.putObj_heap_other (by omega)).trans h6⟩
  case h0 =>
    intro o ho
    exact HINV.out.on (((Below.refl _ w5).alloc (Nat.le_refl _) _).alloc (by simp) _)
  case hcall =>
    intro l J JS W0 hJI hJB hJ0 hY
    exact all1_inv 2 (by decide) l (w.heap.size + 4) a c es (by have := HLEN.out; omega) J JS W0 (fun k W hj => ⟨blk_cell (hJI _ _ hj).b4 2, HEN.out W (hJI _ _ hj).below⟩) hJB hJ0 hY
  case hdone =>
    rintro W k hm H hK
    obtain rfl : k = es.length := by have := H.le; omega
    have HNO := Lib.hid H.no
    have HB := Lib.hid H.below
    have HR := Lib.hid H.b2
    have hB1 := boxed_row H.b3 (g := w.heap.size + 2) (by omega) #[.int .i64 0, .int .i64 0, .int .i64 0]
    have c1 := hB1.cell
    have f1 := hB1.frozen
    have HB1 := Lib.hid hB1
    clear H hm hB1
    gi_wp2_with (refine wpListIn_store_row (o := ⟨none, _, _, _, _, _⟩) rfl 35 (.tmp 4) (.tmp 18) rfl (w.heap.size + 2) #[.int .i64 0, .int .i64 0, .int .i64 0] rfl rfl 35 #[.int .i64 0, .int .i64 0, .int .i64 0] HR.out loc_sz rfl ?_ ?_; (simp [Value.oneCell']))
    have hz := HZ5.out
    obtain ⟨V, hV⟩ : ∃ V, (W.setRow (w.heap.size + 2) #[.int .i64 0, .int .i64 0, .int .i64 0]).setCell ⟨w.heap.size + 3, 0, none⟩ (.bool false) = V := ⟨_, rfl⟩
    have hk : V.heap[w5.heap.size]? = some (.deferred (some [])) := by rw [← hV]; exact (Below.heap_setCell _ _ _ _ (by show w5.heap.size ≠ w.heap.size + 3; omega)).trans ((setRow_other _ _ _ _ (by omega)).trans hK)
    have hr : V.heap[w.heap.size + 2]? = some (.cells #[.int .i64 0, .int .i64 0, .int .i64 0] 35 (0, 0)) := by rw [← hV]; exact (Below.heap_setCell _ _ _ _ (by show w.heap.size + 2 ≠ w.heap.size + 3; omega)).trans (setRow_heap _ _ _ _ _ _ HR.out)
    have hb : Boxed V (w.heap.size + 3) 4 (.bool false) := by rw [← hV]; exact HB1.out.set (.bool false)
    have hbel : Below w.heap.size w V := by rw [← hV]; exact (below_setRow HB.out (by omega) _).setCell (p := ⟨w.heap.size + 3, 0, none⟩) (by show w.heap.size ≤ w.heap.size + 3; omega) _
    clear hz
    change _ ∧ _
    rw [show (W.setRow (w.heap.size + 2) #[.int .i64 0, .int .i64 0, .int .i64 0]).setCell ⟨w.heap.size + 1 + 1 + 1, 0, none⟩ (.bool false) = V from hV]
    refine ⟨by simp, .inl ⟨_, _, rfl, run_takeDeferred hk, ?_⟩⟩
    have hcell : (V.putObj w5.heap.size (.deferred none)).cell? ⟨w.heap.size + 3, 0, none⟩ = some (.bool false) := (World.cell?_of_block (w := V) (World.putObj_heap_other (show w.heap.size + 3 ≠ w5.heap.size by have := HZ5.out; omega))).trans hb.cell
    have hrow : (V.putObj w5.heap.size (.deferred none)).heap[w.heap.size + 2]? = some (.cells #[.int .i64 0, .int .i64 0, .int .i64 0] 35 (0, 0)) := (World.putObj_heap_other (by have := HZ5.out; omega)).trans hr
    exact ⟨_, find_res _ _ _ _ _ _ rfl rfl hrow rfl hcell, hbel.trans ((bput_moves _ _ _).below (fun j hj => by have := HZ5.out; omega) hbel.size), .inr ⟨HNO.out, rfl⟩⟩
  case hleft =>
    rintro W ⟨h1, i, h2, h3, h4, h5, h6⟩ hK
    have HN := Lib.hid (And.intro h2 (And.intro h3 h4))
    have HB := Lib.hid h1
    clear h1 h2 h3 h4
    gi_wp2
    refine ⟨by simp, .inl ⟨_, _, rfl, run_takeDeferred hK, ?_⟩⟩
    have hz := HZ5.out
    have hcell : (W.putObj w5.heap.size (.deferred none)).cell? ⟨w.heap.size + 3, 0, none⟩ = some (.bool true) := (World.cell?_of_block (w := W) (World.putObj_heap_other (show w.heap.size + 3 ≠ w5.heap.size by omega))).trans h6.cell
    have hrow : (W.putObj w5.heap.size (.deferred none)).heap[w.heap.size + 2]? = some (.cells (es[i]?.getD default).loc 35 (0, 0)) := (World.putObj_heap_other (by omega)).trans h5
    exact ⟨_, find_res _ _ _ _ _ _ rfl rfl hrow rfl hcell, HB.out.trans ((bput_moves _ _ _).below (fun j hj => by omega) HB.out.size), .inl ⟨i, HN.out.1, HN.out.2.1, HN.out.2.2, rfl⟩⟩
  case hround =>
    apply Exists.intro
    apply And.intro
    · intro l k W b K hb hm hi hK
      clear hm hi
      unfold entEnc Ent.cells
      gi_wp2
      rw [← hb]
      exact hK
    · rintro l k b W hlt hI hbl hbk hwl
      have hz := HZ5.out
      have hbk : W.heap[b]? = some (.cells (es[k]?.getD default).cells 40 (0, 0)) := hbk
      have ch : W.cell? ⟨w.heap.size + 1, 0, none⟩ = some (.int .u64 (U h)) := hI.b1.cell
      have HIN := Lib.hid hI
      have HKL := Lib.hid hlt
      have HWL := Lib.hid hwl
      obtain ⟨x, hx⟩ : ∃ x, (es[k]?.getD default) = x := ⟨_, rfl⟩
      rw [hx] at hbk
      have b0 : W.cell? ⟨b, 0, none⟩ = some (.int .u64 (U x.hash)) := blk_cell hbk 0
      have b1 : W.cell? ⟨b, 1, none⟩ = some (.int .i64 x.reg) := blk_cell hbk 1
      have b2 : W.cell? ⟨b, 2, none⟩ = some (.int .i64 x.at_) := blk_cell hbk 2
      have b3 : W.cell? ⟨b, 3, none⟩ = some (.int .i64 x.size) := blk_cell hbk 3
      have HX := Lib.hid hx
      have HR := Lib.hid hI.b2
      have hB1 := boxed_row hI.b3 (g := w.heap.size + 2) (by omega) x.loc
      have c1 := hB1.cell
      have f1 := hB1.frozen
      have HB1 := Lib.hid hB1
      clear hx hbk hbl hlt hI hwl hB1
      by_cases he : x.hash = h
      · have hq : (U x.hash == U h) = true := by rw [he]; exact beq_self_eq_true _
        have HE := Lib.hid he
        clear he
        gi_wp2_with (refine wpListIn_store_row (o := ⟨none, _, _, _, _, _⟩) rfl 35 (.tmp 4) (.tmp 17) rfl (w.heap.size + 2) x.loc rfl rfl 35 #[.int .i64 0, .int .i64 0, .int .i64 0] HR.out loc_sz rfl ?_ ?_; (simp [Ent.loc, Value.oneCell']))
        have hb := HIN.out.below
        refine ⟨⟨(Below.heap_setCell _ _ _ _ (by show w.heap.size + 5 + 1 ≠ w.heap.size + 3; omega)).trans (setRow_other _ _ _ _ (by omega)), (Below.heap_setCell _ _ _ _ (by show w.heap.size + 5 ≠ w.heap.size + 3; omega)).trans (setRow_other _ _ _ _ (by omega))⟩,
          (below_setRow hb (by omega) _).setCell (p := ⟨w.heap.size + 3, 0, none⟩) (by show w.heap.size ≤ w.heap.size + 3; omega) _, k, HKL.out, by rw [HX.out]; exact HE.out, HIN.out.no, ?_, HB1.out.set (.bool true)⟩
        rw [HX.out]
        exact (Below.heap_setCell _ _ _ _ (by show w.heap.size + 2 ≠ w.heap.size + 3; omega)).trans (setRow_heap _ _ _ _ _ _ HR.out)
      · have hq : (U x.hash == U h) = false := by simp [U_beq, he]
        have HE := Lib.hid he
        clear he
        gi_wp2
        refine ⟨HKL.out, fun i hi => ?_, HIN.out.below, HIN.out.b1, HIN.out.b2, HIN.out.b3, HIN.out.b4⟩
        by_cases hik : i = k
        · subst hik
          rw [HX.out]
          exact HE.out
        · exact HIN.out.no i (by omega)
theorem find_any (d p : Int) (h : BitVec 64) (a : Option Addr) (m c : Nat) (es : List Ent) (w : World) (hE : EntsAt w.heap.size w (.slice a m c) es) (hlen : es.length ≤ 100000) :
    Calls Try.prog 7 #[.agg #[.int .i64 d, .int .i64 p, .slice a m c], .int .u64 (U h)] w (FindRet h es w) := by
  obtain ⟨_, _, e0, hc0⟩ := hE.slice
  cases e0
  exact callsIn_wide.1 (find_in d p h a c es w hE hlen)
end Go.Proofs.Ytpihncafmjbccaa

/-
  clock.Clock[int]: the range over all places; empty.
  Conditions: none.
-/
import Derived.Test.YtadhkciggiefbaaClock3
import Derived.Test.YtadhkciggiefbaaRangeBox
namespace Go.Proofs.Ytadhkciggiefbaa
open Go.RowKit Go.Shelf
attribute [local go_sem] Oper.semAt_some

/-- The thing itself. -/
def getTI : Value → Int
  | .int .i64 t => t
  | _ => 0
/-- The parts of the place i. -/
def pF (ps : List Pl) (i : Nat) : Bool := (ps[i]?.getD default).full
def pM (ps : List Pl) (i : Nat) : Bool := (ps[i]?.getD default).marked
def pK (ps : List Pl) (i : Nat) : Int := (ps[i]?.getD default).key
def pTI (ps : List Pl) (i : Nat) : Int := getTI (ps[i]?.getD default).thing
/-- What is handed on of a place. -/
def plEnc (ps : List Pl) (i : Nat) : Array Value := #[.int .i64 (i : Nat), .agg #[.bool (pF ps i), .bool (pM ps i), .int .i64 (pK ps i), .int .i64 (pTI ps i)]]
theorem grown_of_below {w w' : World} (h : Below w.heap.size w w') : w.grownBy w' none := ⟨h.os, h.tape, h.output, h.size, fun k hk _ => h.block k hk⟩

set_option maxRecDepth 100000 in
set_option maxHeartbeats 1000000 in
theorem all1_in (F : Fence) (n : Nat) (h6 : F.fn 25) (hro : F.round = none) (hn : 1 ≤ n) (l B C g : Nat) (S : Nat → Prop) (ps : List Pl) (x1 x2 : Value) (hlen : ps.length ≤ 4096) (hth : ∀ p ∈ ps, ∃ t, p.thing = .int .i64 t) (J Jx : List Nat → World → Prop)
    (W : World) (hJ : AbidesFrom W.heap.size J)
    (hY : ∀ pre x W, J pre W → pre.length < ps.length → YieldAt F (n - 1) Try.prog l (plEnc ps x) W fun e W' =>
      (e = .returned (.bool true) ∧ J (pre ++ [x]) W' ∧ KeepsAt S W W') ∨ (e = .returned (.bool false) ∧ Jx (pre ++ [x]) W'))
    (hSg : S g)
    (hB : W.heap[B]? = some (.cells #[.pointer (some ⟨C, 0, none⟩)] 23 (0, 0))) (hC : W.heap[C]? = some (.cells #[.slice (some ⟨g, 0, none⟩) ps.length ps.length, x1, x2] 52 (0, 0)))
    (hg : W.heap[g]? = some (.cells (plCells ps).toArray 56 (0, 0))) (h0 : J [] W) :
    CallsIn F n Try.prog 25 #[.func (.yield l) #[] #[], .pointer (some ⟨B, 0, none⟩)] W fun e W' => (∃ v, e = .returned v) ∧
      ((∃ ys, ys = List.range ps.length ∧ J ys W') ∨ (∃ pre, (∃ k, k ≤ ps.length ∧ pre = List.range k) ∧ Jx pre W')) := by
  have hl : (ps.length : Int) ≤ 4096 := by omega
  have cB : W.cell? ⟨B, 0, none⟩ = some (.pointer (some ⟨C, 0, none⟩)) := blk_cell hB 0
  have cC : W.cell? ⟨C, 0, none⟩ = some (.slice (some ⟨g, 0, none⟩) ps.length ps.length) := blk_cell hC 0
  have HG := Lib.hid hg
  have HJ := Lib.hid hJ
  have HY := Lib.hid hY
  clear hB hC hg hJ hY
  refine callsIn_of_wp Try.func25 rfl h6 ?_ hro
  simp only [Try.ntmps25, List.size_toArray, List.length_cons, List.length_nil, Nat.reduceAdd, Nat.reduceSub, Array.replicate_succ, Array.replicate_zero, List.push_toArray, List.append_toArray, List.nil_append, List.cons_append]
  gi_wp2
  gi_loopw [10] (fun i wr => ∃ k : Nat, k ≤ ps.length ∧ i = .int .i64 k ∧ J (List.range k) wr ∧ KeepsAt S W wr)
    (fun i _ => ps.length - (intOf i).toNat)
  case atStart => exact ⟨0, Nat.zero_le _, rfl, h0, KeepsAt.refl _ _⟩
  case round =>
    obtain ⟨k, hk, rfl, hJs, hnx⟩ := hrel
    by_cases hlt : k < ps.length
    · obtain ⟨p, hp⟩ : ∃ p, ps[k]? = some p := ⟨ps[k], List.getElem?_eq_getElem hlt⟩
      have hpd : ps[k]?.getD default = p := by rw [hp]; rfl
      have hgr := hnx g hSg _ _ _ HG.out
      obtain ⟨a0, a1, a2, a3⟩ := plCells_get ps k p hp
      have d0 : wr.cell? ⟨g, k * 4, none⟩ = some (.bool p.full) := by rw [blk_cell hgr]; simpa using a0
      have d1 : wr.cell? ⟨g, k * 4 + 1, none⟩ = some (.bool p.marked) := by rw [blk_cell hgr]; simpa using a1
      have d2 : wr.cell? ⟨g, k * 4 + 2, none⟩ = some (.int .i64 p.key) := by rw [blk_cell hgr]; simpa using a2
      have d3 : wr.cell? ⟨g, k * 4 + 3, none⟩ = some p.thing := by rw [blk_cell hgr]; simpa using a3
      have k1 : (k : Int) < ps.length := by omega
      have HNX := Lib.hid hnx
      have HYR : Hid (∀ W1, J (List.range k) W1 → YieldAt F (n - 1) Try.prog l #[.int .i64 (k : Nat), .agg #[.bool p.full, .bool p.marked, .int .i64 p.key, .int .i64 (getTI p.thing)]] W1 fun e W' => (e = .returned (.bool true) ∧ J (List.range (k + 1)) W' ∧ KeepsAt S W1 W') ∨ (e = .returned (.bool false) ∧ Jx (List.range (k + 1)) W')) := fun W1 h1 => by
        have := HY.out (List.range k) k W1 h1 (by simpa using hlt)
        unfold plEnc pF pM pK pTI at this
        rw [hpd, ← List.range_succ] at this
        exact this
      have HJR : Hid (∀ W1, Below wr.heap.size wr W1 → J (List.range k) W1) := fun W1 h1 => HJ.out _ _ _ none hJs (grown_of_below h1) (fun r e => by cases e)
      have HTH := Lib.hid (hth p (List.mem_of_getElem? hp))
      clear hgr hp hpd a0 a1 a2 a3 hnx hJs
      obtain ⟨th, hth1⟩ := HTH.out
      rw [hth1] at d3 HYR
      rw [show getTI (.int .i64 th) = th from rfl] at HYR
      clear hth1
      obtain ⟨fn, tmps, assign, body, hy, hR⟩ := HYR.out (wr.alloc (.cells #[.bool p.full, .bool p.marked, .int .i64 p.key, .int .i64 th] 56)) (HJR.out _ ((Below.refl _ wr).alloc (Nat.le_refl _) _))
      have HKA : Hid (KeepsAt S wr (wr.alloc (.cells #[.bool p.full, .bool p.marked, .int .i64 p.key, .int .i64 th] 56))) := KeepsAt.alloc _ _
      gi_wp2
      refine hR.mono ?_
      rintro e W3 (⟨rfl, hJ3, hk3⟩ | ⟨rfl, hJx3⟩)
      · gi_wp2
        go_roundw
        case rel => exact ⟨k + 1, by omega, by simp, hJ3, (HNX.out.trans HKA.out).trans hk3⟩
        case measure => simp [intOf]; omega
      · gi_wp2
        refine bodyPost_ret (results_none rfl _ _ _) rfl ?_
        exact ⟨⟨_, rfl⟩, .inr ⟨_, ⟨k + 1, by omega, rfl⟩, hJx3⟩⟩
    · obtain rfl : k = ps.length := by omega
      gi_wp2
      go_end0
      exact ⟨⟨_, rfl⟩, .inl ⟨_, rfl, hJs⟩⟩

set_option maxHeartbeats 400000 in
theorem all_in (F : Fence) (n : Nat) (h4 : F.fn 23) (hro : F.round = none) (C : Nat) (w : World) :
    CallsIn F n Try.prog 23 #[.pointer (some ⟨C, 0, none⟩)] w fun e w' => e = .returned (.func (.func 25) #[] #[.pointer (some ⟨w.heap.size, 0, none⟩)]) ∧ w.alloc (.cells #[.pointer (some ⟨C, 0, none⟩)] 23) = w' := by
  refine callsIn_of_wp Try.func23 rfl h4 ?_ hro
  simp only [Try.ntmps23, List.size_toArray, List.length_cons, List.length_nil, Nat.reduceAdd, Nat.reduceSub, Array.replicate_succ, Array.replicate_zero, List.push_toArray, List.append_toArray, List.nil_append, List.cons_append]
  gi_wp2
  go_ret
  exact ⟨rfl, rfl⟩
theorem all_stops (F : Fence) (n : Nat) (h6 : F.fn 25) (hro : F.round = none) (hn : 1 ≤ n) (B C g : Nat) (S : Nat → Prop) (ps : List Pl) (x1 x2 : Value) (hlen : ps.length ≤ 4096) (hth : ∀ p ∈ ps, ∃ t, p.thing = .int .i64 t) (w : World) (hSg : S g)
    (hB : w.heap[B]? = some (.cells #[.pointer (some ⟨C, 0, none⟩)] 23 (0, 0))) (hC : w.heap[C]? = some (.cells #[.slice (some ⟨g, 0, none⟩) ps.length ps.length, x1, x2] 52 (0, 0)))
    (hg : w.heap[g]? = some (.cells (plCells ps).toArray 56 (0, 0))) :
    SeqStopsK F n Try.prog 25 #[.pointer (some ⟨B, 0, none⟩)] (plEnc ps) (KeepsAt S) (fun ys => ys = List.range ps.length) (fun pre => ∃ k, k ≤ ps.length ∧ pre = List.range k) ps.length w :=
  fun l J Jx W hW hJ _ hY h0 =>
    all1_in F n h6 hro hn l B C g S ps x1 x2 hlen hth J Jx W hJ hY hSg ((hW.block B (blk_lt hB)).trans hB) ((hW.block C (blk_lt hC)).trans hC) ((hW.block g (blk_lt hg)).trans hg) h0

/-- The first empty place, and whether there is one. -/
def emptyRes (ps : List Pl) : Value :=
  match ps.findIdx? (fun p => !p.full) with
  | some i => .tuple #[.int .i64 (i : Nat), .bool true]
  | none => .tuple #[.int .i64 0, .bool false]
theorem ownFrom_boxed {β : Type} (B0 B : Nat) (t : TypeId) (v : Value) : OwnFrom B0 (fun (_ : β) W => Boxed W B t v) := by
  refine Own.from ?_ B0
  rintro s X Y row hv hg hrow
  refine hv.kept hg fun e' => ?_
  obtain ⟨o, ho, hc⟩ := hrow B e'.symm
  rw [show X.heap[B]? = _ from hv] at ho; cases ho; cases hc

theorem empty_res (w : World) (a b : Nat) (i : Int) (c : Bool) (tmps : Array Value) (h2 : tmps.getD 2 undef = .pointer (some ⟨a, 0, none⟩)) (h3 : tmps.getD 3 undef = .pointer (some ⟨b, 0, none⟩)) (ha : w.cell? ⟨a, 0, none⟩ = some (.int .i64 i)) (hb : w.cell? ⟨b, 0, none⟩ = some (.bool c)) :
    (results Try.f21 tmps).run Try.prog w = .ok (.tuple #[.int .i64 i, .bool c]) w := by
  have h2' : tmps[2]?.getD undef = .pointer (some ⟨a, 0, none⟩) := by simpa using h2
  have h3' : tmps[3]?.getD undef = .pointer (some ⟨b, 0, none⟩) := by simpa using h3
  simp [results, Try.results21, h2', h3', go_sem, ha, hb]
theorem emptyRes_some {ps : List Pl} {k : Nat} (hk : k < ps.length) (hall : ∀ i, i < k → pF ps i = true) (hx : pF ps k = false) : emptyRes ps = .tuple #[.int .i64 (k : Nat), .bool true] := by
  unfold emptyRes
  have e : ps.findIdx? (fun p => !p.full) = some k := by
    rw [List.findIdx?_eq_some_iff_getElem]
    refine ⟨hk, ?_, fun j hj => ?_⟩
    · unfold pF at hx
      rw [List.getElem?_eq_getElem hk] at hx
      simpa using hx
    · have := hall j hj
      unfold pF at this
      rw [List.getElem?_eq_getElem (by omega)] at this
      simpa using this
  rw [e]
theorem range_snoc {k k' : Nat} {pre : List Nat} (h : List.range k' = pre ++ [k]) : k' = k + 1 ∧ pre = List.range k := by
  cases k' with
  | zero => simp at h
  | succ m =>
    rw [List.range_succ] at h
    have h1 := List.append_inj' h rfl
    have e : m = k := by simpa using h1.2
    subst e
    exact ⟨rfl, h1.1.symm⟩

set_option maxRecDepth 100000 in
set_option maxHeartbeats 2000000 in
theorem empty_in {n₀ : Nat} {w : World} {C g M : Nat} {s : Ck} (h : ClockAt n₀ w C g M s) : CallsIn Fence.wide 3 Try.prog 21 #[.pointer (some ⟨C, 0, none⟩)] w fun e w' => e = .returned (emptyRes s.ps) ∧ Below w.heap.size w w' := by
  have HLEN := Lib.hid (fun o1 o2 => callsIn_wide (n := 2).2 (len_any (h.same (((Below.refl _ w).alloc (Nat.le_refl _) o1).alloc (by simp) o2))))
  have HROOM := Lib.hid (fun o1 o2 => callsIn_wide (n := 2).2 (room_any (h.same (((Below.refl _ w).alloc (Nat.le_refl _) o1).alloc (by simp) o2))))
  have t1 : Fence.wide.fn 15 := trivial
  have t2 : Fence.wide.fn 5 := trivial
  have t3 : Fence.wide.fn 23 := trivial
  refine callsIn_of_wp_marks Try.func21 rfl trivial ?_ rfl
  simp only [Try.ntmps21, List.size_toArray, List.length_cons, List.length_nil, Nat.reduceAdd, Nat.reduceSub, Array.replicate_succ, Array.replicate_zero, List.push_toArray, List.append_toArray, List.nil_append, List.cons_append]
  have hth := h.things
  have hn2 := h.ok.n2
  have hlt := h.lt
  have hblk := h.blk
  have hrow := h.row
  have hcnt := h.ok.len
  by_cases hfull : s.m.length = s.ps.length
  · have e1 : ((s.m.length : Int) == (s.ps.length : Int)) = true := by rw [hfull]; simp
    have HE : Hid (emptyRes s.ps = .tuple #[.int .i64 0, .bool false]) := by
      unfold Hid emptyRes
      have : s.ps.findIdx? (fun p => !p.full) = none := by
        rw [List.findIdx?_eq_none_iff]
        intro p hp
        have := List.countP_eq_length.1 (hcnt.symm.trans hfull) p hp
        simp [this]
      rw [this]
    clear hcnt hfull h hblk hrow
    gi_wp2_with (first
      | (gi_at_call 15; refine (HLEN.out _ _).mono ?_; rintro e w' ⟨rfl, rfl⟩)
      | (gi_at_call 5; refine (HROOM.out _ _).mono ?_; rintro e w' ⟨rfl, rfl⟩))
    have b2 : Below w.heap.size w ((w.alloc (.cells #[.int .i64 0] 3)).alloc (.cells #[.bool false] 4)) := ((Below.refl _ w).alloc (Nat.le_refl _) _).alloc (by simp) _
    have c2 : ((w.alloc (.cells #[.int .i64 0] 3)).alloc (.cells #[.bool false] 4)).cell? ⟨w.heap.size, 0, none⟩ = some (.int .i64 0) := ((Boxed.new w _ _).alloc _).cell
    have c3 : ((w.alloc (.cells #[.int .i64 0] 3)).alloc (.cells #[.bool false] 4)).cell? ⟨w.heap.size + 1, 0, none⟩ = some (.bool false) := by
      have := (Boxed.new (w.alloc (.cells #[.int .i64 0] 3)) 4 (.bool false)).cell
      rw [World.size_alloc] at this
      exact this
    exact ⟨_, empty_res _ _ _ _ _ _ rfl rfl c2 c3, by rw [HE.out], b2⟩
  · have e1 : ((s.m.length : Int) == (s.ps.length : Int)) = false := by rw [beq_eq_false_iff_ne]; omega
    have hstops := fun B S W => all_stops Fence.wide 2 trivial rfl (by decide) B C g S s.ps (.map (some M)) (.int .i64 s.hand) hn2 hth W
    have HST := Lib.hid hstops
    have HBLK := Lib.hid hblk
    have HROW := Lib.hid hrow
    have HNF : Hid (¬ s.ps.countP (·.full) = s.ps.length) := by unfold Hid; rw [← hcnt]; exact hfull
    clear hstops hblk hrow h hcnt hfull
    gi_wp2_with (first
      | (gi_at_call 15; refine (HLEN.out _ _).mono ?_; rintro e w' ⟨rfl, rfl⟩)
      | (gi_at_call 5; refine (HROOM.out _ _).mono ?_; rintro e w' ⟨rfl, rfl⟩)
      | (gi_at_call 23; refine (all_in Fence.wide 2 trivial rfl _ _).mono ?_; rintro e w' ⟨rfl, rfl⟩))
    obtain ⟨w3, hw3⟩ : ∃ w3, ((w.alloc (.cells #[.int .i64 0] 3)).alloc (.cells #[.bool false] 4)).alloc (.cells #[.pointer (some ⟨C, 0, none⟩)] 23) = w3 := ⟨_, rfl⟩
    have z3 : w3.heap.size = w.heap.size + 3 := by rw [← hw3]; simp
    have b3 : Below w.heap.size w w3 := by rw [← hw3]; exact (((Below.refl _ w).alloc (Nat.le_refl _) _).alloc (by simp) _).alloc (by simp; omega) _
    have hr2 : Boxed w3 w.heap.size 3 (.int .i64 0) := by rw [← hw3]; exact ((Boxed.new w _ _).alloc _).alloc _
    have hr3 : Boxed w3 (w.heap.size + 1) 4 (.bool false) := by
      rw [← hw3]
      have := Boxed.new (w.alloc (.cells #[.int .i64 0] 3)) 4 (.bool false)
      rw [World.size_alloc] at this
      exact this.alloc _
    have hbox : w3.heap[w.heap.size + 2]? = some (.cells #[.pointer (some ⟨C, 0, none⟩)] 23 (0, 0)) := by
      rw [← hw3]
      have := heap_alloc_new ((w.alloc (.cells #[.int .i64 0] 3)).alloc (.cells #[.bool false] 4)) (.cells #[.pointer (some ⟨C, 0, none⟩)] 23)
      rw [World.size_alloc, World.size_alloc] at this
      exact this
    rw [hw3]
    have hgC : w3.heap[C]? = _ := (b3.block C hlt.1).trans HBLK.out
    have hgg : w3.heap[g]? = _ := (b3.block g hlt.2.1).trans HROW.out
    clear hw3
    refine rangeFunc_boxed rfl (by decide) (gf := 25) (lb := #[.pointer (some ⟨w.heap.size + 1 + 1, 0, none⟩)]) rfl trivial (enters_of Try.func25 (by kernel_rfl) rfl)
      (HST.out (w.heap.size + 1 + 1) (fun b => b = g) w3 rfl hbox hgC hgg) keepsAt_t keepsAt_b (Below.refl _ _) (fun _ => rfl)
      (fun xs W => (∀ i ∈ xs, pF s.ps i = true) ∧ (Boxed W w.heap.size 3 (.int .i64 0) ∧ Boxed W (w.heap.size + 1) 4 (.bool false)) ∧ Below w3.heap.size w3 W)
      (fun c xs W => c = .ret ∧ (∃ k, (∃ pre, xs = pre ++ [k] ∧ ∀ i ∈ pre, pF s.ps i = true) ∧ pF s.ps k = false ∧ Boxed W w.heap.size 3 (.int .i64 (k : Nat)) ∧ Boxed W (w.heap.size + 1) 4 (.bool true)) ∧ Below w.heap.size w W)
      ?hI ?hIx ⟨fun i hi => absurd hi (by simp), ⟨hr2, hr3⟩, Below.refl _ _⟩
      56 (fun i => #[.bool (pF s.ps i), .bool (pM s.ps i), .int .i64 (pK s.ps i), .int .i64 (pTI s.ps i)]) (fun _ _ h => h.2.2.size) (fun W o => KeepsAt.alloc W o) ?round ?done ?stop
    case hI => exact OwnFrom.and (ownFrom_pure _ _) (OwnFrom.and (OwnFrom.and (ownFrom_boxed _ _ _ _) (ownFrom_boxed _ _ _ _)) (ownFrom_below (Nat.le_refl _) (Nat.le_refl _)))
    case hIx =>
      intro c
      refine OwnFrom.and (ownFrom_pure _ _) (OwnFrom.and ?_ (ownFrom_below (Nat.le_refl _) (by omega)))
      rintro xs X Y row ⟨k, h1, h2, h3, h4⟩ hg hr
      exact ⟨k, h1, h2, ownFrom_boxed w3.heap.size _ _ _ () X Y row h3 hg hr, ownFrom_boxed w3.heap.size _ _ _ () X Y row h4 hg hr⟩
    case round =>
      apply Exists.intro
      apply And.intro
      · intro l x W b K hb hK
        unfold plEnc
        gi_wp2
        rw [← hb]
        exact hK
      · rintro l pre x b W ⟨hall, ⟨hv2, hv3⟩, hB⟩ hbl hbk hlt2
        have d0 : W.cell? ⟨b, 0, none⟩ = some (.bool (pF s.ps x)) := blk_cell hbk 0
        have q2 := hv2.cell
        have q3 := hv3.cell
        have g2 := hv2.frozen
        have g3 := hv3.frozen
        cases hx : pF s.ps x with
        | true =>
          rw [hx] at d0
          have HALL := Lib.hid hall
          have HX := Lib.hid hx
          clear hall hx
          gi_wp2
          refine ⟨KeepsFrom.refl _ _, KeepsAt.refl _ _, fun i hi => ?_, ⟨hv2, hv3⟩, hB⟩
          rcases List.mem_append.1 hi with h1 | h1
          · exact HALL.out i h1
          · rw [List.mem_singleton.1 h1]; exact HX.out
        | false =>
          rw [hx] at d0
          have HALL := Lib.hid hall
          have HX := Lib.hid hx
          clear hall hx
          gi_wp2
          refine ⟨((KeepsOthers.setCell _ _ _).trans (KeepsOthers.setCell _ _ _)).from _, rfl, ⟨x, ⟨pre, rfl, HALL.out⟩, HX.out, (hv2.set _).other (by omega) _, (hv3.other (by omega) _).set _⟩, ?_⟩
          exact ((b3.trans (hB.mono (by omega))).setCell (p := ⟨w.heap.size, 0, none⟩) (Nat.le_refl _) _).setCell (p := ⟨w.heap.size + 1, 0, none⟩) (by show w.heap.size ≤ w.heap.size + 1; omega) _
    case done =>
      rintro D ys W hD rfl ⟨hall, _, _⟩ hK
      exfalso
      refine HNF.out ?_
      rw [List.countP_eq_length]
      intro p hp
      obtain ⟨i, hi, rfl⟩ := List.mem_iff_getElem.1 hp
      have := hall i (List.mem_range.2 hi)
      unfold pF at this
      rw [List.getElem?_eq_getElem hi] at this
      exact this
    case stop =>
      rintro D c pre' W hD ⟨k', hk', rfl⟩ ⟨rfl, ⟨k, ⟨pre, hpre, hall⟩, hx, hv2, hv3⟩, hB⟩ hK
      obtain ⟨rfl, rfl⟩ := range_snoc hpre
      have HE : Hid (emptyRes s.ps = .tuple #[.int .i64 (k : Nat), .bool true]) := emptyRes_some (by omega) (fun i hi => hall i (List.mem_range.2 hi)) hx
      have c2 := hv2.cell
      have c3 := hv3.cell
      clear hpre hall
      gi_wp2
      refine ⟨by simp, .inl ⟨_, _, rfl, run_takeDeferred hK, ?_⟩⟩
      refine ⟨_, empty_res _ _ _ (k : Nat) true _ rfl rfl ?_ ?_, by rw [HE.out], ?_⟩
      · exact (World.cell?_of_block (w := W) (put_other (by show w.heap.size ≠ D; omega))).trans c2
      · exact (World.cell?_of_block (w := W) (put_other (by show w.heap.size + 1 ≠ D; omega))).trans c3
      · exact hB.trans ((put_moves W D _).below (fun i hi => by omega) hB.size)
theorem empty_any {n₀ : Nat} {w : World} {C g M : Nat} {s : Ck} (h : ClockAt n₀ w C g M s) : Calls Try.prog 21 #[.pointer (some ⟨C, 0, none⟩)] w fun e w' => e = .returned (emptyRes s.ps) ∧ Below w.heap.size w w' := callsIn_wide.1 (empty_in h)
end Go.Proofs.Ytadhkciggiefbaa

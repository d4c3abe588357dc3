/-
  bucket: Drop, Fresh, Split.
  Conditions: none.
-/
import Derived.Test.YtpihncafmjbccaaBkt2
import Derived.Test.YtpihncafmjbccaaMix
import Derived.BigQuiet
import Derived.Deep.QuietTactic
namespace Go.Proofs.Ytpihncafmjbccaa
open Go.RowKit

theorem below_drewN {n : Nat} {a b : World} (h : Below n a b) (k : Nat) : Below n a (b.drewN k) := ⟨h.os, h.tape, h.output, h.size, h.block⟩
/-- A bucket's three cells. -/
def bktC (d p : Int) (v : Value) : Array Value := #[.int .i64 d, .int .i64 p, v]
theorem bkt_sz (d p : Int) (v : Value) : (Try.prog.info? 32).map (·.size) = some (bktC d p v).size := by show _ = some 3; kernel_rfl
theorem bkt_one (d p : Int) (a : Option Addr) (n c : Nat) : (bktC d p (.slice a n c)).all (·.oneCell') = true := by simp [bktC, Value.oneCell']
theorem keepsAt_setRow (W : World) (g : Nat) (cs : Array Value) : KeepsAt (fun k => k ≠ g) W (W.setRow g cs) := fun b hb _ _ _ e => (setRow_other W g b cs hb).trans e
/-- Entries lie beside a block that is set. -/
theorem EntsAt.setRow {n : Nat} {W : World} {a : Option Addr} {m c : Nat} {l : List Ent} {g : Nat} {old : Array Value} {t : TypeId} (h : EntsAt n W (.slice a m c) l) (hg : W.heap[g]? = some (.cells old t (0, 0))) (hno : ∀ (x : BitVec 64) (j : Nat), (old[j]? : Option Value) ≠ some (Value.int .u64 (U x))) (cs : Array Value) : EntsAt n (W.setRow g cs) (.slice a m c) l := by
  obtain ⟨a', c', e, hl, h⟩ := h
  cases e
  refine ⟨_, _, rfl, hl, ?_⟩
  by_cases he : l = []
  · exact .inl he
  rcases h with h | ⟨g', off, rfl, hg', hc⟩
  · exact .inl h
  · refine .inr ⟨g', off, rfl, hg', fun i hi => ?_⟩
    obtain ⟨h0, h1, h2, h3⟩ := hc i hi
    have hne : g' ≠ g := by
      rintro rfl
      rw [blk_cell hg] at h0
      exact hno _ _ h0
    exact ⟨(cell_setRow_other W g cs _ hne).trans h0, (cell_setRow_other W g cs _ hne).trans h1, (cell_setRow_other W g cs _ hne).trans h2, (cell_setRow_other W g cs _ hne).trans h3⟩
theorem bkt_no (d p : Int) (a : Option Addr) (m c : Nat) : ∀ (x : BitVec 64) (j : Nat), ((bktC d p (.slice a m c))[j]? : Option Value) ≠ some (Value.int .u64 (U x)) := by
  intro x j h
  match j with
  | 0 => simp [bktC] at h
  | 1 => simp [bktC] at h
  | 2 => simp [bktC] at h
  | j + 3 => simp [bktC] at h

/-! What is asked of an entry -/
set_option maxHeartbeats 1000000 in
theorem drop1_any (x : Ent) (H : Nat) (h : BitVec 64) (W : World) (hc : W.cell? ⟨H, 0, none⟩ = some (.int .u64 (U h))) :
    Calls Try.prog 24 #[.agg x.cells, .pointer (some ⟨H, 0, none⟩)] W fun e W' => e = .returned (.bool (decide (x.hash = h))) ∧ Below W.heap.size W W' := by
  have HR := U_beq x.hash h
  have hc' : (W.alloc (.cells #[.int .u64 (U x.hash), .int .i64 x.reg, .int .i64 x.at_, .int .i64 x.size] 40)).cell? ⟨H, 0, none⟩ = some (.int .u64 (U h)) := (World.cell?_of_block (Below.heap_alloc _ _ _ (World.block_lt_of_cell? _ _ hc))).trans hc
  unfold Ent.cells
  go_enter Try.func24, Try.ntmps24
  go_wp2
  go_ret
  exact ⟨rfl, (Below.refl _ W).alloc (Nat.le_refl _) _⟩
set_option maxHeartbeats 1000000 in
theorem fresh1_any (x : Ent) (H : Nat) (o : Int) (W : World) (hc : W.cell? ⟨H, 0, none⟩ = some (.int .i64 o)) :
    Calls Try.prog 29 #[.agg x.cells, .pointer (some ⟨H, 0, none⟩)] W fun e W' => e = .returned (.bool (decide (x.reg < o))) ∧ Below W.heap.size W W' := by
  have hc' : (W.alloc (.cells #[.int .u64 (U x.hash), .int .i64 x.reg, .int .i64 x.at_, .int .i64 x.size] 40)).cell? ⟨H, 0, none⟩ = some (.int .i64 o) := (World.cell?_of_block (Below.heap_alloc _ _ _ (World.block_lt_of_cell? _ _ hc))).trans hc
  unfold Ent.cells
  go_enter Try.func29, Try.ntmps29
  go_wp2
  go_ret
  exact ⟨rfl, (Below.refl _ W).alloc (Nat.le_refl _) _⟩
/-- The highest b bits of a number; 0, if b is out of bounds. -/
def preI (x : BitVec 64) (b : Int) : Int := if 1 ≤ b ∧ b ≤ 30 then pre x b.toNat else 0
theorem prefix_any (x : BitVec 64) (b : Int) (w : World) :
    Calls Try.prog 26 #[.int .u64 (U x), .int .i64 b] w fun e w' => e = .returned (.int .i64 (preI x b)) ∧ w = w' := by
  unfold preI
  by_cases h : 1 ≤ b ∧ b ≤ 30
  · rw [if_pos h]; exact prefix_in x b h.1 h.2 w
  · rw [if_neg h]; exact prefix_out x b (by omega) w
set_option maxHeartbeats 1000000 in
theorem split1_any (x : Ent) (H1 H2 : Nat) (d p : Int) (W : World) (hc1 : W.cell? ⟨H1, 0, none⟩ = some (.int .i64 d)) (hc2 : W.cell? ⟨H2, 0, none⟩ = some (.int .i64 p)) :
    Calls Try.prog 25 #[.agg x.cells, .pointer (some ⟨H1, 0, none⟩), .pointer (some ⟨H2, 0, none⟩)] W fun e W' => e = .returned (.bool (preI x.hash d == p)) ∧ Below W.heap.size W W' := by
  have hp := fun W => prefix_any x.hash d W
  have hcc1 : (W.alloc (.cells #[.int .u64 (U x.hash), .int .i64 x.reg, .int .i64 x.at_, .int .i64 x.size] 40)).cell? ⟨H1, 0, none⟩ = some (.int .i64 d) := (World.cell?_of_block (Below.heap_alloc _ _ _ (World.block_lt_of_cell? _ _ hc1))).trans hc1
  have hcc2 : (W.alloc (.cells #[.int .u64 (U x.hash), .int .i64 x.reg, .int .i64 x.at_, .int .i64 x.size] 40)).cell? ⟨H2, 0, none⟩ = some (.int .i64 p) := (World.cell?_of_block (Below.heap_alloc _ _ _ (World.block_lt_of_cell? _ _ hc2))).trans hc2
  have HB := Lib.hid ((Below.refl _ W).alloc (Nat.le_refl _) (.cells #[.int .u64 (U x.hash), .int .i64 x.reg, .int .i64 x.at_, .int .i64 x.size] 40))
  unfold Ent.cells
  go_enter Try.func25, Try.ntmps25
  go_wp2
  go_quiet ((go_at_call 26; exact Calls.quiet_of_same ((hp _).mono fun _ _ h => ⟨h.1, h.2.symm⟩)))
  go_wp2
  go_ret
  exact ⟨rfl, below_drewN HB.out _⟩

theorem all_any (x1 x2 : Int) (a : Option Addr) (m c : Nat) (w : World) : Calls Try.prog 22 #[.agg #[.int .i64 x1, .int .i64 x2, .slice a m c]] w fun e w' => e = .returned (.func (.func 34) #[] #[.pointer (some ⟨w.heap.size, 0, none⟩)]) ∧ w.alloc (.cells #[.int .i64 x1, .int .i64 x2, .slice a m c] 32) = w' :=
  callsIn_wide.1 (all_in Fence.wide 3 trivial rfl x1 x2 a m c w)
/-- A bucket that is answered. -/
def BktRet (d p : Int) (l : List Ent) (w : World) (e : Ending) (w' : World) : Prop := ∃ a n c, e = .returned (.agg (bktC d p (.slice a n c))) ∧ EntsAt w'.heap.size w' (.slice a n c) l ∧ Below w.heap.size w w'
/-- The four blocks that Drop and Fresh lay. -/
theorem lay4 (w : World) (d p : Int) (u v : Value) (t : TypeId) (a : Option Addr) (m c : Nat) (es : List Ent) (hE : EntsAt w.heap.size w (.slice a m c) es) (w4 : World)
    (hw4 : ((((w.alloc (.cells #[.int .i64 d, .int .i64 p, .slice a m c] 32)).alloc (.cells #[u] t)).alloc (.cells #[.int .i64 0, .int .i64 0, v] 32)).alloc (.cells #[.int .i64 d, .int .i64 p, .slice a m c] 32)) = w4) :
    w4.heap.size = w.heap.size + 4 ∧ Below w.heap.size w w4 ∧ w4.heap[w.heap.size]? = some (.cells #[.int .i64 d, .int .i64 p, .slice a m c] 32 (0, 0)) ∧ Boxed w4 (w.heap.size + 1) t u ∧ w4.heap[w.heap.size + 2]? = some (.cells (bktC 0 0 v) 32 (0, 0)) ∧ w4.heap[w.heap.size + 1 + 1 + 1]? = some (.cells #[.int .i64 d, .int .i64 p, .slice a m c] 32 (0, 0)) ∧ EntsAt w4.heap.size w4 (.slice a m c) es := by
  have b : Below w.heap.size w w4 := by rw [← hw4]; exact ((((Below.refl _ w).alloc (Nat.le_refl _) _).alloc (by simp) _).alloc (by simp; omega) _).alloc (by simp; omega) _
  refine ⟨by rw [← hw4]; simp, b, ?_, ?_, ?_, ?_, hE.next b⟩
  · rw [← hw4]; exact blk_alloc (blk_alloc (blk_alloc (heap_alloc_new _ _) _) _) _
  · rw [← hw4]
    have := heap_alloc_new (w.alloc (.cells #[.int .i64 d, .int .i64 p, .slice a m c] 32)) (.cells #[u] t)
    rw [World.size_alloc] at this
    exact blk_alloc (blk_alloc this _) _
  · rw [← hw4]
    have := heap_alloc_new ((w.alloc (.cells #[.int .i64 d, .int .i64 p, .slice a m c] 32)).alloc (.cells #[u] t)) (.cells #[.int .i64 0, .int .i64 0, v] 32)
    rw [World.size_alloc, World.size_alloc] at this
    exact blk_alloc this _
  · rw [← hw4]
    have := heap_alloc_new (((w.alloc (.cells #[.int .i64 d, .int .i64 p, .slice a m c] 32)).alloc (.cells #[u] t)).alloc (.cells #[.int .i64 0, .int .i64 0, v] 32)) (.cells #[.int .i64 d, .int .i64 p, .slice a m c] 32)
    rw [World.size_alloc, World.size_alloc, World.size_alloc] at this
    exact this
set_option maxRecDepth 100000 in
set_option maxHeartbeats 4000000 in
theorem fresh_any (d p o : Int) (a : Option Addr) (m c : Nat) (es : List Ent) (w : World) (hE : EntsAt w.heap.size w (.slice a m c) es) (hlen : es.length ≤ 1073741824) :
    Calls Try.prog 16 #[.agg #[.int .i64 d, .int .i64 p, .slice a m c], .int .i64 o] w (BktRet d p (es.filter fun x => !decide (x.reg < o)) w) := by
  obtain ⟨_, _, e0, _⟩ := hE.slice
  cases e0
  obtain ⟨w4, hw4⟩ : ∃ w4, ((((w.alloc (.cells #[.int .i64 d, .int .i64 p, .slice a es.length c] 32)).alloc (.cells #[.int .i64 o] 3)).alloc (.cells #[.int .i64 0, .int .i64 0, .slice none 0 0] 32)).alloc (.cells #[.int .i64 d, .int .i64 p, .slice a es.length c] 32)) = w4 := ⟨_, rfl⟩
  obtain ⟨z4, b4, k0, k1, k2, k3, hE4⟩ := lay4 w d p _ _ _ a _ c es hE w4 hw4
  have HPART := Lib.hid (part_any 29 #[.pointer (some ⟨w.heap.size + 1, 0, none⟩)] (fun x => decide (x.reg < o)) _ es d p a c w4 hlen k3 hE4 (enters_of Try.func29 (by kernel_rfl) rfl) (fun x W hb => fresh1_any x _ o W ((hb.cell (p := ⟨w.heap.size + 1, 0, none⟩) k1.lt).trans k1.cell)))
  have HK0 := Lib.hid k0
  have HK2 := Lib.hid k2
  have HB4 := Lib.hid b4
  clear hE hE4 k0 k1 k2 k3 b4 hlen
  go_enter Try.func16, Try.ntmps16
  go_wp2_with (first
    | (go_at_call 22; (with_reducible refine (all_any _ _ _ _ _ _).mono ?_); rintro e w' ⟨rfl, rfl⟩; rw [hw4])
    | (go_at_call 23; (with_reducible refine HPART.out.mono ?_); rintro e w5 ⟨a1, n1, c1, a2, n2, c2, rfl, h1, h2, hfr, h5⟩; have HFR := Lib.hid hfr; clear hfr; have HE1 := Lib.hid h1; have HE2 := Lib.hid h2; have HB5 := Lib.hid h5; have c0 : w5.cell? ⟨w.heap.size, 0, none⟩ = some (.int .i64 d) := (h5.cell (p := ⟨w.heap.size, 0, none⟩) (blk_lt HK0.out)).trans (blk_cell HK0.out 0); have c1 : w5.cell? ⟨w.heap.size, 1, none⟩ = some (.int .i64 p) := (h5.cell (p := ⟨w.heap.size, 1, none⟩) (blk_lt HK0.out)).trans (blk_cell HK0.out 1); have HZ5 := Lib.hid ((h5.block _ (blk_lt HK2.out)).trans HK2.out); clear h1 h2 h5)
    | (refine wpList_store_row (o := ⟨none, _, _, _, _, _⟩) rfl 32 (.tmp 4) (.tmp 19) rfl (w.heap.size + 2) (bktC d p (.slice a2 n2 c2)) rfl rfl 32 (bktC 0 0 (.slice none 0 0)) HZ5.out (bkt_sz _ _ _) rfl ?_ ?_; exact bkt_one _ _ _ _ _))
  have hend := setRow_heap w5 (w.heap.size + 2) _ (bktC d p (.slice a2 n2 c2)) _ _ HZ5.out
  refine bodyPost_ret (results_cell_row rfl _ _ (w.heap.size + 2) 32 (bktC d p (.slice a2 n2 c2)) (0, 0) _ rfl hend Try.underlying32 rfl (bkt_sz _ _ _)) rfl ⟨_, _, _, rfl, (HE2.out.setRow HZ5.out (bkt_no _ _ _ _ _) _).tight, below_setRow (HB4.out.trans (HB5.out.mono HB4.out.size)) (by omega) _⟩
/-- A bucket that is answered, and whether an entry was taken out. -/
def BktDrop (d p : Int) (l : List Ent) (is : Bool) (w : World) (e : Ending) (w' : World) : Prop := ∃ a n c, e = .returned (.tuple #[.agg (bktC d p (.slice a n c)), .bool is]) ∧ EntsAt w'.heap.size w' (.slice a n c) l ∧ FreshS w.heap.size (.slice a n c) ∧ Below w.heap.size w w'
theorem drop_res (w : World) (g : Nat) (cs : Array Value) (b : Bool) (tmps : Array Value) (h4 : tmps.getD 4 undef = .pointer (some ⟨g, 0, none⟩)) (h5 : tmps.getD 5 undef = .bool b) (hg : w.heap[g]? = some (.cells cs 32 (0, 0))) (hs : (Try.prog.info? 32).map (·.size) = some cs.size) :
    (results Try.f10 tmps).run Try.prog w = .ok (.tuple #[.agg cs, .bool b]) w := by
  have h4' : tmps[4]?.getD undef = .pointer (some ⟨g, 0, none⟩) := by simpa using h4
  have h5' : tmps[5]?.getD undef = .bool b := by simpa using h5
  simp [results, Try.results10, h4', h5', asAddr, run_loadVar_row w g 32 32 cs (0, 0) _ hg Try.underlying32 rfl hs]
set_option maxRecDepth 100000 in
set_option maxHeartbeats 4000000 in
theorem drop_any (d p : Int) (h : BitVec 64) (a : Option Addr) (m c : Nat) (es : List Ent) (w : World) (hE : EntsAt w.heap.size w (.slice a m c) es) (hlen : es.length ≤ 1073741824) :
    Calls Try.prog 10 #[.agg #[.int .i64 d, .int .i64 p, .slice a m c], .int .u64 (U h)] w (BktDrop d p (es.filter fun x => !decide (x.hash = h)) (decide (0 < (es.filter fun x => decide (x.hash = h)).length)) w) := by
  obtain ⟨_, _, e0, _⟩ := hE.slice
  cases e0
  obtain ⟨w4, hw4⟩ : ∃ w4, ((((w.alloc (.cells #[.int .i64 d, .int .i64 p, .slice a es.length c] 32)).alloc (.cells #[.int .u64 (U h)] 25)).alloc (.cells #[.int .i64 0, .int .i64 0, .slice none 0 0] 32)).alloc (.cells #[.int .i64 d, .int .i64 p, .slice a es.length c] 32)) = w4 := ⟨_, rfl⟩
  obtain ⟨z4, b4, k0, k1, k2, k3, hE4⟩ := lay4 w d p _ _ _ a _ c es hE w4 hw4
  have HPART := Lib.hid (part_any 24 #[.pointer (some ⟨w.heap.size + 1, 0, none⟩)] (fun x => decide (x.hash = h)) _ es d p a c w4 hlen k3 hE4 (enters_of Try.func24 (by kernel_rfl) rfl) (fun x W hb => drop1_any x _ h W ((hb.cell (p := ⟨w.heap.size + 1, 0, none⟩) k1.lt).trans k1.cell)))
  have HK0 := Lib.hid k0
  have HK2 := Lib.hid k2
  have HB4 := Lib.hid b4
  clear hE hE4 k0 k1 k2 k3 b4 hlen
  go_enter Try.func10, Try.ntmps10
  go_wp2_with (first
    | (go_at_call 22; (with_reducible refine (all_any _ _ _ _ _ _).mono ?_); rintro e w' ⟨rfl, rfl⟩; rw [hw4])
    | (go_at_call 23; (with_reducible refine HPART.out.mono ?_); rintro e w5 ⟨a1, n1, c1, a2, n2, c2, rfl, h1, h2, hfr, h5⟩; have HFR := Lib.hid hfr; clear hfr; have HE1 := Lib.hid h1; have HE2 := Lib.hid h2; have HB5 := Lib.hid h5; have c0 : w5.cell? ⟨w.heap.size, 0, none⟩ = some (.int .i64 d) := (h5.cell (p := ⟨w.heap.size, 0, none⟩) (blk_lt HK0.out)).trans (blk_cell HK0.out 0); have c1 : w5.cell? ⟨w.heap.size, 1, none⟩ = some (.int .i64 p) := (h5.cell (p := ⟨w.heap.size, 1, none⟩) (blk_lt HK0.out)).trans (blk_cell HK0.out 1); have HZ5 := Lib.hid ((h5.block _ (blk_lt HK2.out)).trans HK2.out); clear h1 h2 h5)
    | (refine wpList_store_row (o := ⟨none, _, _, _, _, _⟩) rfl 32 (.tmp 4) (.tmp 20) rfl (w.heap.size + 2) (bktC d p (.slice a2 n2 c2)) rfl rfl 32 (bktC 0 0 (.slice none 0 0)) HZ5.out (bkt_sz _ _ _) rfl ?_ ?_; exact bkt_one _ _ _ _ _))
  have hend := setRow_heap w5 (w.heap.size + 2) _ (bktC d p (.slice a2 n2 c2)) _ _ HZ5.out
  obtain ⟨_, _, e1, _⟩ := HE1.out.slice
  cases e1
  refine bodyPost_ret (drop_res _ _ _ _ _ rfl rfl hend (bkt_sz _ _ _)) rfl ⟨_, _, _, ?_, (HE2.out.setRow HZ5.out (bkt_no _ _ _ _ _) _).tight, fun k e => Nat.le_trans HB4.out.size (HFR.out.1.2 k e), below_setRow (HB4.out.trans (HB5.out.mono HB4.out.size)) (by omega) _⟩
  congr 4
end Go.Proofs.Ytpihncafmjbccaa

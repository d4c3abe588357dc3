/-
  bucket: Split.
  Conditions: none.
-/
import Derived.Test.YtpihncafmjbccaaBkt3
import Derived.BigRegionIn
import Derived.Deep.DeepCutAuto
import Derived.StillTailTactics
namespace Go.Proofs.Ytpihncafmjbccaa
open Go.RowKit

/-- Two buckets' six cells. -/
def bkt2C (d p q : Int) (v u : Value) : Array Value := #[.int .i64 d, .int .i64 p, v, .int .i64 d, .int .i64 q, u]
theorem bkt2_sz (d p q : Int) (v u : Value) : (Try.prog.info? 44).map (·.size) = some (bkt2C d p q v u).size := by show _ = some 6; kernel_rfl
theorem bkt2_one (d p q : Int) (a b : Option Addr) (n c m e : Nat) : (bkt2C d p q (.slice a n c) (.slice b m e)).all (·.oneCell') = true := by simp [bkt2C, Value.oneCell']
theorem bkt2_no (d p q : Int) (a b : Option Addr) (n c m e : Nat) : ∀ (x : BitVec 64) (j : Nat), ((bkt2C d p q (.slice a n c) (.slice b m e))[j]? : Option Value) ≠ some (Value.int .u64 (U x)) := by
  intro x j h
  match j with
  | 0 => simp [bkt2C] at h
  | 1 => simp [bkt2C] at h
  | 2 => simp [bkt2C] at h
  | 3 => simp [bkt2C] at h
  | 4 => simp [bkt2C] at h
  | 5 => simp [bkt2C] at h
  | j + 6 => simp [bkt2C] at h
theorem or_one (p : Nat) (hp : p < 1048576) : bits .or .i64 ((p : Int) * 2) 1 = (p : Int) * 2 + 1 := by
  have h := (bits_nat .i64 62 (by decide) (fun n h0 h1 => by rw [IntKind.wrap_i64]; omega) (p * 2) 1 (by omega) (by omega)).2
  have e : p * 2 ||| 1 = p * 2 + 1 := by
    have := Nat.two_pow_add_eq_or_of_lt (i := 1) (b := 1) (by decide) p
    rw [Nat.mul_comm]
    simpa using this.symm
  rw [e] at h
  simpa using h

/-- Two buckets that are answered. -/
def SplitRet (d p : Int) (l : List Ent) (w : World) (e : Ending) (w' : World) : Prop := ∃ a n c b m k, e = .returned (.agg (bkt2C (d + 1) (p * 2) (p * 2 + 1) (.slice a n c) (.slice b m k))) ∧ EntsAt w'.heap.size w' (.slice a n c) (l.filter fun x => preI x.hash (d + 1) == p * 2) ∧ EntsAt w'.heap.size w' (.slice b m k) (l.filter fun x => !(preI x.hash (d + 1) == p * 2)) ∧ (NilS (.slice a n c) ∧ NilS (.slice b m k)) ∧ Below w.heap.size w w'
/-- What is there when the halves' depth and prefix are laid. -/
structure SplitAt (w : World) (d p : Int) (a : Option Addr) (n c : Nat) (es : List Ent) (H1 H2 : Nat) (W : World) : Prop where
  bel : Below w.heap.size w W
  size : w.heap.size + 4 ≤ W.heap.size
  blk : W.heap[w.heap.size]? = some (.cells #[.int .i64 d, .int .i64 p, .slice a n c] 32 (0, 0))
  res : W.heap[w.heap.size + 1]? = some (.cells (bkt2C 0 0 0 (.slice none 0 0) (.slice none 0 0)) 44 (0, 0))
  one : Boxed W H1 3 (.int .i64 (d + 1))
  two : Boxed W H2 3 (.int .i64 (p * 2))
  ents : EntsAt W.heap.size W (.slice a n c) es
theorem splitAt_a (w : World) (d p : Int) (a : Option Addr) (n c : Nat) (es : List Ent) (hE : EntsAt w.heap.size w (.slice a n c) es) :
    SplitAt w d p a n c es (w.heap.size + 2) (w.heap.size + 3) ((((w.alloc (.cells #[.int .i64 d, .int .i64 p, .slice a n c] 32)).alloc (.cells #[.int .i64 0, .int .i64 0, .slice none 0 0, .int .i64 0, .int .i64 0, .slice none 0 0] 44)).alloc (.cells #[.int .i64 (d + 1)] 3)).alloc (.cells #[.int .i64 (p * 2)] 3)).drew := by
  have b : Below w.heap.size w ((((w.alloc (.cells #[.int .i64 d, .int .i64 p, .slice a n c] 32)).alloc (.cells #[.int .i64 0, .int .i64 0, .slice none 0 0, .int .i64 0, .int .i64 0, .slice none 0 0] 44)).alloc (.cells #[.int .i64 (d + 1)] 3)).alloc (.cells #[.int .i64 (p * 2)] 3)).drew := (((((Below.refl _ w).alloc (Nat.le_refl _) _).alloc (by simp) _).alloc (by simp; omega) _).alloc (by simp; omega) _).drew
  refine ⟨b, by simp [World.drew], ?_, ?_, ?_, ?_, hE.next b⟩
  · exact blk_alloc (blk_alloc (blk_alloc (heap_alloc_new _ _) _) _) _
  · have := heap_alloc_new (w.alloc (.cells #[.int .i64 d, .int .i64 p, .slice a n c] 32)) (.cells #[.int .i64 0, .int .i64 0, .slice none 0 0, .int .i64 0, .int .i64 0, .slice none 0 0] 44)
    rw [World.size_alloc] at this
    exact blk_alloc (blk_alloc this _) _
  · have := heap_alloc_new ((w.alloc (.cells #[.int .i64 d, .int .i64 p, .slice a n c] 32)).alloc (.cells #[.int .i64 0, .int .i64 0, .slice none 0 0, .int .i64 0, .int .i64 0, .slice none 0 0] 44)) (.cells #[.int .i64 (d + 1)] 3)
    rw [World.size_alloc, World.size_alloc] at this
    exact blk_alloc this _
  · have := heap_alloc_new (((w.alloc (.cells #[.int .i64 d, .int .i64 p, .slice a n c] 32)).alloc (.cells #[.int .i64 0, .int .i64 0, .slice none 0 0, .int .i64 0, .int .i64 0, .slice none 0 0] 44)).alloc (.cells #[.int .i64 (d + 1)] 3)) (.cells #[.int .i64 (p * 2)] 3)
    rw [World.size_alloc, World.size_alloc, World.size_alloc] at this
    exact this
theorem splitAt_b (w : World) (d p : Int) (a : Option Addr) (n c : Nat) (es : List Ent) (hE : EntsAt w.heap.size w (.slice a n c) es) :
    SplitAt w d p a n c es (w.heap.size + 3) (w.heap.size + 2) ((((w.alloc (.cells #[.int .i64 d, .int .i64 p, .slice a n c] 32)).alloc (.cells #[.int .i64 0, .int .i64 0, .slice none 0 0, .int .i64 0, .int .i64 0, .slice none 0 0] 44)).alloc (.cells #[.int .i64 (p * 2)] 3)).alloc (.cells #[.int .i64 (d + 1)] 3)).drew := by
  have b : Below w.heap.size w ((((w.alloc (.cells #[.int .i64 d, .int .i64 p, .slice a n c] 32)).alloc (.cells #[.int .i64 0, .int .i64 0, .slice none 0 0, .int .i64 0, .int .i64 0, .slice none 0 0] 44)).alloc (.cells #[.int .i64 (p * 2)] 3)).alloc (.cells #[.int .i64 (d + 1)] 3)).drew := (((((Below.refl _ w).alloc (Nat.le_refl _) _).alloc (by simp) _).alloc (by simp; omega) _).alloc (by simp; omega) _).drew
  refine ⟨b, by simp [World.drew], ?_, ?_, ?_, ?_, hE.next b⟩
  · exact blk_alloc (blk_alloc (blk_alloc (heap_alloc_new _ _) _) _) _
  · have := heap_alloc_new (w.alloc (.cells #[.int .i64 d, .int .i64 p, .slice a n c] 32)) (.cells #[.int .i64 0, .int .i64 0, .slice none 0 0, .int .i64 0, .int .i64 0, .slice none 0 0] 44)
    rw [World.size_alloc] at this
    exact blk_alloc (blk_alloc this _) _
  · have := heap_alloc_new (((w.alloc (.cells #[.int .i64 d, .int .i64 p, .slice a n c] 32)).alloc (.cells #[.int .i64 0, .int .i64 0, .slice none 0 0, .int .i64 0, .int .i64 0, .slice none 0 0] 44)).alloc (.cells #[.int .i64 (p * 2)] 3)) (.cells #[.int .i64 (d + 1)] 3)
    rw [World.size_alloc, World.size_alloc, World.size_alloc] at this
    exact this
  · have := heap_alloc_new ((w.alloc (.cells #[.int .i64 d, .int .i64 p, .slice a n c] 32)).alloc (.cells #[.int .i64 0, .int .i64 0, .slice none 0 0, .int .i64 0, .int .i64 0, .slice none 0 0] 44)) (.cells #[.int .i64 (p * 2)] 3)
    rw [World.size_alloc, World.size_alloc] at this
    exact blk_alloc this _
set_option maxRecDepth 100000 in
set_option maxHeartbeats 4000000 in
theorem split_any (d p : Nat) (hd : d ≤ 8) (hp : p < 1048576) (a : Option Addr) (m c : Nat) (es : List Ent) (w : World) (hE : EntsAt w.heap.size w (.slice a m c) es) (hlen : es.length ≤ 1073741824) :
    Calls Try.prog 11 #[.agg #[.int .i64 d, .int .i64 p, .slice a m c]] w (SplitRet d p es w) := by
  obtain ⟨_, _, e0, _⟩ := hE.slice
  cases e0
  have e1 : wrap64 ((d : Int) + 1) = d + 1 := IntWalk.wrap64_in _ ⟨by omega, by omega⟩
  have e2 : wrap64 ((p : Int) * 2) = p * 2 :=  IntWalk.wrap64_in _ ⟨by omega, by omega⟩
  have e3 := or_one p hp
  go_enter Try.func11, Try.ntmps11
  have HT1 := Lib.hid (splitAt_a w d p a es.length c es hE)
  have HT2 := Lib.hid (splitAt_b w d p a es.length c es hE)
  go_upto_region 1 with (fail)
  go_cut [3, 4] (fun s3 s4 wx => ∃ H1 H2, s3 = .pointer (some ⟨H1, 0, none⟩) ∧ s4 = .pointer (some ⟨H2, 0, none⟩) ∧ SplitAt w d p a es.length c es H1 H2 wx)
  case first =>
    go_region
    all_goals (go_wp2_with fail)
    all_goals go_meet
    all_goals first
      | exact ⟨_, _, rfl, rfl, HT1.out⟩
      | exact ⟨_, _, rfl, rfl, HT2.out⟩
  case rest =>
    obtain ⟨H1, H2, rfl, rfl, hT⟩ := hcut
    have e5 : IntKind.i64.wrap ((p : Int) * 2 + 1) = p * 2 + 1 := IntWalk.i64_in _ (by omega)
    obtain ⟨wp, hwp⟩ : ∃ wp, wc.alloc (.cells #[.int .i64 d, .int .i64 p, .slice a es.length c] 32) = wp := ⟨_, rfl⟩
    have hbp : Below wc.heap.size wc wp := by rw [← hwp]; exact (Below.refl _ wc).alloc (Nat.le_refl _) _
    have hkp : wp.heap[wc.heap.size]? = some (.cells #[.int .i64 d, .int .i64 p, .slice a es.length c] 32 (0, 0)) := by rw [← hwp]; exact heap_alloc_new _ _
    have q1 : Boxed wp H1 3 (.int .i64 (d + 1)) := (hbp.block _ hT.one.lt).trans hT.one
    have q2 : Boxed wp H2 3 (.int .i64 (p * 2)) := (hbp.block _ hT.two.lt).trans hT.two
    have HPART := Lib.hid (part_any 25 #[.pointer (some ⟨H1, 0, none⟩), .pointer (some ⟨H2, 0, none⟩)] (fun x => preI x.hash (d + 1) == p * 2) _ es d p a c wp hlen hkp (hT.ents.next hbp) (enters_of Try.func25 (by kernel_rfl) rfl) (fun x W hb => split1_any x H1 H2 (d + 1) (p * 2) W ((hb.cell (p := ⟨H1, 0, none⟩) q1.lt).trans q1.cell) ((hb.cell (p := ⟨H2, 0, none⟩) q2.lt).trans q2.cell)))
    have HQ1 := Lib.hid q1
    have HQ2 := Lib.hid q2
    have HBP := Lib.hid (hT.bel.trans (hbp.mono (by have := hT.bel.size; omega)))
    have HRES := Lib.hid ((hbp.block _ (blk_lt hT.res)).trans hT.res)
    have c0 : wc.cell? ⟨w.heap.size, 0, none⟩ = some (.int .i64 d) := blk_cell hT.blk 0
    have c1 : wc.cell? ⟨w.heap.size, 1, none⟩ = some (.int .i64 p) := blk_cell hT.blk 1
    have c2 : wc.cell? ⟨w.heap.size, 2, none⟩ = some (.slice a es.length c) := blk_cell hT.blk 2
    clear hT q1 q2 hbp hkp hE HT1 HT2 e1 e2
    go_wp2_with (first
      | (go_at_call 22; (with_reducible refine (all_any _ _ _ _ _ _).mono ?_); rintro e w' ⟨rfl, rfl⟩; rw [hwp])
      | (go_at_call 23; (with_reducible refine HPART.out.mono ?_); rintro e w5 ⟨a1, n1, k1, a2, n2, k2, rfl, h1, h2, hfr, h5⟩; have HNL := Lib.hid hfr.2; clear hfr; have HE1 := Lib.hid h1; have HE2 := Lib.hid h2; have HB5 := Lib.hid h5; have d1 : w5.cell? ⟨H1, 0, none⟩ = some (.int .i64 (d + 1)) := (h5.cell (p := ⟨H1, 0, none⟩) HQ1.out.lt).trans HQ1.out.cell; have d2 : w5.cell? ⟨H2, 0, none⟩ = some (.int .i64 (p * 2)) := (h5.cell (p := ⟨H2, 0, none⟩) HQ2.out.lt).trans HQ2.out.cell; have HZ5 := Lib.hid ((h5.block _ (blk_lt HRES.out)).trans HRES.out); clear h1 h2 h5 c0 c1 c2)
      | (refine wpList_store_row (o := ⟨none, _, _, _, _, _⟩) rfl 44 (.tmp 2) (.tmp 29) rfl (w.heap.size + 1) (bkt2C (d + 1) (p * 2) (p * 2 + 1) (.slice a1 n1 k1) (.slice a2 n2 k2)) rfl rfl 44 (bkt2C 0 0 0 (.slice none 0 0) (.slice none 0 0)) HZ5.out (bkt2_sz _ _ _ _ _) rfl ?_ ?_; exact bkt2_one _ _ _ _ _ _ _ _ _))
    have hend := setRow_heap w5 (w.heap.size + 1) _ (bkt2C (d + 1) (p * 2) (p * 2 + 1) (.slice a1 n1 k1) (.slice a2 n2 k2)) _ _ HZ5.out
    refine bodyPost_ret (results_cell_row rfl _ _ (w.heap.size + 1) 44 (bkt2C (d + 1) (p * 2) (p * 2 + 1) (.slice a1 n1 k1) (.slice a2 n2 k2)) (0, 0) _ rfl hend Try.underlying44 rfl (bkt2_sz _ _ _ _ _)) rfl ⟨_, _, _, _, _, _, rfl, (HE1.out.setRow HZ5.out (bkt2_no _ _ _ _ _ _ _ _ _) _).tight, (HE2.out.setRow HZ5.out (bkt2_no _ _ _ _ _ _ _ _ _) _).tight, HNL.out, below_setRow (HBP.out.trans (HB5.out.mono HBP.out.size)) (by omega) _⟩
end Go.Proofs.Ytpihncafmjbccaa

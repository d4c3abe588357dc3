/-
  sgraffitolaw11's awake: what the chapter's example says.
  Conditions: none.
-/
import Derived.Test.YtiddfilhfdkogaaReg26
namespace Go.Proofs.Ytiddfilhfdkogaa
open Go.RowKit Go.Shelf
attribute [-go_sem] Instr.build Instr.fill

theorem inv_log0 : LogInv small11.log0 (Dev.new 60 96) 0 :=
  ⟨log0_ok small11_fits, log0_on small11_fits ⟨rfl, rfl⟩, up_new _ _, by decide, by decide, small_new _ _, fun _ => rfl, Nat.le_refl _⟩
theorem log0_rr : small11.log0.rr = 154 ∧ small11.log0.pos = 154 ∧ small11.log0.last = 0 ∧ small11.log0.regions = 3 ∧ small11.log0.room = 77 ∧ small11.log0.sectors = 2 := by decide
/-- Where a log of the laws' plan is. -/
structure LogS.Is (x : LogS) (l p : Nat) : Prop where
  rr : x.rr = 154
  regions : x.regions = 3
  last : x.last = l
  pos : x.pos = p
theorem is_log0 : small11.log0.Is 0 154 := ⟨log0_rr.1, log0_rr.2.2.2.1, log0_rr.2.2.1, log0_rr.2.1⟩
theorem LogS.Is.oldest {x : LogS} {l p : Nat} (h : x.Is l p) : x.oldest = max ((l : Int) - 3 + 1) 1 := by
  unfold LogS.oldest
  rw [h.regions, h.last]
  rfl
theorem LogS.Is.like {x x2 : LogS} {l p l2 p2 : Nat} (h : x.Is l p) (hl : x2.Like x) (h1 : x2.last = l2) (h2 : x2.pos = p2) : x2.Is l2 p2 := ⟨hl.rr.trans h.rr, hl.2.2.1.trans h.regions, h1, h2⟩
theorem goes_next {x x2 : LogS} {q p n l p0 : Nat} (hi : x.Is l p0) (h : Goes x x2 q p n) (hr : 154 < p0 + n) : q = l + 1 ∧ p = 0 ∧ x2.Is (l + 1) n := by
  have h1 := hi.rr
  have h2 := hi.last
  have h3 := hi.pos
  obtain ⟨g1, g2, g3, _, h | ⟨a, b, _⟩⟩ := h
  · omega
  · exact ⟨by omega, b, hi.like g1 (by omega) (by omega)⟩
/-- What the laws begin with. -/
structure Began (w : World) (R D : Nat) (W : World) : Prop where
  now : LogNow w (fun _ => False) R D small11.log0 (Dev.new 60 96) 0 [] W
  since : Below w.heap.size w W
section
variable {w W W' : World} {E : Foot} {R D : Nat} {x : LogS} {d : Dev} {k : Nat} {H : List AppD}
theorem format_began (h : DevHere w D (Dev.new 60 96) W) : Calls Try.prog 8 #[.pointer (some ⟨D, 0, none⟩), .agg small11.cells] W fun e w' => ∃ R, e = .returned (.tuple #[.pointer (some ⟨R, 0, none⟩), .int .i64 0]) ∧ Began w R D w' :=
  (format_any small11 (apart_of h (Below.refl _ W) (fun _ h => h.elim) (fun _ h => h.elim)) (fun _ h => h.elim) small11_fits ⟨rfl, rfl⟩).mono fun _ _ ⟨R, _, he, hL, hb⟩ =>
    ⟨R, he, ⟨hL, inv_log0, has_log0 _ _⟩, h.below.trans (hb.mono h.size)⟩
/-- Append, of bytes that are 0. -/
theorem now_append_zeros (h : LogNow w E R D x d k H W) (n : Nat) (hn : 1 ≤ n) (hn2 : n ≤ 1000) (hle : n ≤ x.rr) (hk : k + 1 + n ≤ 65536) :
    Calls Try.prog 12 #[.pointer (some ⟨R, 0, none⟩), .slice (some ⟨W.heap.size, 0, none⟩) n n] (W.alloc (.cells (madeCells #[.int .u8 0] n) 5)) fun e W' => ∃ x2 d2 q p, Goes x x2 q p n ∧ e = .returned (.tuple #[.agg #[.int .i64 ((q : Nat) : Int), .int .i64 ((p : Nat) : Int), .int .i64 (n : Int)], .int .i64 0]) ∧ LogNow w E R D x2 d2 (k + 1 + n) (⟨q, p, zeros n⟩ :: H) W' ∧ Same E W W' := by
  have e : (zeros n).length = n := zeros_len n
  have := now_append_new (n := n) (c := n) h (.cells (madeCells #[.int .u8 0] n) 5) (zeros n) (bytes_new W (zeros n) n e.symm _ (by rw [← made_zeros])) (by omega) (by omega) (by omega)
  rw [e] at this
  exact this
end
@[local go_sem] theorem build_locA (W : World) : (Instr.build 42 #[(0, .int .i64 1), (2, .int .i64 100)]).run Try.prog W = .ok (.agg #[.int .i64 1, .int .i64 0, .int .i64 100]) W := run_build W _ _ _ (by kernel_rfl)
@[local go_sem] theorem build_locB (W : World) : (Instr.build 42 #[(0, .int .i64 2), (2, .int .i64 60)]).run Try.prog W = .ok (.agg #[.int .i64 2, .int .i64 0, .int .i64 60]) W := run_build W _ _ _ (by kernel_rfl)
set_option maxRecDepth 100000 in
set_option maxHeartbeats 8000000 in
theorem awake11 (w : World) : Calls Try.prog 17 #[] w fun e w' => e = .returned (.bool true) ∧ Below w.heap.size w w' := by
  have HNEW : Hid (Calls Try.prog 9 #[.int .i64 60, .int .i64 96] w fun e W' => ∃ D, e = .returned (.pointer (some ⟨D, 0, none⟩)) ∧ DevHere w D (Dev.new 60 96) W' ∧ Below w.heap.size w W') := here_new 60 96 (by decide) (Below.refl _ w)
  have HSM := Lib.hid small_any
  have mk100 : ∀ W : World, (Instr.makeSlice 36 (.int .i64 100) (.int .i64 100)).run Try.prog W = .ok (.slice (some ⟨W.heap.size, 0, none⟩) 100 100) (W.alloc (.cells (madeCells #[.int .u8 0] 100) 5)) := makeBytes 100 (by decide)
  have mk60 : ∀ W : World, (Instr.makeSlice 36 (.int .i64 60) (.int .i64 60)).run Try.prog W = .ok (.slice (some ⟨W.heap.size, 0, none⟩) 60 60) (W.alloc (.cells (madeCells #[.int .u8 0] 60) 5)) := makeBytes 60 (by decide)
  have mk150 : ∀ W : World, (Instr.makeSlice 36 (.int .i64 150) (.int .i64 150)).run Try.prog W = .ok (.slice (some ⟨W.heap.size, 0, none⟩) 150 150) (W.alloc (.cells (madeCells #[.int .u8 0] 150) 5)) := makeBytes 150 (by decide)
  have ST1 : Hid (∀ V : World, ((V.alloc (.cells #[.int .i64 0, .int .i64 0, .int .i64 0] 42)).cell? ⟨V.heap.size, 0, none⟩ = some (.int .i64 0) ∧ (V.alloc (.cells #[.int .i64 0, .int .i64 0, .int .i64 0] 42)).cell? ⟨V.heap.size, 1, none⟩ = some (.int .i64 0) ∧ (V.alloc (.cells #[.int .i64 0, .int .i64 0, .int .i64 0] 42)).cell? ⟨V.heap.size, 2, none⟩ = some (.int .i64 0) ∧ (V.alloc (.cells #[.int .i64 0, .int .i64 0, .int .i64 0] 42)).frozen? ⟨V.heap.size, 0, none⟩ = false ∧ (V.alloc (.cells #[.int .i64 0, .int .i64 0, .int .i64 0] 42)).frozen? ⟨V.heap.size, 1, none⟩ = false ∧ (V.alloc (.cells #[.int .i64 0, .int .i64 0, .int .i64 0] 42)).frozen? ⟨V.heap.size, 2, none⟩ = false)) := fun V => by
    have h := heap_alloc_new V (.cells #[.int .i64 0, .int .i64 0, .int .i64 0] 42)
    exact ⟨blk_cell h 0, blk_cell h 1, blk_cell h 2, blk_frozen h 0, blk_frozen h 1, blk_frozen h 2⟩
  go_enter Try.func17, Try.ntmps17
  go_upto_region 2 with (first
    | (go_at_call 9; (with_reducible refine HNEW.out.mono ?_); rintro e w1 ⟨D, rfl, hd, _⟩; have HD := Lib.hid hd; clear hd)
    | (go_at_call 10; (with_reducible refine (HSM.out _).mono ?_); rintro e w2 ⟨rfl, hb2⟩; have HD2 := Lib.hid (HD.out.on hb2); clear hb2)
    | (go_at_call 8; (with_reducible refine (format_began HD2.out).mono ?_); rintro e w3 ⟨R, rfl, hB⟩; have HB3 := Lib.hid hB; clear hB))
  clear HNEW HSM HD HD2
  go_upto_region 3 with (go_at_call 12; (with_reducible refine (now_append_zeros HB3.out.now 100 (by decide) (by decide) (by rw [is_log0.rr]; decide) (by decide)).mono ?_); rintro e w4 ⟨x1, d1, q1, p1, hg1, rfl, hn1, _⟩; obtain ⟨rfl, rfl, hx1⟩ := goes_next is_log0 hg1 (by decide); have HX1 := Lib.hid hx1; have HN1 := Lib.hid hn1; clear hg1 hn1 hx1; obtain ⟨t0, t1, t2, t3, t4, t5⟩ := ST1.out w4)
  clear t0 t1 t2 t3 t4 t5
  have HS4 := Lib.hid (HB3.out.since.size)
  have HN5 : Hid (LogNow w (fun k => False ∨ k = w4.heap.size) R D x1 d1 101 [⟨1, 0, zeros 100⟩] (w4.alloc (.cells #[.int .i64 1, .int .i64 0, .int .i64 100] 42))) := ⟨HN1.out.at_.grab _, HN1.out.inv, HN1.out.has⟩
  have HL5 : Hid ((w4.alloc (.cells #[.int .i64 1, .int .i64 0, .int .i64 100] 42)).heap[w4.heap.size]? = some (.cells #[.int .i64 1, .int .i64 0, .int .i64 100] 42 (0, 0))) := heap_alloc_new _ _
  change Code.wp _ _ _ _ (w4.alloc (.cells #[.int .i64 1, .int .i64 0, .int .i64 100] 42))
  generalize w4.alloc (.cells #[.int .i64 1, .int .i64 0, .int .i64 100] 42) = V5 at HN5 HL5 ⊢
  generalize w4.heap.size = A at HN5 HL5 ⊢
  clear HN1 HB3
  go_upto_region 4 with (go_at_call 12; (with_reducible refine (now_append_zeros HN5.out 60 (by decide) (by decide) (by rw [HX1.out.rr]; decide) (by decide)).mono ?_); rintro e w6 ⟨x2, d2, q2, p2, hg2, rfl, hn2, hs2⟩; obtain ⟨rfl, rfl, hx2⟩ := goes_next HX1.out hg2 (by decide); have HX2 := Lib.hid hx2; have HN2 := Lib.hid hn2; have HL6 := Lib.hid ((hs2.2 A (.inr rfl)).trans HL5.out); clear hg2 hn2 hx2 hs2; obtain ⟨t0, t1, t2, t3, t4, t5⟩ := ST1.out w6)
  clear t0 t1 t2 t3 t4 t5 HN5 HL5
  have HN7 : Hid (LogNow w (fun k => (False ∨ k = A) ∨ k = w6.heap.size) R D x2 d2 162 [⟨2, 0, zeros 60⟩, ⟨1, 0, zeros 100⟩] (w6.alloc (.cells #[.int .i64 2, .int .i64 0, .int .i64 60] 42))) := ⟨HN2.out.at_.grab _, HN2.out.inv, HN2.out.has⟩
  have HL7 : Hid ((w6.alloc (.cells #[.int .i64 2, .int .i64 0, .int .i64 60] 42)).heap[A]? = some (.cells #[.int .i64 1, .int .i64 0, .int .i64 100] 42 (0, 0))) := blk_alloc HL6.out _
  have HM7 : Hid ((w6.alloc (.cells #[.int .i64 2, .int .i64 0, .int .i64 60] 42)).heap[w6.heap.size]? = some (.cells #[.int .i64 2, .int .i64 0, .int .i64 60] 42 (0, 0))) := heap_alloc_new _ _
  change Code.wp _ _ _ _ (w6.alloc (.cells #[.int .i64 2, .int .i64 0, .int .i64 60] 42))
  generalize w6.alloc (.cells #[.int .i64 2, .int .i64 0, .int .i64 60] 42) = V7 at HN7 HL7 HM7 ⊢
  generalize w6.heap.size = G at HN7 HL7 HM7 ⊢
  clear HN2 HL6
  go_upto_region 5 with (go_at_call 12; (with_reducible refine (now_append_zeros HN7.out 150 (by decide) (by decide) (by rw [HX2.out.rr]; decide) (by decide)).mono ?_); rintro e w8 ⟨x3, d3, q3, p3, hg3, rfl, hn3, hs3⟩; obtain ⟨rfl, rfl, hx3⟩ := goes_next HX2.out hg3 (by decide); have HX3 := Lib.hid hx3; have HN3 := Lib.hid hn3; have HL8 := Lib.hid ((hs3.2 A (.inl (.inr rfl))).trans HL7.out); have HM8 := Lib.hid ((hs3.2 G (.inr rfl)).trans HM7.out); clear hg3 hn3 hx3 hs3)
  clear HN7 HL7 HM7
  have l0 : w8.cell? ⟨A, 0, none⟩ = some (.int .i64 1) := blk_cell HL8.out 0
  have l1 : w8.cell? ⟨A, 1, none⟩ = some (.int .i64 0) := blk_cell HL8.out 1
  have l2 : w8.cell? ⟨A, 2, none⟩ = some (.int .i64 100) := blk_cell HL8.out 2
  have HR8 := Lib.hid (now_read HN3.out (r := ⟨1, 0, zeros 100⟩) (q := 1) (p := 0) (n := 100) (by simp) (by rw [HX3.out.oldest]; decide) rfl rfl (by rw [zeros_len]; rfl))
  go_upto_region 6 with (go_at_call 21; (with_reducible refine HR8.out.mono ?_); rintro e w9 ⟨v9, rfl, hb9, _⟩; have HB9 := Lib.hid hb9; clear hb9)
  clear l0 l1 l2
  have HN9 := Lib.hid (HN3.out.on HB9.out)
  have HL9 := Lib.hid ((HB9.out.block _ (blk_lt HL8.out)).trans HL8.out)
  have HM9 := Lib.hid ((HB9.out.block _ (blk_lt HM8.out)).trans HM8.out)
  clear HN3 HL8 HM8 HB9
  go_upto_region 7 with (go_at_call 12; (with_reducible refine (now_append_zeros HN9.out 150 (by decide) (by decide) (by rw [HX3.out.rr]; decide) (by decide)).mono ?_); rintro e w10 ⟨x4, d4, q4, p4, hg4, rfl, hn4, hs4⟩; obtain ⟨rfl, rfl, hx4⟩ := goes_next HX3.out hg4 (by decide); have HX4 := Lib.hid hx4; have HN4 := Lib.hid hn4; have HL10 := Lib.hid ((hs4.2 A (.inl (.inr rfl))).trans HL9.out); have HM10 := Lib.hid ((hs4.2 G (.inr rfl)).trans HM9.out); clear hg4 hn4 hx4 hs4)
  clear HN9 HL9 HM9
  have l0 : w10.cell? ⟨A, 0, none⟩ = some (.int .i64 1) := blk_cell HL10.out 0
  have l1 : w10.cell? ⟨A, 1, none⟩ = some (.int .i64 0) := blk_cell HL10.out 1
  have l2 : w10.cell? ⟨A, 2, none⟩ = some (.int .i64 100) := blk_cell HL10.out 2
  go_upto_region 8 with (go_at_call 21; (with_reducible refine (read_stale HN4.out.at_ 1 0 100 (by unfold LogS.holdB LogS.thereB; rw [HX4.out.oldest]; simp; omega)).mono ?_); rintro e w11 ⟨rfl, hb11⟩; have HB11 := Lib.hid hb11; clear hb11)
  clear l0 l1 l2
  have HN11 := Lib.hid (HN4.out.on HB11.out)
  have HL11 := Lib.hid ((HB11.out.block _ (blk_lt HL10.out)).trans HL10.out)
  have HM11 := Lib.hid ((HB11.out.block _ (blk_lt HM10.out)).trans HM10.out)
  clear HN4 HL10 HM10 HB11
  have l0 : w11.cell? ⟨G, 0, none⟩ = some (.int .i64 2) := blk_cell HM11.out 0
  have l1 : w11.cell? ⟨G, 1, none⟩ = some (.int .i64 0) := blk_cell HM11.out 1
  have l2 : w11.cell? ⟨G, 2, none⟩ = some (.int .i64 60) := blk_cell HM11.out 2
  have HR11 := Lib.hid (now_read HN11.out (r := ⟨2, 0, zeros 60⟩) (q := 2) (p := 0) (n := 60) (by simp) (by rw [HX4.out.oldest]; decide) rfl rfl (by rw [zeros_len]; rfl))
  go_upto_region 9 with (go_at_call 21; (with_reducible refine HR11.out.mono ?_); rintro e w12 ⟨v12, rfl, hb12, hv12⟩; have HB12 := Lib.hid hb12; have HV12 := Lib.hid hv12; clear hb12 hv12)
  clear l0 l1 l2
  have HN12 := Lib.hid (HN11.out.on HB12.out)
  have HL12 := Lib.hid ((HB12.out.block _ (blk_lt HL11.out)).trans HL11.out)
  have HM12 := Lib.hid ((HB12.out.block _ (blk_lt HM11.out)).trans HM11.out)
  clear HN11 HL11 HM11 HB12
  obtain ⟨a12, c12, rfl, _, _, _⟩ := id HV12.out
  rw [zeros_len]
  have l0 : w12.cell? ⟨A, 0, none⟩ = some (.int .i64 1) := blk_cell HL12.out 0
  have l1 : w12.cell? ⟨A, 1, none⟩ = some (.int .i64 0) := blk_cell HL12.out 1
  have l2 : w12.cell? ⟨A, 2, none⟩ = some (.int .i64 100) := blk_cell HL12.out 2
  have m0 : w12.cell? ⟨G, 0, none⟩ = some (.int .i64 2) := blk_cell HM12.out 0
  have m1 : w12.cell? ⟨G, 1, none⟩ = some (.int .i64 0) := blk_cell HM12.out 1
  have m2 : w12.cell? ⟨G, 2, none⟩ = some (.int .i64 60) := blk_cell HM12.out 2
  have HOL : Hid (Calls Try.prog 16 #[.pointer (some ⟨R, 0, none⟩)] w12 fun e w' => e = .returned (.int .i64 2) ∧ Below w12.heap.size w12 w') := by
    obtain ⟨rv, hL, _⟩ := HN12.out.at_
    have := oldest_any hL
    rw [HX4.out.oldest] at this
    exact this
  have HSI := Lib.hid HN12.out.at_.since
  clear HN12 HL12 HM12
  go_wp2_with (go_at_call 16; (with_reducible refine HOL.out.mono ?_); rintro e w13 ⟨rfl, hb13⟩; have HB13 := Lib.hid hb13; clear hb13)
  go_ret
  exact ⟨rfl, HSI.out.trans (HB13.out.mono HSI.out.size)⟩
end Go.Proofs.Ytiddfilhfdkogaa

/-
  LeafTurned: bits that are turned within 32 in a row make it none.
  Conditions: none.
-/
import Derived.Test.YtopjadmjahpeoaaTurnLoop
import Derived.StillTailTactics
namespace Go.Proofs.Ytopjadmjahpeoaa
open Go.ChangeShapes Go.WideShapes Go.ChangeAt Go.RowKit

theorem u16_wrap (c : BitVec 16) : wrap64 (U c) = U c := by
  have h1 := U_nonneg c
  have h2 := U_lt c
  unfold wrap64; omega
theorem nat_wraps (q : Nat) (h : q < 1000) : wrap64 (q : Int) = q ∧ IntKind.i64.wrap (q : Int) = q := ⟨by unfold wrap64; omega, IntWalk.i64_in _ (by omega)⟩
theorem ownsRow_pos {W : World} {base : Nat} {e : TypeId} {size : Nat} {v : Value} {n : Nat} {xs : List Value} (h : W.ownsRow base e size v n xs) (hn : 0 < n) : ∃ g cap, v = .slice (some ⟨g, 0, none⟩) n cap ∧ base ≤ g := by
  rcases h.2 with ⟨_, h0⟩ | ⟨g, cap, _, rfl, h1, _⟩
  · omega
  · exact ⟨g, cap, rfl, h1⟩
/-- The four bytes. -/
def TurnP.four (x : TurnP) : Array Value := #[.int .u8 (U x.t0), .int .u8 (U x.t1), .int .u8 (U x.t2), .int .u8 (U x.t3)]
/-- What region 1 leaves. -/
def TurnedAt (x : TurnP) (w : World) (A B : Nat) (W : World) : Prop := W.heap[A]? = some (.cells x.leaf.doc 23 (0, 0)) ∧ W.heap[B]? = some (.cells x.four 60 (0, 0)) ∧ w.heap.size ≤ A ∧ w.heap.size ≤ B ∧ Below w.heap.size w W

set_option maxRecDepth 100000 in
set_option maxHeartbeats 4000000 in
theorem leafTurned_walk (x : TurnP) (hx : x.leaf.wf) (w : World) : Calls Try.prog 6 #[.agg x.cells] w (Good w) := by
  have hX : (w.alloc (.cells x.cells 62)).heap[w.heap.size]? = some (.cells x.cells 62 (0, 0)) := heap_alloc_new _ _
  have HB0 : Hid (Below w.heap.size w (w.alloc (.cells x.cells 62))) := (Below.refl _ _).alloc (Nat.le_refl _) _
  have HC : Hid (x.cells = #[.int .i64 x.size, .int .i64 x.leaf.kind, .int .i64 x.leaf.place, .int .i64 x.leaf.stamp, .string (strB x.leaf.load), .int .u16 (U x.at_), .int .u8 (U x.t0), .int .u8 (U x.t1), .int .u8 (U x.t2), .int .u8 (U x.t3)]) := rfl
  obtain ⟨w0, hw0⟩ : ∃ w0, w.alloc (.cells x.cells 62) = w0 := ⟨_, rfl⟩
  obtain ⟨X, hXe⟩ : ∃ X, w.heap.size = X := ⟨_, rfl⟩
  have hs0 : w0.heap.size = X + 1 := by rw [← hw0, ← hXe]; simp
  rw [hw0] at hX HB0
  rw [hXe] at hX
  have hlt := blk_lt hX
  have c0 : w0.drew.cell? ⟨X, 0, none⟩ = some (.int .i64 x.size) := blk_cell (w := w0) hX 0
  have d0 : ∀ o, (w0.alloc o).drew.cell? ⟨X, 0, none⟩ = some (.int .i64 x.size) := fun o => (World.cell?_of_block (a := ⟨X, 0, none⟩) (Below.heap_alloc w0 o X hlt)).trans (blk_cell (w := w0) hX 0)
  have e0 : ∀ o o', ((w0.alloc o).alloc o').drew.cell? ⟨X, 0, none⟩ = some (.int .i64 x.size) := fun o o' => (World.cell?_of_block (a := ⟨X, 0, none⟩) ((Below.heap_alloc (w0.alloc o) o' X (by simp; omega)).trans (Below.heap_alloc w0 o X hlt))).trans (blk_cell (w := w0) hX 0)
  have c1 : w0.drew.cell? ⟨X, 1, none⟩ = some (.int .i64 x.leaf.kind) := blk_cell (w := w0) hX 1
  have d1 : ∀ o, (w0.alloc o).drew.cell? ⟨X, 1, none⟩ = some (.int .i64 x.leaf.kind) := fun o => (World.cell?_of_block (a := ⟨X, 1, none⟩) (Below.heap_alloc w0 o X hlt)).trans (blk_cell (w := w0) hX 1)
  have e1 : ∀ o o', ((w0.alloc o).alloc o').drew.cell? ⟨X, 1, none⟩ = some (.int .i64 x.leaf.kind) := fun o o' => (World.cell?_of_block (a := ⟨X, 1, none⟩) ((Below.heap_alloc (w0.alloc o) o' X (by simp; omega)).trans (Below.heap_alloc w0 o X hlt))).trans (blk_cell (w := w0) hX 1)
  have c2 : w0.drew.cell? ⟨X, 2, none⟩ = some (.int .i64 x.leaf.place) := blk_cell (w := w0) hX 2
  have d2 : ∀ o, (w0.alloc o).drew.cell? ⟨X, 2, none⟩ = some (.int .i64 x.leaf.place) := fun o => (World.cell?_of_block (a := ⟨X, 2, none⟩) (Below.heap_alloc w0 o X hlt)).trans (blk_cell (w := w0) hX 2)
  have e2 : ∀ o o', ((w0.alloc o).alloc o').drew.cell? ⟨X, 2, none⟩ = some (.int .i64 x.leaf.place) := fun o o' => (World.cell?_of_block (a := ⟨X, 2, none⟩) ((Below.heap_alloc (w0.alloc o) o' X (by simp; omega)).trans (Below.heap_alloc w0 o X hlt))).trans (blk_cell (w := w0) hX 2)
  have c3 : w0.drew.cell? ⟨X, 3, none⟩ = some (.int .i64 x.leaf.stamp) := blk_cell (w := w0) hX 3
  have d3 : ∀ o, (w0.alloc o).drew.cell? ⟨X, 3, none⟩ = some (.int .i64 x.leaf.stamp) := fun o => (World.cell?_of_block (a := ⟨X, 3, none⟩) (Below.heap_alloc w0 o X hlt)).trans (blk_cell (w := w0) hX 3)
  have e3 : ∀ o o', ((w0.alloc o).alloc o').drew.cell? ⟨X, 3, none⟩ = some (.int .i64 x.leaf.stamp) := fun o o' => (World.cell?_of_block (a := ⟨X, 3, none⟩) ((Below.heap_alloc (w0.alloc o) o' X (by simp; omega)).trans (Below.heap_alloc w0 o X hlt))).trans (blk_cell (w := w0) hX 3)
  have c4 : w0.drew.cell? ⟨X, 4, none⟩ = some (.string (strB x.leaf.load)) := blk_cell (w := w0) hX 4
  have d4 : ∀ o, (w0.alloc o).drew.cell? ⟨X, 4, none⟩ = some (.string (strB x.leaf.load)) := fun o => (World.cell?_of_block (a := ⟨X, 4, none⟩) (Below.heap_alloc w0 o X hlt)).trans (blk_cell (w := w0) hX 4)
  have e4 : ∀ o o', ((w0.alloc o).alloc o').drew.cell? ⟨X, 4, none⟩ = some (.string (strB x.leaf.load)) := fun o o' => (World.cell?_of_block (a := ⟨X, 4, none⟩) ((Below.heap_alloc (w0.alloc o) o' X (by simp; omega)).trans (Below.heap_alloc w0 o X hlt))).trans (blk_cell (w := w0) hX 4)
  have c5 : w0.drew.cell? ⟨X, 5, none⟩ = some (.int .u16 (U x.at_)) := blk_cell (w := w0) hX 5
  have d5 : ∀ o, (w0.alloc o).drew.cell? ⟨X, 5, none⟩ = some (.int .u16 (U x.at_)) := fun o => (World.cell?_of_block (a := ⟨X, 5, none⟩) (Below.heap_alloc w0 o X hlt)).trans (blk_cell (w := w0) hX 5)
  have e5 : ∀ o o', ((w0.alloc o).alloc o').drew.cell? ⟨X, 5, none⟩ = some (.int .u16 (U x.at_)) := fun o o' => (World.cell?_of_block (a := ⟨X, 5, none⟩) ((Below.heap_alloc (w0.alloc o) o' X (by simp; omega)).trans (Below.heap_alloc w0 o X hlt))).trans (blk_cell (w := w0) hX 5)
  have c6 : w0.drew.cell? ⟨X, 6, none⟩ = some (.int .u8 (U x.t0)) := blk_cell (w := w0) hX 6
  have d6 : ∀ o, (w0.alloc o).drew.cell? ⟨X, 6, none⟩ = some (.int .u8 (U x.t0)) := fun o => (World.cell?_of_block (a := ⟨X, 6, none⟩) (Below.heap_alloc w0 o X hlt)).trans (blk_cell (w := w0) hX 6)
  have e6 : ∀ o o', ((w0.alloc o).alloc o').drew.cell? ⟨X, 6, none⟩ = some (.int .u8 (U x.t0)) := fun o o' => (World.cell?_of_block (a := ⟨X, 6, none⟩) ((Below.heap_alloc (w0.alloc o) o' X (by simp; omega)).trans (Below.heap_alloc w0 o X hlt))).trans (blk_cell (w := w0) hX 6)
  have c7 : w0.drew.cell? ⟨X, 7, none⟩ = some (.int .u8 (U x.t1)) := blk_cell (w := w0) hX 7
  have d7 : ∀ o, (w0.alloc o).drew.cell? ⟨X, 7, none⟩ = some (.int .u8 (U x.t1)) := fun o => (World.cell?_of_block (a := ⟨X, 7, none⟩) (Below.heap_alloc w0 o X hlt)).trans (blk_cell (w := w0) hX 7)
  have e7 : ∀ o o', ((w0.alloc o).alloc o').drew.cell? ⟨X, 7, none⟩ = some (.int .u8 (U x.t1)) := fun o o' => (World.cell?_of_block (a := ⟨X, 7, none⟩) ((Below.heap_alloc (w0.alloc o) o' X (by simp; omega)).trans (Below.heap_alloc w0 o X hlt))).trans (blk_cell (w := w0) hX 7)
  have c8 : w0.drew.cell? ⟨X, 8, none⟩ = some (.int .u8 (U x.t2)) := blk_cell (w := w0) hX 8
  have d8 : ∀ o, (w0.alloc o).drew.cell? ⟨X, 8, none⟩ = some (.int .u8 (U x.t2)) := fun o => (World.cell?_of_block (a := ⟨X, 8, none⟩) (Below.heap_alloc w0 o X hlt)).trans (blk_cell (w := w0) hX 8)
  have e8 : ∀ o o', ((w0.alloc o).alloc o').drew.cell? ⟨X, 8, none⟩ = some (.int .u8 (U x.t2)) := fun o o' => (World.cell?_of_block (a := ⟨X, 8, none⟩) ((Below.heap_alloc (w0.alloc o) o' X (by simp; omega)).trans (Below.heap_alloc w0 o X hlt))).trans (blk_cell (w := w0) hX 8)
  have c9 : w0.drew.cell? ⟨X, 9, none⟩ = some (.int .u8 (U x.t3)) := blk_cell (w := w0) hX 9
  have d9 : ∀ o, (w0.alloc o).drew.cell? ⟨X, 9, none⟩ = some (.int .u8 (U x.t3)) := fun o => (World.cell?_of_block (a := ⟨X, 9, none⟩) (Below.heap_alloc w0 o X hlt)).trans (blk_cell (w := w0) hX 9)
  have e9 : ∀ o o', ((w0.alloc o).alloc o').drew.cell? ⟨X, 9, none⟩ = some (.int .u8 (U x.t3)) := fun o o' => (World.cell?_of_block (a := ⟨X, 9, none⟩) ((Below.heap_alloc (w0.alloc o) o' X (by simp; omega)).trans (Below.heap_alloc w0 o X hlt))).trans (blk_cell (w := w0) hX 9)
  have HT1 : Hid (TurnedAt x w (X + 1) (X + 1 + 1) ((w0.alloc (.cells x.leaf.doc 23)).alloc (.cells x.four 60)).drew) := by
    refine ⟨?_, ?_, by omega, by omega, (((HB0.out.alloc HB0.out.size _).alloc (by simp; omega) _)).drew⟩
    · show ((w0.alloc (.cells x.leaf.doc 23)).alloc (.cells x.four 60)).heap[X + 1]? = _
      rw [← hs0]
      exact blk_alloc (heap_alloc_new _ _) _
    · show ((w0.alloc (.cells x.leaf.doc 23)).alloc (.cells x.four 60)).heap[X + 1 + 1]? = _
      have := heap_alloc_new (w0.alloc (.cells x.leaf.doc 23)) (.cells x.four 60)
      rw [show (w0.alloc (.cells x.leaf.doc 23)).heap.size = X + 1 + 1 by simp [hs0]] at this
      exact this
  have HT2 : Hid (TurnedAt x w (X + 1 + 1) (X + 1) ((w0.alloc (.cells x.four 60)).alloc (.cells x.leaf.doc 23)).drew) := by
    refine ⟨?_, ?_, by omega, by omega, (((HB0.out.alloc HB0.out.size _).alloc (by simp; omega) _)).drew⟩
    · show ((w0.alloc (.cells x.four 60)).alloc (.cells x.leaf.doc 23)).heap[X + 1 + 1]? = _
      have := heap_alloc_new (w0.alloc (.cells x.four 60)) (.cells x.leaf.doc 23)
      rw [show (w0.alloc (.cells x.four 60)).heap.size = X + 1 + 1 by simp [hs0]] at this
      exact this
    · show ((w0.alloc (.cells x.four 60)).alloc (.cells x.leaf.doc 23)).heap[X + 1]? = _
      rw [← hs0]
      exact blk_alloc (heap_alloc_new _ _) _
  have HX := Lib.hid hX
  have HXE := Lib.hid hXe
  rw [HC.out] at hw0 ⊢
  clear hX hXe
  go_enter Try.func6, Try.ntmps6
  go_upto_region 1 with (fail)
  rw [HXE.out]
  clear hw0
  go_cut [3, 4, 5, 6] (fun s3 s4 s5 s6 wx => ∃ A B, s3 = .int .i64 x.size ∧ s4 = .pointer (some ⟨A, 0, none⟩) ∧ s5 = .int .u16 (U x.at_) ∧ s6 = .pointer (some ⟨B, 0, none⟩) ∧ TurnedAt x w A B wx)
  case first =>
    go_region
    all_goals (go_wp2_with fail)
    all_goals go_meet
    all_goals first
      | exact ⟨_, _, rfl, rfl, rfl, rfl, HT1.out⟩
      | exact ⟨_, _, rfl, rfl, rfl, rfl, HT2.out⟩
  case rest =>
    obtain ⟨A, B, rfl, rfl, rfl, rfl, hT⟩ := hcut
    have HT := Lib.hid hT
    have hsz := strB_size x.leaf.load
    have HST := Lib.hid hx.stamp.2
    have HAW := Lib.hid (fun W => awake05 W)
    obtain ⟨l0, l1, l2, l3⟩ := leaf_cells hT.1 (Below.refl wc.heap.size wc)
    clear hT c0 d0 e0 c1 d1 e1 c2 d2 e2 c3 d3 e3 c4 d4 e4 c5 d5 e5 c6 d6 e6 c7 d7 e7 c8 d8 e8 c9 d9 e9 HT1 HT2 hx
    by_cases hl : x.leaf.load.length ≤ 600
    · have hl1 : (x.leaf.load.length : Int) ≤ 600 := by omega
      have HOF := Lib.hid (show Calls Try.prog 9 #[.agg #[.int .i64 x.leaf.kind, .int .i64 x.leaf.place, .int .i64 x.leaf.stamp, .string (strB x.leaf.load)]] wc (LeafRet x.leaf wc) from of05_any x.leaf wc)
      have HBU := Lib.hid (fun (u : Value) W (h : BytesAt W.heap.size W u x.leaf.load) => (show Calls Try.prog 8 #[.int .i64 x.size, .agg (x.leaf.cells u)] W (Built (buildB x.size x.leaf.kind x.leaf.place x.leaf.stamp x.leaf.load) (buildErr x.size x.leaf.kind x.leaf.place x.leaf.stamp x.leaf.load.length) W) from build_any x.size x.leaf.kind x.leaf.place x.leaf.stamp u x.leaf.load W h HST.out))
      by_cases he : buildErr x.size x.leaf.kind x.leaf.place x.leaf.stamp x.leaf.load.length = 0
      · obtain ⟨r1, _, r3⟩ := read_built he HST.out
        have hbb : buildB x.size x.leaf.kind x.leaf.place x.leaf.stamp x.leaf.load = leafB x.size x.leaf.kind x.leaf.place x.leaf.stamp x.leaf.load := by unfold buildB; rw [if_pos he]
        have hs : 96 ≤ x.size ∧ x.size ≤ 512 := by
          have h1 : sizeB x.size = true := by
            cases hs : sizeB x.size with
            | true => rfl
            | false => exact absurd he (by unfold buildErr; rw [hs, if_neg (by decide)]; decide)
          simpa [sizeB] using h1
        rw [hbb, he] at HBU
        obtain ⟨bs, hbs⟩ : ∃ bs, leafB x.size x.leaf.kind x.leaf.place x.leaf.stamp x.leaf.load = bs := ⟨_, rfl⟩
        rw [hbs] at HBU r1 r3
        have hlo : 96 ≤ bs.length := by omega
        have hhi : bs.length ≤ 512 := by omega
        obtain ⟨n, hn⟩ : ∃ n, bs.length = n := ⟨_, rfl⟩
        rw [hn] at hlo hhi
        obtain ⟨m, hm⟩ : ∃ m : Nat, x.at_.toNat % (n - 3) = m := ⟨_, rfl⟩
        have hml : m < n - 3 := by rw [← hm]; exact Nat.mod_lt _ (by omega)
        have hcast : ((n : Int) - 3) = ((n - 3 : Nat) : Int) := by omega
        have hm1 : (U x.at_).tmod ((n : Int) - 3) = m := by
          rw [Int.tmod_eq_emod_of_nonneg (U_nonneg x.at_), hcast]
          unfold U
          rw [← hm]
          rfl
        have hm2 : U x.at_ % ((n : Int) - 3) = m := by
          rw [← Int.tmod_eq_emod_of_nonneg (U_nonneg x.at_)]; exact hm1
        have hn0 : (((n : Int) - 3) == 0) = false := beq_eq_false_iff_ne.2 (by omega)
        have hn1 : ¬ ((n : Int) - 3 = 0) := by omega
        have hw3 : wrap64 ((n : Int) - 3) = (n : Int) - 3 := by unfold wrap64; omega
        have hcw := u16_wrap x.at_
        have hmw : IntKind.i64.wrap (m : Int) = m := IntWalk.i64_in _ (by omega)
        have hl8 : decide ((n : Int) < 8) = false := by simp; omega
        have HM := Lib.hid (show m + 4 ≤ n from by omega)
        have HN := Lib.hid hn
        have HLN := Lib.hid (show 96 ≤ n ∧ n ≤ 512 from ⟨hlo, hhi⟩)
        have HRD := Lib.hid (fun v W (h : BytesAt W.heap.size W v (x.turn bs m 4)) => read_any v _ W h (by rw [x.turn_len]; omega))
        have HFIN := Lib.hid (x.read bs m (by omega) r1)
        clear he hbb hs hbs r1 r3 hm hml hcast hlo hhi
        clear hn
        go_wp2_with (first
          | (go_at_call 9; (with_reducible refine HOF.out.mono ?_); rintro e w1 ⟨u, rfl, hu, hb⟩; have HB1 := Lib.hid hb; have HBU1 := Lib.hid (HBU.out _ _ hu); clear hu hb)
          | (go_at_call 8; (with_reducible refine HBU1.out.mono ?_); rintro e w2 ⟨b, rfl, hb2, hbel⟩; have HB2 := Lib.hid hbel; rw [HN.out] at hb2; obtain ⟨g, cap, rfl, hg⟩ := ownsRow_pos hb2 (by have := HLN.out.1; omega); have HOWN := Lib.hid hb2; have HG := Lib.hid hg; clear hb2 hbel hg))
        have HBW := Lib.hid (HB1.out.trans (HB2.out.mono HB1.out.size))
        have hgw : wc.heap.size ≤ g := Nat.le_trans HB1.out.size HG.out
        have hBg : B < wc.heap.size := blk_lt HT.out.2.1
        have HGB := Lib.hid (show wc.heap.size ≤ g ∧ B ≠ g from ⟨hgw, by omega⟩)
        clear hgw hBg l3 HBU HBU1 HOF
        go_loopw [10, 11] (fun cv iv wr => ∃ i : Nat, i ≤ 4 ∧ iv = .int .i64 i ∧ cv = .bool (x.chg i) ∧ wr.ownsRow w1.heap.size 5 1 (.slice (some ⟨g, 0, none⟩) n cap) n (cellsOf (x.turn bs m i)) ∧ Below wc.heap.size wc wr) (fun _ iv _ => 4 - (intOf iv).toNat)
        case atStart => exact ⟨0, by omega, rfl, rfl, HOWN.out, HBW.out⟩
        case round =>
          obtain ⟨i, hi, rfl, rfl, hown, hB⟩ := hrel
          clear hm1 hm2 hn0 hn1 hw3 hcw hmw hl8
          have hBlk : wr.heap[B]? = some (.cells x.four 60 (0, 0)) := (hB.block B (blk_lt HT.out.2.1)).trans HT.out.2.1
          by_cases hlt : i < 4
          · have hlen := x.turn_len bs m i
            rw [HN.out] at hlen
            obtain ⟨q, hq⟩ : ∃ q, m + i = q := ⟨_, rfl⟩
            have hqn : q < n := by have := HM.out; omega
            have hmi : (m : Int) + (i : Int) = (q : Int) := by omega
            have q1 : (q : Int) < n := by omega
            obtain ⟨q2, q3⟩ := nat_wraps q (by have := HLN.out.2; omega)
            have i1 : (i : Int) < 4 := by omega
            have c1 : wr.cell? ⟨g, q, none⟩ = some (.int .u8 (U ((x.turn bs m i)[q]?.getD 0))) := by
              rw [hown.cellAt q (by omega)]
              exact cellsOf_get _ q (by omega)
            have f1 : wr.frozen? ⟨g, q, none⟩ = false := hown.frozenAt q
            have c2 : wr.cell? ⟨B, i, none⟩ = some (.int .u8 (U (x.ts i))) := (blk_cell hBlk i).trans (x.four_get i hlt)
            have HTS := Lib.hid (show x.turn bs m (i + 1) = (x.turn bs m i).set q (((x.turn bs m i)[q]?.getD 0) ^^^ x.ts i) from by rw [TurnP.turn, hq])
            have HCS := Lib.hid (show x.chg (i + 1) = (x.chg i || (x.ts i != 0)) from rfl)
            have hne : (U (x.ts i) != 0) = (x.ts i != 0) := by
              have := U_beq (x.ts i) 0
              rw [show U (0 : BitVec 8) = 0 from rfl] at this
              rw [bne, this, bne]
              rfl
            have e1 := xor_u8 ((x.turn bs m i)[q]?.getD 0) (x.ts i)
            generalize (x.turn bs m i)[q]?.getD 0 = zc at c1 HTS e1
            generalize x.ts i = ti at c2 HTS HCS hne e1
            have c3 : ∀ u, (wr.setCell ⟨g, q, none⟩ u).drew.cell? ⟨B, i, none⟩ = some (.int .u8 (U ti)) := fun u => (World.cell?_setCell_other _ _ _ _ (fun h => HGB.out.2 (by first | exact congrArg Addr.block h | exact (congrArg Addr.block h).symm | exact (Addr.mk.inj h).1 | exact (Addr.mk.inj h).1.symm))).trans c2
            have hB2 := fun u => (hB.setCell (p := ⟨g, q, none⟩) HGB.out.1 u).drew
            have HB3 := Lib.hid hB2
            have HOW3 := Lib.hid (fun u => (hown.stored q u).1.drew)
            clear hB2 hown hB hBlk hlen hq hlt
            cases hcb : x.chg i with
            | true =>
              rw [hcb] at HCS
              clear hcb
              go_wp2
              go_still_tail 11, (by kernel_rfl)
              change wpList _ _ _ _ _ wr.drew
              go_wp2
              go_roundw
              case rel => exact ⟨i + 1, by omega, by go_num, by rw [HCS.out]; rfl, by rw [HTS.out, ← cellsOf_set]; exact HOW3.out _, HB3.out _⟩
              case measure => simp [intOf]; omega
            | false =>
              rw [hcb] at HCS
              clear hcb
              go_wp2
              go_still_tail 11, (by kernel_rfl)
              change wpList _ _ _ _ _ wr.drew
              go_wp2
              go_roundw
              case rel => exact ⟨i + 1, by omega, by go_num, by rw [HCS.out]; rfl, by rw [HTS.out, ← cellsOf_set]; exact HOW3.out _, HB3.out _⟩
              case measure => simp [intOf]; omega
          · obtain rfl : i = 4 := by omega
            have hown2 : wr.ownsRow w1.heap.size 5 1 (.slice (some ⟨g, 0, none⟩) n cap) (x.turn bs m 4).length (cellsOf (x.turn bs m 4)) := by rw [x.turn_len, HN.out]; exact hown
            have HR := Lib.hid (HRD.out _ _ (BytesAt.of_owns hown2))
            obtain ⟨er, her⟩ : ∃ er, readErr (x.turn bs m 4) = er := ⟨_, rfl⟩
            obtain ⟨rl, hrl⟩ : ∃ rl, readL (x.turn bs m 4) = rl := ⟨_, rfl⟩
            obtain ⟨cb, hcb⟩ : ∃ cb, x.chg 4 = cb := ⟨_, rfl⟩
            rw [her, hrl] at HR
            rw [her, hcb] at HFIN
            rw [hcb]
            have hfin : ((er != 0) == cb) = true := by rw [HFIN.out]; simp
            have HB := Lib.hid hB
            clear her hrl hcb hown hown2 hBlk hlt hi hB HRD
            go_upto_region 15 with (first
              | (go_at_call 13; (with_reducible refine HR.out.mono ?_); rintro e w3 ⟨v, rfl, hv, hbel⟩; obtain ⟨av, cv, rfl, _⟩ := id hv; have HB3 := Lib.hid hbel; clear hv hbel)
              | (refine wpList_store_row (o := ⟨none, _, _, _, _, _⟩) rfl 29 (.tmp 12) (.tmp 76) rfl w3.heap.size (rl.cells (.slice av rl.load.length cv)) rfl rfl 29 (LeafP.zero.cells (.slice none 0 0)) (heap_alloc_new _ _) (leaf_sz _ _) rfl ?_ ?_; exact leaf_one _))
            have hbw : Below w3.heap.size w3 ((w3.alloc (.cells (LeafP.zero.cells (.slice none 0 0)) 29)).setRow w3.heap.size (rl.cells (.slice av rl.load.length cv))) := below_setRow ((Below.refl _ _).alloc (Nat.le_refl _) _) (Nat.le_refl _) _
            change (Code.region _ _ _).wp _ _ _ ((w3.alloc (.cells (LeafP.zero.cells (.slice none 0 0)) 29)).setRow w3.heap.size (rl.cells (.slice av rl.load.length cv)))
            generalize (w3.alloc (.cells (LeafP.zero.cells (.slice none 0 0)) 29)).setRow w3.heap.size (rl.cells (.slice av rl.load.length cv)) = w4 at hbw ⊢
            have HB4 := Lib.hid hbw
            clear hbw HR
            go_wp2_with (go_at_call 12; (with_reducible refine (HAW.out _).mono ?_); rintro e w6 ⟨rfl, hb⟩; have HB6 := Lib.hid hb; clear hb)
            go_ret
            exact ⟨rfl, HT.out.2.2.2.2.trans ((HB.out.trans ((HB3.out.trans ((HB4.out.trans (HB6.out.mono HB4.out.size)).mono HB3.out.size)).mono HB.out.size)).mono HT.out.2.2.2.2.size)⟩
      · have hbb : buildB x.size x.leaf.kind x.leaf.place x.leaf.stamp x.leaf.load = [] := by unfold buildB; rw [if_neg he]
        obtain ⟨er, her⟩ : ∃ er, buildErr x.size x.leaf.kind x.leaf.place x.leaf.stamp x.leaf.load.length = er := ⟨_, rfl⟩
        rw [hbb, her] at HBU
        rw [her] at he
        have hne : (er != 0) = true := by simpa using he
        clear hbb her he
        go_wp2_with (first
          | (go_at_call 9; (with_reducible refine HOF.out.mono ?_); rintro e w1 ⟨u, rfl, hu, hb⟩; have HB1 := Lib.hid hb; have HBU1 := Lib.hid (HBU.out _ _ hu); clear hu hb)
          | (go_at_call 8; (with_reducible refine HBU1.out.mono ?_); rintro e w2 ⟨b, rfl, hb2, hbel⟩; have HB2 := Lib.hid hbel; obtain ⟨ab, cb, rfl⟩ := owns_slice hb2; clear hb2 hbel)
          | (go_at_call 12; (with_reducible refine (HAW.out _).mono ?_); rintro e w6 ⟨rfl, hb⟩; have HB6 := Lib.hid hb; clear hb))
        go_ret
        exact ⟨rfl, HT.out.2.2.2.2.trans ((HB1.out.trans ((HB2.out.trans (HB6.out.mono HB2.out.size)).mono HB1.out.size)).mono HT.out.2.2.2.2.size)⟩
    · have hl1 : 600 < (x.leaf.load.length : Int) := by omega
      clear l0 l1 l2
      go_wp2
      go_ret
      exact ⟨rfl, HT.out.2.2.2.2⟩
set_option maxRecDepth 100000 in
theorem leafTurned_lifted (os : Os) (started : os.Started) (H : Type) (enc : TypeId × Value → H) :
    ReturnsInHanded {} Try.checked os 6 .any (Rows.leafTurnedSpec.pre6 enc Try.prog Try.f6 Rows.leafTurnedRow.domain false) (Rows.leafTurnedSpec.post enc Try.prog Try.f6 false true false false) :=
  law_lifted 6 Try.f6 Rows.leafTurnedSpec Try.func6 (by kernel_rfl) rfl rfl
    (fun ds h => by match ds, h with | [_], _ => rfl) (by kernel_rfl) os started
    (ChangeSpec.witness6 (enc := enc) (C := Try.checked) false ⟨#[], #[.agg #[.int .i64 0, .int .i64 0, .int .i64 0, .int .i64 0, .string ⟨#[]⟩, .int .u16 0, .int .u8 0, .int .u8 0, .int .u8 0, .int .u8 0]], []⟩ 8 (by kernel_rfl) (by kernel_rfl) (by kernel_rfl) (by kernel_rfl))
    fun W args ds ps hval hA => by
      rw [Try.params6] at hA hval
      obtain ⟨v0, vs0, d0, ds0, p0, q0, hargs, rfl, rfl, h0, r0⟩ := trodAll_cons hA
      obtain ⟨rfl, rfl, rfl⟩ := trodAll_nil r0
      obtain rfl : args = #[v0] := by cases args; simp_all
      obtain ⟨b0, o0⟩ := hval 0 _ v0 rfl rfl
      obtain ⟨q0, rfl, hq0⟩ := open_turned o0 h0
      exact leafTurned_walk q0 hq0 W

/-- The statement. -/
theorem leafTurned_holds : Rows.LeafTurnedSaid :=
  OpenClaim.holds_of_wide 6 Try.f6 rfl rfl rfl rfl rfl rfl rfl ⟨rfl, rfl, rfl, rfl, rfl⟩ rfl rfl rfl rfl rfl (by kernel_rfl) Try.func6 (by kernel_rfl)
    (of_decide_eq_true (by kernel_rfl)) (by unfold Func.isWrapper; first | (rw [if_pos (by decide +kernel)]; kernel_rfl) | (rw [if_neg (by decide +kernel)]; exact ⟨rfl, rfl⟩))
    (fun os started H enc _ => leafTurned_lifted os started H enc)
#print axioms leafTurned_holds
end Go.Proofs.Ytopjadmjahpeoaa

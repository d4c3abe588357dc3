/-
  Joined: LeafMath, Leaf6, LeafLaw.
  Conditions: none.
-/
import Derived.Test.YtiibpkncdflfcaaLeaf5
import Derived.Lib.SlBytesConst
import Derived.Test.YtiibpkncdflfcaaJS
namespace Go.Proofs.Ytiibpkncdflfcaa
open Go.RowKit

theorem num_back (k : Nat) (i : Int) (hk : k ≤ 8) (h0 : 0 ≤ i) (h1 : i < ((256 ^ k : Nat) : Int)) (h2 : i < 9223372036854775808) : wrap64 (U (leOf (leI k i))) = i := by
  obtain ⟨n, rfl⟩ := Int.eq_ofNat_of_zero_le h0
  have e : (leOf (leI k n)).toNat = n := by
    rw [leOf_toNat _ (by rw [leI_len]; simpa using hk)]
    unfold leI
    rw [leNat_leB, BitVec.toNat_ofInt]
    simp only [Int.toNat_natCast]
    have h1' : n < 256 ^ k := by exact_mod_cast h1
    have h2' : n < 9223372036854775808 := by omega
    have e2 : ((n : Int) % ((2 ^ 64 : Nat) : Int)).toNat = n := by omega
    rw [e2, Nat.mod_eq_of_lt h1']
  unfold U
  rw [e]
  unfold wrap64
  omega
theorem leaf_form (size kd pl st : Int) (ld : List (BitVec 8)) : leafB size kd pl st ld = leI 1 kd ++ (leI 2 ld.length ++ (leI 4 pl ++ (leI 8 st ++ (ld ++ (List.replicate (size - 19 - ld.length).toNat 0#8 ++ leI 4 (U (Crc.crcAdd 0#32 (leafBody size kd pl st ld)))))))) := by
  unfold leafB leafBody
  simp only [List.append_assoc, List.nil_append]
theorem drop_app {α : Type} {xs ys : List α} (n k : Nat) (h : xs.length = n) : (xs ++ ys).drop (n + k) = ys.drop k := by
  subst h; rw [← List.drop_drop, List.drop_left]
theorem seem_built {size kd pl st : Int} {ld : List (BitVec 8)} (h : buildErr size kd pl st ld.length = 0) (hst : st ≤ 9223372036854775807) : seem (leafB size kd pl st ld) = ⟨kd, pl, st, ld⟩ := by
  have hs : sizeB size = true := by
    cases hs : sizeB size with
    | true => rfl
    | false => exact absurd h (by unfold buildErr; rw [hs, if_neg (by decide)]; decide)
  have hp : kindB kd = true ∧ 0 ≤ pl ∧ pl ≤ 2147483647 ∧ 0 ≤ st := by
    by_cases hp : kindB kd = true ∧ 0 ≤ pl ∧ pl ≤ 2147483647 ∧ 0 ≤ st
    · exact hp
    · exact absurd h (by unfold buildErr; rw [hs, if_pos rfl, if_neg hp]; decide)
  have hm : (ld.length : Int) ≤ size - 19 := by
    by_cases hm : size - 19 < ld.length
    · exact absurd h (by unfold buildErr; rw [hs, if_pos rfl, if_pos hp, if_pos hm]; decide)
    · omega
  obtain ⟨hk, p1, p2, p3⟩ := hp
  obtain ⟨s1, s2⟩ : 96 ≤ size ∧ size ≤ 512 := by simpa [sizeB] using hs
  obtain ⟨k1, k2⟩ : 1 ≤ kd ∧ kd ≤ 4 := by simpa [kindB] using hk
  have b1 : wrap64 (U (leOf (leI 1 kd))) = kd := num_back 1 kd (by omega) (by omega) (by omega) (by omega)
  have b2 : wrap64 (U (leOf (leI 2 ld.length))) = ld.length := num_back 2 ld.length (by omega) (by omega) (by omega) (by omega)
  have b3 : wrap64 (U (leOf (leI 4 pl))) = pl := num_back 4 pl (by omega) p1 (by omega) (by omega)
  have b4 : wrap64 (U (leOf (leI 8 st))) = st := num_back 8 st (by omega) p3 (by omega) (by omega)
  obtain ⟨tl, htl⟩ : ∃ tl, (List.replicate (size - 19 - ld.length).toNat 0#8 ++ leI 4 (U (Crc.crcAdd 0#32 (leafBody size kd pl st ld)))) = tl := ⟨_, rfl⟩
  have l1 : (leI 1 kd).length = 1 := leI_len _ _
  have l2 : (leI 2 (ld.length : Int)).length = 2 := leI_len _ _
  have l3 : (leI 4 pl).length = 4 := leI_len _ _
  have l4 : (leI 8 st).length = 8 := leI_len _ _
  have e := leaf_form size kd pl st ld
  rw [htl] at e
  unfold seem
  rw [e]
  have t1 : (leI 1 kd ++ (leI 2 ld.length ++ (leI 4 pl ++ (leI 8 st ++ (ld ++ tl))))).take 1 = leI 1 kd := List.take_left' l1
  have t2 : ((leI 1 kd ++ (leI 2 ld.length ++ (leI 4 pl ++ (leI 8 st ++ (ld ++ tl))))).drop 1).take 2 = leI 2 ld.length := by
    rw [List.drop_left' l1, List.take_left' l2]
  have t3 : ((leI 1 kd ++ (leI 2 ld.length ++ (leI 4 pl ++ (leI 8 st ++ (ld ++ tl))))).drop 3).take 4 = leI 4 pl := by
    rw [show (3 : Nat) = 1 + 2 from rfl, drop_app 1 2 l1, List.drop_left' l2, List.take_left' l3]
  have t4 : ((leI 1 kd ++ (leI 2 ld.length ++ (leI 4 pl ++ (leI 8 st ++ (ld ++ tl))))).drop 7).take 8 = leI 8 st := by
    rw [show (7 : Nat) = 1 + (2 + 4) from rfl, drop_app 1 (2 + 4) l1, drop_app 2 4 l2, List.drop_left' l3, List.take_left' l4]
  have t5 : (leI 1 kd ++ (leI 2 ld.length ++ (leI 4 pl ++ (leI 8 st ++ (ld ++ tl))))).drop 15 = ld ++ tl := by
    rw [show (15 : Nat) = 1 + (2 + (4 + 8)) from rfl, drop_app 1 (2 + (4 + 8)) l1, drop_app 2 (4 + 8) l2, drop_app 4 8 l3, List.drop_left' l4]
  rw [t1, t2, t3, t4, t5, b1, b2, b3, b4]
  have t6 : tookN (ld ++ tl) true ld.length = some ld.length := by simp [tookN]; omega
  rw [t6]
  show LeafP.mk kd pl st ((ld ++ tl).take ld.length) = _
  rw [List.take_left]
theorem read_built {size kd pl st : Int} {ld : List (BitVec 8)} (h : buildErr size kd pl st ld.length = 0) (hst : st ≤ 9223372036854775807) : readErr (leafB size kd pl st ld) = 0 ∧ readL (leafB size kd pl st ld) = ⟨kd, pl, st, ld⟩ ∧ ((leafB size kd pl st ld).length : Int) = size := by
  have hs : sizeB size = true := by
    cases hs : sizeB size with
    | true => rfl
    | false => exact absurd h (by unfold buildErr; rw [hs, if_neg (by decide)]; decide)
  have hm : (ld.length : Int) ≤ size - 19 := by
    by_cases hp : kindB kd = true ∧ 0 ≤ pl ∧ pl ≤ 2147483647 ∧ 0 ≤ st
    · by_cases hm : size - 19 < ld.length
      · exact absurd h (by unfold buildErr; rw [hs, if_pos rfl, if_pos hp, if_pos hm]; decide)
      · omega
    · exact absurd h (by unfold buildErr; rw [hs, if_pos rfl, if_neg hp]; decide)
  have hl := leafB_len kd pl st hm
  have e := seem_built h hst
  have hr : readErr (leafB size kd pl st ld) = 0 := by
    unfold readErr
    rw [hl, hs, e, if_pos rfl, if_pos ⟨h, rfl⟩]
  refine ⟨hr, ?_, hl⟩
  unfold readL
  rw [hr, if_pos rfl, e]
end Go.Proofs.Ytiibpkncdflfcaa
namespace Go.Proofs.Ytiibpkncdflfcaa
open Go.RowKit

def hi05 : List (BitVec 8) := leafB 96 2 5 7 [104#8, 105#8]
theorem hi05_at : hi05[0]? = some 2#8 ∧ hi05[1]? = some 2#8 ∧ hi05[3]? = some 5#8 ∧ hi05[7]? = some 7#8 ∧ hi05[15]? = some 104#8 ∧ hi05.length = 96 := by decide +kernel
theorem hi05_err : buildErr 96 2 5 7 ([104#8, 105#8] : List (BitVec 8)).length = 0 := by decide
theorem own_cell {w : World} {base g n cap : Nat} {bs : List (BitVec 8)} (h : w.ownsRow base 5 1 (.slice (some ⟨g, 0, none⟩) n cap) bs.length (cellsOf bs)) (j : Nat) (b : BitVec 8) (hb : bs[j]? = some b) : w.cell? ⟨g, j, none⟩ = some (.int .u8 (U b)) := by
  have := h.cells (g := g) rfl j (.int .u8 (U b)) (by simp [cellsOf, hb])
  rwa [add_plain, Nat.zero_add] at this

theorem own_hi {w : World} {base : Nat} {u : Value} (h : w.ownsRow base 5 1 u hi05.length (cellsOf hi05)) : ∃ g cap, u = .slice (some ⟨g, 0, none⟩) 96 cap ∧ ∀ W, Below w.heap.size w W →
    W.cell? ⟨g, 0, none⟩ = some (.int .u8 2) ∧ W.cell? ⟨g, 1, none⟩ = some (.int .u8 2) ∧ W.cell? ⟨g, 3, none⟩ = some (.int .u8 5) ∧ W.cell? ⟨g, 7, none⟩ = some (.int .u8 7) ∧ W.cell? ⟨g, 15, none⟩ = some (.int .u8 104) := by
  have h0 := h
  obtain ⟨h1, h2, h3, h4, h5, h6⟩ := hi05_at
  rcases h.2 with ⟨rfl, e⟩ | ⟨g, cap, cur, rfl, _, hg, _⟩
  · rw [h6] at e; exact absurd e (by decide)
  · have hlt := blk_lt hg
    refine ⟨g, cap, by rw [h6], fun W hb => ⟨?_, ?_, ?_, ?_, ?_⟩⟩
    · exact (hb.cell (p := ⟨g, 0, none⟩) hlt).trans (own_cell h0 0 _ h1)
    · exact (hb.cell (p := ⟨g, 1, none⟩) hlt).trans (own_cell h0 1 _ h2)
    · exact (hb.cell (p := ⟨g, 3, none⟩) hlt).trans (own_cell h0 3 _ h3)
    · exact (hb.cell (p := ⟨g, 7, none⟩) hlt).trans (own_cell h0 7 _ h4)
    · exact (hb.cell (p := ⟨g, 15, none⟩) hlt).trans (own_cell h0 15 _ h5)

set_option maxRecDepth 100000 in
set_option maxHeartbeats 4000000 in
theorem awake05 (w : World) : Calls Try.prog 16 #[] w fun e w' => e = .returned (.bool true) ∧ Below w.heap.size w w' := by
  have kc := fun (W : World) (C : Array Value) (n c : Nat) => Lib.run_convert_bytes_const (P := Try.prog) W 30 5 C n c Try.underlying30 Try.underlying5
  have hpk := build_any 96 2 5 7 (.slice (some ⟨w.heap.size, 0, none⟩) 2 2) [104#8, 105#8] (w.alloc (.cells #[.int .u8 104, .int .u8 105] 5 (2, 3)))
    ((bytes_new w [104#8, 105#8] 2 rfl #[.int .u8 104, .int .u8 105] rfl (2, 3)).mono (by simp)) (by decide)
  have hbb : buildB 96 2 5 7 [104#8, 105#8] = hi05 := by unfold buildB; rw [if_pos hi05_err]; rfl
  rw [hi05_err, hbb] at hpk
  have HPK := Lib.hid hpk
  have hrd := read_built hi05_err (by decide)
  have HRD := Lib.hid (fun v W (h : BytesAt W.heap.size W v hi05) => read_any v hi05 W h (by rw [hi05_at.2.2.2.2.2]; decide))
  rw [show readErr hi05 = 0 from hrd.1, show readL hi05 = ⟨2, 5, 7, [104#8, 105#8]⟩ from hrd.2.1] at HRD
  have HROOM := Lib.hid (fun W => room_any 96 W)
  rw [show roomI 96 = 77 by decide] at HROOM
  clear hpk hbb hrd
  go_enter Try.func16, Try.ntmps16
  go_upto_region 3 with (first
    | (go_at_call 22; (with_reducible refine HPK.out.mono ?_); rintro e w1 ⟨u, rfl, hu, hb⟩; have HR2 := Lib.hid (HRD.out _ _ (BytesAt.of_owns hu)); obtain ⟨g, cp, rfl, hcells⟩ := own_hi hu; have HCL := Lib.hid hcells; have HB := Lib.hid hb; clear hu hb hcells)
    | (go_at_call 29; (with_reducible refine HR2.out.mono ?_); rintro e w2 ⟨v, rfl, hv, hb⟩; obtain ⟨av, cv, rfl, _⟩ := id hv; have HV := Lib.hid hv; have HB2 := Lib.hid hb; clear hv hb)
    | (refine wpList_store_row (o := ⟨none, _, _, _, _, _⟩) rfl 39 (.tmp 3) (.tmp 15) rfl w2.heap.size (LeafP.cells ⟨2, 5, 7, [104#8, 105#8]⟩ (.slice av 2 cv)) rfl rfl 39 (LeafP.zero.cells (.slice none 0 0)) (heap_alloc_new _ _) (leaf_sz _ _) rfl ?_ ?_; exact leaf_one _))
  have hbw : Below w2.heap.size w2 ((w2.alloc (.cells (LeafP.zero.cells (.slice none 0 0)) 39)).setRow w2.heap.size (LeafP.cells ⟨2, 5, 7, [104#8, 105#8]⟩ (.slice av 2 cv))) := below_setRow ((Below.refl _ _).alloc (Nat.le_refl _) _) (Nat.le_refl _) _
  have hP2 : ((w2.alloc (.cells (LeafP.zero.cells (.slice none 0 0)) 39)).setRow w2.heap.size (LeafP.cells ⟨2, 5, 7, [104#8, 105#8]⟩ (.slice av 2 cv))).heap[w2.heap.size]? = some (.cells (LeafP.cells ⟨2, 5, 7, [104#8, 105#8]⟩ (.slice av 2 cv)) 39 (0, 0)) := setRow_heap _ _ _ _ _ _ (heap_alloc_new _ _)
  change (Code.region _ _ _).wp _ _ _ ((w2.alloc (.cells (LeafP.zero.cells (.slice none 0 0)) 39)).setRow w2.heap.size (LeafP.cells ⟨2, 5, 7, [104#8, 105#8]⟩ (.slice av 2 cv)))
  generalize (w2.alloc (.cells (LeafP.zero.cells (.slice none 0 0)) 39)).setRow w2.heap.size (LeafP.cells ⟨2, 5, 7, [104#8, 105#8]⟩ (.slice av 2 cv)) = w3 at hbw hP2 ⊢
  obtain ⟨d0, d1, d3, d7, d15⟩ := HCL.out w3 (HB2.out.trans (hbw.mono HB2.out.size))
  have hcv : (convert 30 9 (.slice av 2 cv)).run Try.prog w3 = .ok (.string ⟨#[104, 105]⟩) w3 := conv_str (bs := [104#8, 105#8]) (HV.out.below hbw)
  have p3 : w3.cell? ⟨w2.heap.size, 3, none⟩ = some (.slice av 2 cv) := blk_cell hP2 3
  have hend : Below w.heap.size w w3 := (((Below.refl w.heap.size w).alloc (Nat.le_refl _) _).trans (HB.out.mono (by simp))).trans ((HB2.out.trans (hbw.mono HB2.out.size)).mono (by have := HB.out.size; simp at this; omega))
  have HEND := Lib.hid hend
  obtain ⟨P, hP⟩ : ∃ P, w2.heap.size = P := ⟨_, rfl⟩
  rw [hP] at p3 ⊢
  clear hend hbw hP2 hP
  go_wp2_with (go_at_call 34; (with_reducible refine (HROOM.out _).mono ?_); rintro e w4 ⟨rfl, rfl⟩)
  go_ret
  exact ⟨rfl, HEND.out⟩
end Go.Proofs.Ytiibpkncdflfcaa
namespace Go.Proofs.Ytiibpkncdflfcaa
open Go.ChangeShapes Go.WideShapes Go.ChangeAt Go.RowKit Go.Deep

/-- A document's leaf. -/
def LeafP.doc (x : LeafP) : Array Value := #[.int .i64 x.kind, .int .i64 x.place, .int .i64 x.stamp, .string (strB x.load)]
structure LeafP.wf (x : LeafP) : Prop where
  kind : N64 x.kind
  place : N64 x.place
  stamp : N64 x.stamp
  load : x.load.length ≤ maxLen
section
variable {H : Type} {enc : TypeId × Value → H}
set_option maxRecDepth 100000 in
theorem open_leaf {W : World} {base : Nat} {v : Value} {d : DataW H} {p : List MemPlace} (o : Value.okWide Try.prog W .any base 29 v) (h : DataW.Trod enc Try.prog W 0 (fun _ => true) true 29 v d p) : ∃ q : LeafP, v = .agg q.doc ∧ q.wf := by
  obtain ⟨cs, n, rfl, hlen, hc⟩ := open_agg_one Try.underlying29 (by kernel_rfl) o h
  have h8 : Try.prog.cellsOf 29 = 4 := by kernel_rfl
  rw [h8] at hlen
  match cs, hlen with
  | [c0, c1, c2, c3], _ =>
    obtain ⟨_, y0⟩ := hc 0 _ c0 rfl rfl
    obtain ⟨_, y1⟩ := hc 1 _ c1 rfl rfl
    obtain ⟨_, y2⟩ := hc 2 _ c2 rfl rfl
    obtain ⟨_, y3⟩ := hc 3 _ c3 rfl rfl
    obtain ⟨i0, rfl, w0⟩ := int_cellv y0
    obtain ⟨i1, rfl, w1⟩ := int_cellv y1
    obtain ⟨i2, rfl, w2⟩ := int_cellv y2
    obtain ⟨bs, rfl, w3⟩ := str_cellv y3
    exact ⟨⟨i0, i1, i2, bs⟩, rfl, ⟨w0, w1, w2, w3⟩⟩
end

set_option maxRecDepth 100000 in
set_option maxHeartbeats 4000000 in
theorem of05_any (x : LeafP) (w : World) : Calls Try.prog 8 #[.agg x.doc] w (LeafRet x w) := by
  have hcv := fun W => conv_bytes W (strB x.load)
  have HD : Hid (x.doc = #[.int .i64 x.kind, .int .i64 x.place, .int .i64 x.stamp, .string (strB x.load)]) := rfl
  rw [HD.out]
  go_enter Try.func8, Try.ntmps8
  go_upto_region 1 with (fail)
  change (Code.region _ _ _).wp _ _ _ ((w.alloc (.cells #[.int .i64 x.kind, .int .i64 x.place, .int .i64 x.stamp, .string (strB x.load)] 29)).alloc (.cells (LeafP.zero.cells (.slice none 0 0)) 39))
  have hb2 : Below w.heap.size w ((w.alloc (.cells #[.int .i64 x.kind, .int .i64 x.place, .int .i64 x.stamp, .string (strB x.load)] 29)).alloc (.cells (LeafP.zero.cells (.slice none 0 0)) 39)) := ((Below.refl _ _).alloc (Nat.le_refl _) _).alloc (by simp) _
  have hX : ((w.alloc (.cells #[.int .i64 x.kind, .int .i64 x.place, .int .i64 x.stamp, .string (strB x.load)] 29)).alloc (.cells (LeafP.zero.cells (.slice none 0 0)) 39)).heap[w.heap.size]? = some (.cells #[.int .i64 x.kind, .int .i64 x.place, .int .i64 x.stamp, .string (strB x.load)] 29 (0, 0)) := blk_alloc (heap_alloc_new _ _) _
  have hZ : ((w.alloc (.cells #[.int .i64 x.kind, .int .i64 x.place, .int .i64 x.stamp, .string (strB x.load)] 29)).alloc (.cells (LeafP.zero.cells (.slice none 0 0)) 39)).heap[w.heap.size + 1]? = some (.cells (LeafP.zero.cells (.slice none 0 0)) 39 (0, 0)) := by
    have := heap_alloc_new (w.alloc (.cells #[.int .i64 x.kind, .int .i64 x.place, .int .i64 x.stamp, .string (strB x.load)] 29)) (.cells (LeafP.zero.cells (.slice none 0 0)) 39)
    simpa using this
  generalize (w.alloc (.cells #[.int .i64 x.kind, .int .i64 x.place, .int .i64 x.stamp, .string (strB x.load)] 29)).alloc (.cells (LeafP.zero.cells (.slice none 0 0)) 39) = w1 at hb2 hX hZ ⊢
  obtain ⟨c0, c1, c2, c3⟩ := leaf_cells hX (Below.refl w1.heap.size w1)
  have hbw := bw_below w1 5 (strB x.load)
  have HU := Lib.hid (bw_bytes w1 x.load)
  have HZ := Lib.hid ((hbw.block _ (blk_lt hZ)).trans hZ)
  have HB := Lib.hid (hb2.trans (hbw.mono hb2.size))
  have HSZ := Lib.hid (strB_size x.load)
  rw [HSZ.out] at HU
  simp only [HSZ.out] at hcv
  clear hX hZ hb2 hbw HD
  go_wp2_with (refine wpList_store_row (o := ⟨none, _, _, _, _, _⟩) rfl 39 (.tmp 2) (.tmp 12) rfl (w.heap.size + 1) (x.cells (.slice (some ⟨w1.heap.size, 0, none⟩) x.load.length (grownCap w1 x.load.length 0 5))) rfl rfl 39 (LeafP.zero.cells (.slice none 0 0)) HZ.out (leaf_sz _ _) rfl ?_ ?_; exact leaf_one _)
  have hend : ((Lib.bytesWorld w1 5 (strB x.load)).setRow (w.heap.size + 1) (x.cells (.slice (some ⟨w1.heap.size, 0, none⟩) x.load.length (grownCap w1 x.load.length 0 5)))).heap[w.heap.size + 1]? = some (.cells (x.cells (.slice (some ⟨w1.heap.size, 0, none⟩) x.load.length (grownCap w1 x.load.length 0 5))) 39 (0, 0)) := setRow_heap _ _ _ _ _ _ HZ.out
  refine bodyPost_ret (results_cell_row rfl _ _ (w.heap.size + 1) 39 (x.cells (.slice (some ⟨w1.heap.size, 0, none⟩) x.load.length (grownCap w1 x.load.length 0 5))) (0, 0) _ rfl hend Try.underlying39 rfl (leaf_sz _ _)) rfl ⟨_, rfl, ?_, below_setRow HB.out (by omega) _⟩
  exact (HU.out.besideRow (leaf_none _ _ _ _) HZ.out _).mono (by rw [setRow_size]; exact Nat.le_refl _)

/-- Are two leaves one? -/
theorem told05_yes (x : LeafP) (u : Value) (n : Nat) (w : World) (hu : BytesAt n w u x.load) : Calls Try.prog 14 #[.agg (x.cells u), .agg x.doc] w fun e w' => e = .returned (.bool true) ∧ Below w.heap.size w w' := by
  have hb2 : Below w.heap.size w ((w.alloc (.cells (x.cells u) 39)).alloc (.cells x.doc 29)) := ((Below.refl _ _).alloc (Nat.le_refl _) _).alloc (by simp) _
  have hcv := conv_str (hu.keep (w' := ((w.alloc (.cells (x.cells u) 39)).alloc (.cells x.doc 29))) (fun hne p hp hlt => by
    obtain ⟨a, cap, rfl, _, _, h⟩ := hu
    rcases h with h | ⟨g, off, rfl, hg, hc⟩
    · exact absurd h hne
    · have e : g = p.block := by simpa [Value.ownBlock] using hp
      have hw := World.block_lt_of_cell? _ _ (hc 0 (by cases h : x.load with
        | nil => exact absurd h hne
        | cons b l => simp))
      exact hb2.cell (by rw [← e]; exact hw)))
  have HD : Hid (x.doc = #[.int .i64 x.kind, .int .i64 x.place, .int .i64 x.stamp, .string (strB x.load)]) := rfl
  have HC : Hid (x.cells u = #[.int .i64 x.kind, .int .i64 x.place, .int .i64 x.stamp, u]) := rfl
  have HB := Lib.hid hb2
  obtain ⟨a, cap, rfl, _⟩ := hu
  rw [HD.out, HC.out] at hcv ⊢
  clear hb2
  go_enter Try.func14, Try.ntmps14
  go_wp2
  go_ret
  exact ⟨rfl, HB.out⟩
end Go.Proofs.Ytiibpkncdflfcaa

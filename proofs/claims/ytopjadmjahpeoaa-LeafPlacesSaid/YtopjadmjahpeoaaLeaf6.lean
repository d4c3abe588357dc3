/-
  sgraffitolaw05's awake: the chapter's example holds.
  Conditions: none.
-/
import Derived.Test.YtopjadmjahpeoaaLeafMath
import Derived.Lib.SlBytesConst
namespace Go.Proofs.Ytopjadmjahpeoaa
open Go.RowKit

def hi05 : List (BitVec 8) := leafB 96 2 5 7 [104#8, 105#8]
theorem hi05_at : hi05[0]? = some 2#8 ∧ hi05[1]? = some 2#8 ∧ hi05[3]? = some 5#8 ∧ hi05[7]? = some 7#8 ∧ hi05[15]? = some 104#8 ∧ hi05.length = 96 := by decide +kernel
theorem hi05_err : buildErr 96 2 5 7 ([104#8, 105#8] : List (BitVec 8)).length = 0 := by decide
theorem own_cell {w : World} {base g n cap : Nat} {bs : List (BitVec 8)} (h : w.ownsRow base 5 1 (.slice (some ⟨g, 0, none⟩) n cap) bs.length (cellsOf bs)) (j : Nat) (b : BitVec 8) (hb : bs[j]? = some b) : w.cell? ⟨g, j, none⟩ = some (.int .u8 (U b)) := by
  have := h.cells (g := g) rfl j (.int .u8 (U b)) (by simp [cellsOf, hb])
  rwa [add_plain, Nat.zero_add] at this

theorem own_hi {w : World} {base : Nat} {u : Value} (h : w.ownsRow base 5 1 u hi05.length (cellsOf hi05)) : ∃ g cap, u = .slice (some ⟨g, 0, none⟩) 96 cap ∧ ∀ W, Below w.heap.size w W →
    W.cell? ⟨g, 0, none⟩ = some (.int .u8 2) ∧ W.cell? ⟨g, 1, none⟩ = some (.int .u8 2) ∧ W.cell? ⟨g, 3, none⟩ = some (.int .u8 5) ∧ W.cell? ⟨g, 7, none⟩ = some (.int .u8 7) ∧ W.cell? ⟨g, 15, none⟩ = some (.int .u8 104) := by
  have h0 := h
  obtain ⟨h1, h2, h3, h4, h5, h6⟩ := hi05_at
  rcases h.2 with ⟨rfl, e⟩ | ⟨g, cap, cur, rfl, _, hg, _⟩
  · rw [h6] at e; exact absurd e (by decide)
  · have hlt := blk_lt hg
    refine ⟨g, cap, by rw [h6], fun W hb => ⟨?_, ?_, ?_, ?_, ?_⟩⟩
    · exact (hb.cell (p := ⟨g, 0, none⟩) hlt).trans (own_cell h0 0 _ h1)
    · exact (hb.cell (p := ⟨g, 1, none⟩) hlt).trans (own_cell h0 1 _ h2)
    · exact (hb.cell (p := ⟨g, 3, none⟩) hlt).trans (own_cell h0 3 _ h3)
    · exact (hb.cell (p := ⟨g, 7, none⟩) hlt).trans (own_cell h0 7 _ h4)
    · exact (hb.cell (p := ⟨g, 15, none⟩) hlt).trans (own_cell h0 15 _ h5)

set_option maxRecDepth 100000 in
set_option maxHeartbeats 4000000 in
theorem awake05 (w : World) : Calls Try.prog 12 #[] w fun e w' => e = .returned (.bool true) ∧ Below w.heap.size w w' := by
  have kc := fun (W : World) (C : Array Value) (n c : Nat) => Lib.run_convert_bytes_const (P := Try.prog) W 24 5 C n c Try.underlying24 Try.underlying5
  have hpk := build_any 96 2 5 7 (.slice (some ⟨w.heap.size, 0, none⟩) 2 2) [104#8, 105#8] (w.alloc (.cells #[.int .u8 104, .int .u8 105] 5 (2, 3)))
    ((bytes_new w [104#8, 105#8] 2 rfl #[.int .u8 104, .int .u8 105] rfl (2, 3)).mono (by simp)) (by decide)
  have hbb : buildB 96 2 5 7 [104#8, 105#8] = hi05 := by unfold buildB; rw [if_pos hi05_err]; rfl
  rw [hi05_err, hbb] at hpk
  have HPK := Lib.hid hpk
  have hrd := read_built hi05_err (by decide)
  have HRD := Lib.hid (fun v W (h : BytesAt W.heap.size W v hi05) => read_any v hi05 W h (by rw [hi05_at.2.2.2.2.2]; decide))
  rw [show readErr hi05 = 0 from hrd.1, show readL hi05 = ⟨2, 5, 7, [104#8, 105#8]⟩ from hrd.2.1] at HRD
  have HROOM := Lib.hid (fun W => room_any 96 W)
  rw [show roomI 96 = 77 by decide] at HROOM
  clear hpk hbb hrd
  go_enter Try.func12, Try.ntmps12
  go_upto_region 3 with (first
    | (go_at_call 8; (with_reducible refine HPK.out.mono ?_); rintro e w1 ⟨u, rfl, hu, hb⟩; have HR2 := Lib.hid (HRD.out _ _ (BytesAt.of_owns hu)); obtain ⟨g, cp, rfl, hcells⟩ := own_hi hu; have HCL := Lib.hid hcells; have HB := Lib.hid hb; clear hu hb hcells)
    | (go_at_call 13; (with_reducible refine HR2.out.mono ?_); rintro e w2 ⟨v, rfl, hv, hb⟩; obtain ⟨av, cv, rfl, _⟩ := id hv; have HV := Lib.hid hv; have HB2 := Lib.hid hb; clear hv hb)
    | (refine wpList_store_row (o := ⟨none, _, _, _, _, _⟩) rfl 29 (.tmp 3) (.tmp 15) rfl w2.heap.size (LeafP.cells ⟨2, 5, 7, [104#8, 105#8]⟩ (.slice av 2 cv)) rfl rfl 29 (LeafP.zero.cells (.slice none 0 0)) (heap_alloc_new _ _) (leaf_sz _ _) rfl ?_ ?_; exact leaf_one _))
  have hbw : Below w2.heap.size w2 ((w2.alloc (.cells (LeafP.zero.cells (.slice none 0 0)) 29)).setRow w2.heap.size (LeafP.cells ⟨2, 5, 7, [104#8, 105#8]⟩ (.slice av 2 cv))) := below_setRow ((Below.refl _ _).alloc (Nat.le_refl _) _) (Nat.le_refl _) _
  have hP2 : ((w2.alloc (.cells (LeafP.zero.cells (.slice none 0 0)) 29)).setRow w2.heap.size (LeafP.cells ⟨2, 5, 7, [104#8, 105#8]⟩ (.slice av 2 cv))).heap[w2.heap.size]? = some (.cells (LeafP.cells ⟨2, 5, 7, [104#8, 105#8]⟩ (.slice av 2 cv)) 29 (0, 0)) := setRow_heap _ _ _ _ _ _ (heap_alloc_new _ _)
  change (Code.region _ _ _).wp _ _ _ ((w2.alloc (.cells (LeafP.zero.cells (.slice none 0 0)) 29)).setRow w2.heap.size (LeafP.cells ⟨2, 5, 7, [104#8, 105#8]⟩ (.slice av 2 cv)))
  generalize (w2.alloc (.cells (LeafP.zero.cells (.slice none 0 0)) 29)).setRow w2.heap.size (LeafP.cells ⟨2, 5, 7, [104#8, 105#8]⟩ (.slice av 2 cv)) = w3 at hbw hP2 ⊢
  obtain ⟨d0, d1, d3, d7, d15⟩ := HCL.out w3 (HB2.out.trans (hbw.mono HB2.out.size))
  have hcv : (convert 24 9 (.slice av 2 cv)).run Try.prog w3 = .ok (.string ⟨#[104, 105]⟩) w3 := conv_str (bs := [104#8, 105#8]) (HV.out.below hbw)
  have p3 : w3.cell? ⟨w2.heap.size, 3, none⟩ = some (.slice av 2 cv) := blk_cell hP2 3
  have hend : Below w.heap.size w w3 := (((Below.refl w.heap.size w).alloc (Nat.le_refl _) _).trans (HB.out.mono (by simp))).trans ((HB2.out.trans (hbw.mono HB2.out.size)).mono (by have := HB.out.size; simp at this; omega))
  have HEND := Lib.hid hend
  obtain ⟨P, hP⟩ : ∃ P, w2.heap.size = P := ⟨_, rfl⟩
  rw [hP] at p3 ⊢
  clear hend hbw hP2 hP
  go_wp2_with (go_at_call 11; (with_reducible refine (HROOM.out _).mono ?_); rintro e w4 ⟨rfl, rfl⟩)
  go_ret
  exact ⟨rfl, HEND.out⟩
end Go.Proofs.Ytopjadmjahpeoaa

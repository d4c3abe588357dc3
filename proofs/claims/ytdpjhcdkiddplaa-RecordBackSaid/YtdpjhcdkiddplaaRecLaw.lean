/-
  What the laws of record share: a document's record as an argument, sgraffitolaw09's of.
  Conditions: none.
-/
import Derived.Test.YtdpjhcdkiddplaaRec4
import Derived.Test.YtdpjhcdkiddplaaStrConv
namespace Go.Proofs.Ytdpjhcdkiddplaa
open Go.ChangeShapes Go.WideShapes Go.ChangeAt Go.RowKit Go.Deep

/-- A document's record. -/
def RecP.doc (x : RecP) : Array Value := #[.string (strB x.key), .string (strB x.val), .int .i64 x.fin]
structure RecP.wf (x : RecP) : Prop where
  key : x.key.length ≤ maxLen
  val : x.val.length ≤ maxLen
  fin : N64 x.fin
section
variable {H : Type} {enc : TypeId × Value → H}
set_option maxRecDepth 100000 in
theorem open_rec {W : World} {base : Nat} {v : Value} {d : DataW H} {p : List MemPlace} (o : Value.okWide Try.prog W .any base 25 v) (h : DataW.Trod enc Try.prog W 0 (fun _ => true) true 25 v d p) : ∃ q : RecP, v = .agg q.doc ∧ q.wf := by
  obtain ⟨cs, n, rfl, hlen, hc⟩ := open_agg_one Try.underlying25 (by kernel_rfl) o h
  have h8 : Try.prog.cellsOf 25 = 3 := by kernel_rfl
  rw [h8] at hlen
  match cs, hlen with
  | [c0, c1, c2], _ =>
    obtain ⟨_, y0⟩ := hc 0 _ c0 rfl rfl
    obtain ⟨_, y1⟩ := hc 1 _ c1 rfl rfl
    obtain ⟨_, y2⟩ := hc 2 _ c2 rfl rfl
    obtain ⟨b0, rfl, w0⟩ := str_cellv y0
    obtain ⟨b1, rfl, w1⟩ := str_cellv y1
    obtain ⟨i2, rfl, w2⟩ := int_cellv y2
    exact ⟨⟨b0, b1, i2⟩, rfl, ⟨w0, w1, w2⟩⟩
end
/-- A record that is answered. -/
def RecRet (x : RecP) (w : World) (e : Ending) (w' : World) : Prop := ∃ u v, e = .returned (.agg (x.cells u v)) ∧ BytesAt w'.heap.size w' u x.key ∧ BytesAt w'.heap.size w' v x.val ∧ Below w.heap.size w w'

set_option maxRecDepth 100000 in
set_option maxHeartbeats 4000000 in
theorem of09_any (x : RecP) (w : World) : Calls Try.prog 5 #[.agg x.doc] w (RecRet x w) := by
  have hcv1 := fun W => conv_bytes W (strB x.key)
  have hcv2 := fun W => conv_bytes W (strB x.val)
  have HD : Hid (x.doc = #[.string (strB x.key), .string (strB x.val), .int .i64 x.fin]) := rfl
  rw [HD.out]
  go_enter Try.func5, Try.ntmps5
  go_upto_region 1 with (fail)
  change (Code.region _ _ _).wp _ _ _ ((w.alloc (.cells #[.string (strB x.key), .string (strB x.val), .int .i64 x.fin] 25)).alloc (.cells (RecP.zero.cells (.slice none 0 0) (.slice none 0 0)) 30))
  have hb2 : Below w.heap.size w ((w.alloc (.cells #[.string (strB x.key), .string (strB x.val), .int .i64 x.fin] 25)).alloc (.cells (RecP.zero.cells (.slice none 0 0) (.slice none 0 0)) 30)) := ((Below.refl _ _).alloc (Nat.le_refl _) _).alloc (by simp) _
  have hX : ((w.alloc (.cells #[.string (strB x.key), .string (strB x.val), .int .i64 x.fin] 25)).alloc (.cells (RecP.zero.cells (.slice none 0 0) (.slice none 0 0)) 30)).heap[w.heap.size]? = some (.cells #[.string (strB x.key), .string (strB x.val), .int .i64 x.fin] 25 (0, 0)) := blk_alloc (heap_alloc_new _ _) _
  have hZ : ((w.alloc (.cells #[.string (strB x.key), .string (strB x.val), .int .i64 x.fin] 25)).alloc (.cells (RecP.zero.cells (.slice none 0 0) (.slice none 0 0)) 30)).heap[w.heap.size + 1]? = some (.cells (RecP.zero.cells (.slice none 0 0) (.slice none 0 0)) 30 (0, 0)) := by
    have := heap_alloc_new (w.alloc (.cells #[.string (strB x.key), .string (strB x.val), .int .i64 x.fin] 25)) (.cells (RecP.zero.cells (.slice none 0 0) (.slice none 0 0)) 30)
    simpa using this
  generalize (w.alloc (.cells #[.string (strB x.key), .string (strB x.val), .int .i64 x.fin] 25)).alloc (.cells (RecP.zero.cells (.slice none 0 0) (.slice none 0 0)) 30) = w1 at hb2 hX hZ ⊢
  obtain ⟨c0, c1, c2⟩ := rec_cells hX (Below.refl w1.heap.size w1)
  have hu1 := bw_bytes w1 x.key
  have hbw1 := bw_below w1 5 (strB x.key)
  have hcv1' := hcv1 w1
  obtain ⟨W1, hW1⟩ : ∃ W1, Lib.bytesWorld w1 5 (strB x.key) = W1 := ⟨_, rfl⟩
  rw [hW1] at hu1 hbw1 hcv1'
  have hu2 := bw_bytes W1 x.val
  have hbw2 := bw_below W1 5 (strB x.val)
  have hcv2' := hcv2 W1
  obtain ⟨W2, hW2⟩ : ∃ W2, Lib.bytesWorld W1 5 (strB x.val) = W2 := ⟨_, rfl⟩
  rw [hW2] at hu2 hbw2 hcv2'
  rw [strB_size] at hu1 hu2 hcv1' hcv2'
  obtain ⟨c0', c1', c2'⟩ := rec_cells hX hbw1
  obtain ⟨_, _, c2''⟩ := rec_cells hX (hbw1.trans (hbw2.mono hbw1.size))
  have HU1 := Lib.hid (hu1.below hbw2)
  have HU2 := Lib.hid hu2
  have HZ := Lib.hid (((hbw1.trans (hbw2.mono hbw1.size)).block _ (blk_lt hZ)).trans hZ)
  have HB := Lib.hid (hb2.trans ((hbw1.trans (hbw2.mono hbw1.size)).mono hb2.size))
  obtain ⟨g1, hg1⟩ : ∃ g, grownCap w1 x.key.length 0 5 = g := ⟨_, rfl⟩
  obtain ⟨g2, hg2⟩ : ∃ g, grownCap W1 x.val.length 0 5 = g := ⟨_, rfl⟩
  rw [hg1] at HU1 hcv1'
  rw [hg2] at HU2 hcv2'
  clear hX hZ hb2 hbw1 hbw2 hcv1 hcv2 HD hW1 hW2 hg1 hg2 hu1 hu2
  go_wp2_with (refine wpList_store_row (o := ⟨none, _, _, _, _, _⟩) rfl 30 (.tmp 2) (.tmp 11) rfl (w.heap.size + 1) (x.cells (.slice (some ⟨w1.heap.size, 0, none⟩) x.key.length g1) (.slice (some ⟨W1.heap.size, 0, none⟩) x.val.length g2)) rfl rfl 30 (RecP.zero.cells (.slice none 0 0) (.slice none 0 0)) HZ.out (rec_sz _ _ _) rfl ?_ ?_; exact rec_one _)
  have hend : (W2.setRow (w.heap.size + 1) (x.cells (.slice (some ⟨w1.heap.size, 0, none⟩) x.key.length g1) (.slice (some ⟨W1.heap.size, 0, none⟩) x.val.length g2))).heap[w.heap.size + 1]? = some (.cells (x.cells (.slice (some ⟨w1.heap.size, 0, none⟩) x.key.length g1) (.slice (some ⟨W1.heap.size, 0, none⟩) x.val.length g2)) 30 (0, 0)) := setRow_heap _ _ _ _ _ _ HZ.out
  refine bodyPost_ret (results_cell_row rfl _ _ (w.heap.size + 1) 30 (x.cells (.slice (some ⟨w1.heap.size, 0, none⟩) x.key.length g1) (.slice (some ⟨W1.heap.size, 0, none⟩) x.val.length g2)) (0, 0) _ rfl hend Try.underlying30 rfl (rec_sz _ _ _)) rfl ⟨_, _, rfl, (HU1.out.besideRow (rec_none _ _ _ _ _ _ _) HZ.out _).tight, (HU2.out.besideRow (rec_none _ _ _ _ _ _ _) HZ.out _).tight, below_setRow HB.out (by omega) _⟩
end Go.Proofs.Ytdpjhcdkiddplaa

/-
  What the laws of leaf share: a document's leaf as an argument, sgraffitolaw05's of and told.
  Conditions: none.
-/
import Derived.Test.YtopjadmjahpeoaaLeaf6
import Derived.Test.YtopjadmjahpeoaaStrConv
namespace Go.Proofs.Ytopjadmjahpeoaa
open Go.ChangeShapes Go.WideShapes Go.ChangeAt Go.RowKit Go.Deep

/-- A document's leaf. -/
def LeafP.doc (x : LeafP) : Array Value := #[.int .i64 x.kind, .int .i64 x.place, .int .i64 x.stamp, .string (strB x.load)]
structure LeafP.wf (x : LeafP) : Prop where
  kind : N64 x.kind
  place : N64 x.place
  stamp : N64 x.stamp
  load : x.load.length ≤ maxLen
section
variable {H : Type} {enc : TypeId × Value → H}
set_option maxRecDepth 100000 in
theorem open_leaf {W : World} {base : Nat} {v : Value} {d : DataW H} {p : List MemPlace} (o : Value.okWide Try.prog W .any base 23 v) (h : DataW.Trod enc Try.prog W 0 (fun _ => true) true 23 v d p) : ∃ q : LeafP, v = .agg q.doc ∧ q.wf := by
  obtain ⟨cs, n, rfl, hlen, hc⟩ := open_agg_one Try.underlying23 (by kernel_rfl) o h
  have h8 : Try.prog.cellsOf 23 = 4 := by kernel_rfl
  rw [h8] at hlen
  match cs, hlen with
  | [c0, c1, c2, c3], _ =>
    obtain ⟨_, y0⟩ := hc 0 _ c0 rfl rfl
    obtain ⟨_, y1⟩ := hc 1 _ c1 rfl rfl
    obtain ⟨_, y2⟩ := hc 2 _ c2 rfl rfl
    obtain ⟨_, y3⟩ := hc 3 _ c3 rfl rfl
    obtain ⟨i0, rfl, w0⟩ := int_cellv y0
    obtain ⟨i1, rfl, w1⟩ := int_cellv y1
    obtain ⟨i2, rfl, w2⟩ := int_cellv y2
    obtain ⟨bs, rfl, w3⟩ := str_cellv y3
    exact ⟨⟨i0, i1, i2, bs⟩, rfl, ⟨w0, w1, w2, w3⟩⟩
end

set_option maxRecDepth 100000 in
set_option maxHeartbeats 4000000 in
theorem of05_any (x : LeafP) (w : World) : Calls Try.prog 9 #[.agg x.doc] w (LeafRet x w) := by
  have hcv := fun W => conv_bytes W (strB x.load)
  have HD : Hid (x.doc = #[.int .i64 x.kind, .int .i64 x.place, .int .i64 x.stamp, .string (strB x.load)]) := rfl
  rw [HD.out]
  go_enter Try.func9, Try.ntmps9
  go_upto_region 1 with (fail)
  change (Code.region _ _ _).wp _ _ _ ((w.alloc (.cells #[.int .i64 x.kind, .int .i64 x.place, .int .i64 x.stamp, .string (strB x.load)] 23)).alloc (.cells (LeafP.zero.cells (.slice none 0 0)) 29))
  have hb2 : Below w.heap.size w ((w.alloc (.cells #[.int .i64 x.kind, .int .i64 x.place, .int .i64 x.stamp, .string (strB x.load)] 23)).alloc (.cells (LeafP.zero.cells (.slice none 0 0)) 29)) := ((Below.refl _ _).alloc (Nat.le_refl _) _).alloc (by simp) _
  have hX : ((w.alloc (.cells #[.int .i64 x.kind, .int .i64 x.place, .int .i64 x.stamp, .string (strB x.load)] 23)).alloc (.cells (LeafP.zero.cells (.slice none 0 0)) 29)).heap[w.heap.size]? = some (.cells #[.int .i64 x.kind, .int .i64 x.place, .int .i64 x.stamp, .string (strB x.load)] 23 (0, 0)) := blk_alloc (heap_alloc_new _ _) _
  have hZ : ((w.alloc (.cells #[.int .i64 x.kind, .int .i64 x.place, .int .i64 x.stamp, .string (strB x.load)] 23)).alloc (.cells (LeafP.zero.cells (.slice none 0 0)) 29)).heap[w.heap.size + 1]? = some (.cells (LeafP.zero.cells (.slice none 0 0)) 29 (0, 0)) := by
    have := heap_alloc_new (w.alloc (.cells #[.int .i64 x.kind, .int .i64 x.place, .int .i64 x.stamp, .string (strB x.load)] 23)) (.cells (LeafP.zero.cells (.slice none 0 0)) 29)
    simpa using this
  generalize (w.alloc (.cells #[.int .i64 x.kind, .int .i64 x.place, .int .i64 x.stamp, .string (strB x.load)] 23)).alloc (.cells (LeafP.zero.cells (.slice none 0 0)) 29) = w1 at hb2 hX hZ ⊢
  obtain ⟨c0, c1, c2, c3⟩ := leaf_cells hX (Below.refl w1.heap.size w1)
  have hbw := bw_below w1 5 (strB x.load)
  have HU := Lib.hid (bw_bytes w1 x.load)
  have HZ := Lib.hid ((hbw.block _ (blk_lt hZ)).trans hZ)
  have HB := Lib.hid (hb2.trans (hbw.mono hb2.size))
  have HSZ := Lib.hid (strB_size x.load)
  rw [HSZ.out] at HU
  simp only [HSZ.out] at hcv
  clear hX hZ hb2 hbw HD
  go_wp2_with (refine wpList_store_row (o := ⟨none, _, _, _, _, _⟩) rfl 29 (.tmp 2) (.tmp 12) rfl (w.heap.size + 1) (x.cells (.slice (some ⟨w1.heap.size, 0, none⟩) x.load.length (grownCap w1 x.load.length 0 5))) rfl rfl 29 (LeafP.zero.cells (.slice none 0 0)) HZ.out (leaf_sz _ _) rfl ?_ ?_; exact leaf_one _)
  have hend : ((Lib.bytesWorld w1 5 (strB x.load)).setRow (w.heap.size + 1) (x.cells (.slice (some ⟨w1.heap.size, 0, none⟩) x.load.length (grownCap w1 x.load.length 0 5)))).heap[w.heap.size + 1]? = some (.cells (x.cells (.slice (some ⟨w1.heap.size, 0, none⟩) x.load.length (grownCap w1 x.load.length 0 5))) 29 (0, 0)) := setRow_heap _ _ _ _ _ _ HZ.out
  refine bodyPost_ret (results_cell_row rfl _ _ (w.heap.size + 1) 29 (x.cells (.slice (some ⟨w1.heap.size, 0, none⟩) x.load.length (grownCap w1 x.load.length 0 5))) (0, 0) _ rfl hend Try.underlying29 rfl (leaf_sz _ _)) rfl ⟨_, rfl, ?_, below_setRow HB.out (by omega) _⟩
  exact (HU.out.besideRow (leaf_none _ _ _ _) HZ.out _).mono (by rw [setRow_size]; exact Nat.le_refl _)

/-- Are two leaves one? -/
theorem told05_yes (x : LeafP) (u : Value) (n : Nat) (w : World) (hu : BytesAt n w u x.load) : Calls Try.prog 15 #[.agg (x.cells u), .agg x.doc] w fun e w' => e = .returned (.bool true) ∧ Below w.heap.size w w' := by
  have hb2 : Below w.heap.size w ((w.alloc (.cells (x.cells u) 29)).alloc (.cells x.doc 23)) := ((Below.refl _ _).alloc (Nat.le_refl _) _).alloc (by simp) _
  have hcv := conv_str (hu.keep (w' := ((w.alloc (.cells (x.cells u) 29)).alloc (.cells x.doc 23))) (fun hne p hp hlt => by
    obtain ⟨a, cap, rfl, _, _, h⟩ := hu
    rcases h with h | ⟨g, off, rfl, hg, hc⟩
    · exact absurd h hne
    · have e : g = p.block := by simpa [Value.ownBlock] using hp
      have hw := World.block_lt_of_cell? _ _ (hc 0 (by cases h : x.load with
        | nil => exact absurd h hne
        | cons b l => simp))
      exact hb2.cell (by rw [← e]; exact hw)))
  have HD : Hid (x.doc = #[.int .i64 x.kind, .int .i64 x.place, .int .i64 x.stamp, .string (strB x.load)]) := rfl
  have HC : Hid (x.cells u = #[.int .i64 x.kind, .int .i64 x.place, .int .i64 x.stamp, u]) := rfl
  have HB := Lib.hid hb2
  obtain ⟨a, cap, rfl, _⟩ := hu
  rw [HD.out, HC.out] at hcv ⊢
  clear hb2
  go_enter Try.func15, Try.ntmps15
  go_wp2
  go_ret
  exact ⟨rfl, HB.out⟩
end Go.Proofs.Ytopjadmjahpeoaa

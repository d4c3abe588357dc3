/-
  sgraffitolaw03's awake: the chapter's examples hold.
  Conditions: none.
-/
import Derived.Test.YtocjdhkjlnkgaaaWire6
import Derived.Lib.SlBytesConst
namespace Go.Proofs.Ytocjdhkjlnkgaaa
open Go.RowKit

theorem text_apart {n₀ B : Nat} {w : World} {v : Value} {row : List (BitVec 8)} {limit : Int} {full : Bool} (h : WriterAt n₀ w B v row limit full) {n c : Nat} : ∀ k, (Value.slice (some ⟨w.heap.size, 0, none⟩) n c).ownBlock = some k → ¬ wS B v k := by
  intro k e hk
  have e : w.heap.size = k := by simpa [Value.ownBlock] using e
  rcases hk with hk | hk
  · have := blk_lt h.blk; omega
  · have := (h.own.lt k hk).2; omega
set_option maxRecDepth 100000 in
set_option maxHeartbeats 1000000 in
theorem awake03 (w : World) : Calls Try.prog 9 #[] w fun e w' => e = .returned (.bool true) ∧ Below w.heap.size w w' := by
  have kc := fun (W : World) (C : Array Value) (n c : Nat) => Lib.run_convert_bytes_const (P := Try.prog) W 22 5 C n c Try.underlying22 Try.underlying5
  have HW0 := Lib.hid (show WriterAt w.heap.size (w.alloc (.cells #[.slice none 0 0, .int .i64 9, .bool false] 47)) w.heap.size (.slice none 0 0) [] 9 false from ⟨heap_alloc_new _ _, World.ownsRow_nil _ _ _ _⟩)
  have HB0 := Lib.hid ((Below.refl w.heap.size w).alloc (Nat.le_refl _) (.cells #[.slice none 0 0, .int .i64 9, .bool false] 47))
  go_enter Try.func9, Try.ntmps9
  go_wp2_with (first
    | (go_at_call 14; refine (newWriter_any 9 _).mono ?_; rintro e w' ⟨rfl, rfl⟩)
    | (go_at_call 15; refine (number_any w.heap.size w.heap.size _ [] 9 false 258#64 2 _ HW0.out (by decide) (by decide) (by simp) (by simp)).mono ?_; rintro e w1 ⟨rfl, v1, hA1, hS1⟩; have HA1 := Lib.hid (show WriterAt w.heap.size w1 w.heap.size v1 [2#8, 1#8] 9 false from hA1); have HS1 := Lib.hid hS1; clear hA1 hS1)
    | (go_at_call 16; refine (text_any w.heap.size w.heap.size v1 [2#8, 1#8] 9 false _ [97#8] _ (HA1.out.alloc _) ((bytes_new _ [97#8] 1 rfl _ rfl (1, 2)).mono (by simp)) (fun _ => text_apart HA1.out) (by decide) (by decide) (by simp) (by simp) (by have := HS1.out.moves.size; simp at this ⊢; omega)).mono ?_; rintro e w2 ⟨rfl, v2, hA2, hS2⟩; have HA2 := Lib.hid (show WriterAt w.heap.size w2 w.heap.size v2 [2#8, 1#8, 1#8, 0#8, 97#8] 9 false from hA2); have HS2 := Lib.hid (HS1.out.trans (hS2.behind ((Below.refl _ _).alloc (Nat.le_refl _) _))); clear hA2 hS2)
    | (go_at_call 4; refine (newReader_any _ [1#8, 2#8, 3#8] _ ((bytes_new _ [1#8, 2#8, 3#8] 3 rfl _ rfl).mono (by simp)) (by simp)).mono ?_; rintro e w3 ⟨R, vr, rfl, hR3, hr3, hb3, hv3⟩; have HA3 := Lib.hid ((HA2.out.alloc _).below hb3); have HR3 := Lib.hid hr3; have HB3 := Lib.hid hb3; clear hr3 hb3 hv3)
    | (go_at_call 17; refine (bytes_any _ _ _ _ _ _ _ HA3.out (by simp)).mono ?_; rintro e w4 ⟨u4, rfl, hu4, hb4⟩; have hcv := conv_str (BytesAt.of_owns hu4); rw [show strB [2#8, 1#8, 1#8, 0#8, 97#8] = ⟨#[2, 1, 1, 0, 97]⟩ from rfl] at hcv; have HA4 := Lib.hid (HA3.out.below hb4); have HR4 := Lib.hid (HR3.out.below hb4); have HB4 := Lib.hid hb4; clear hb4 hu4)
    | (go_at_call 18; refine (full_any _ _ _ _ _ _ _ HA4.out).mono ?_; rintro e w5 ⟨rfl, rfl⟩)
    | (go_at_call 6; refine (rnumber_any _ _ _ _ 4 _ HR4.out (by simp)).mono ?_; rintro e w6 ⟨rfl, v6, hr6, hm6⟩; have HR6 := Lib.hid (show ReaderAt w6 R v6 [] true from hr6); have HM6 := Lib.hid hm6; clear hr6 hm6)
    | (go_at_call 7; refine (bad_any _ _ _ _ _ HR6.out).mono ?_; rintro e w7 ⟨rfl, rfl⟩))
  have h2 : Below w.heap.size w w2 := HB0.out.trans (HS2.out.moves.below (fun i hi => by
    rcases hi with rfl | hi
    · exact Nat.le_refl _
    · simp [Value.ownBlock] at hi) (by simp))
  have h4 := (h2.alloc h2.size _).trans ((HB3.out.trans (HB4.out.mono HB3.out.size)).mono (by have := h2.size; simp; omega))
  have h6 := h4.trans (HM6.out.below (B := w.heap.size) (fun i hi => by
    have hi : i = R := hi
    have := h2.size
    simp at hR3
    omega) h4.size)
  go_ret
  exact ⟨rfl, h6⟩

end Go.Proofs.Ytocjdhkjlnkgaaa

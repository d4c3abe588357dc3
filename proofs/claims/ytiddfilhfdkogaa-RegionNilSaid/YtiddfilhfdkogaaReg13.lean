/-
  region: loadOf.
  Conditions: none.
-/
import Derived.Test.YtiddfilhfdkogaaReg12
import Derived.Test.YtiddfilhfdkogaaReg2
namespace Go.Proofs.Ytiddfilhfdkogaa
open Go.RowKit

/-- What the sector of a piece tells. -/
def LogS.loadE (x : LogS) (d : Dev) (q s : Nat) : Int := if x.wayB q s then 0 else x.storedE d q s
def LogS.loadB (x : LogS) (d : Dev) (q s : Nat) : List (BitVec 8) := if x.wayB q s then fillTo x.room x.row else x.storedB d q s
section
variable {w W : World} {E : Foot} {R D : Nat} {x : LogS} {d : Dev}
set_option maxHeartbeats 4000000 in
theorem loadOf_any (h : LogApart w E R D x d W) (hon : x.On d) (q s : Nat) (p n : Int) (hs : s ≤ x.sectors) : Calls Try.prog 45 #[.pointer (some ⟨R, 0, none⟩), .agg #[.int .i64 q, .int .i64 p, .int .i64 n, .int .i64 s]] W (BytesErr (x.loadB d q s) (x.loadE d q s) W) := by
  obtain ⟨rv, hL, _⟩ := id h
  obtain ⟨ra, rc, rfl⟩ := hL.slice
  have hbx : Below W.heap.size W (W.alloc (.cells #[.int .i64 q, .int .i64 p, .int .i64 n, .int .i64 s] 88)) := (Below.refl _ W).alloc (Nat.le_refl _) _
  have hbk : (W.alloc (.cells #[.int .i64 q, .int .i64 p, .int .i64 n, .int .i64 s] 88)).heap[W.heap.size]? = some (.cells #[.int .i64 q, .int .i64 p, .int .i64 n, .int .i64 s] 88 (0, 0)) := heap_alloc_new _ _
  obtain ⟨W1, hW1⟩ : ∃ W1, W.alloc (.cells #[.int .i64 q, .int .i64 p, .int .i64 n, .int .i64 s] 88) = W1 := ⟨_, rfl⟩
  rw [hW1] at hbx hbk
  have l0 : W1.cell? ⟨W.heap.size, 0, none⟩ = some (.int .i64 q) := blk_cell hbk 0
  have l1 : W1.cell? ⟨W.heap.size, 1, none⟩ = some (.int .i64 p) := blk_cell hbk 1
  have l2 : W1.cell? ⟨W.heap.size, 2, none⟩ = some (.int .i64 n) := blk_cell hbk 2
  have l3 : W1.cell? ⟨W.heap.size, 3, none⟩ = some (.int .i64 s) := blk_cell hbk 3
  have HWA := Lib.hid (way_any (hL.below hbx) q p n s)
  have HFI := Lib.hid (fun (V : World) (hb : Below W.heap.size W V) => filled_any (hL.below hb) (.slice ra x.row.length rc) x.row ((BytesAt.of_owns (hL.below hb).row)) hL.ok.rlt)
  have HST := Lib.hid (fun (V : World) (hb : Below W.heap.size W V) => stored_any (h.on hb) hon q s p n hs)
  have HLR := Lib.hid (fillTo_len hL.ok.rlt)
  have HC7 := Lib.hid (fun (V : World) (hb : Below W.heap.size W V) => (hL.below hb).cells.2.2.2.2.2.2.2)
  have HBX := Lib.hid hbx
  have HBK := Lib.hid hbk
  have HW1 := Lib.hid hW1
  have HE : Hid (x.loadE d q s = if x.wayB q s then 0 else x.storedE d q s) := rfl
  have HB : Hid (x.loadB d q s = if x.wayB q s then fillTo x.room x.row else x.storedB d q s) := rfl
  generalize x.loadE d q s = er at HE ⊢
  generalize x.loadB d q s = bs at HB ⊢
  generalize x.storedE d q s = se at *
  generalize x.storedB d q s = sb at *
  clear h hL hon hs hbx hbk hW1
  go_enter Try.func45, Try.ntmps45
  go_upto_region 1 with (fail)
  change (Code.region _ _ _).wp _ _ _ (W.alloc (.cells #[.int .i64 q, .int .i64 p, .int .i64 n, .int .i64 s] 88))
  rw [HW1.out]
  clear HW1
  cases hw : x.wayB q s with
  | true =>
    rw [hw] at HWA HE HB
    have hE := HE.out
    have hB := HB.out
    rw [if_pos rfl] at hE hB
    subst hE hB
    clear HE HB hw
    go_wp2_with (first
      | (go_at_call 40; (with_reducible refine HWA.out.mono ?_); rintro e w2 ⟨rfl, hb2⟩; have HB2 := Lib.hid (HBX.out.trans (hb2.mono HBX.out.size)); have c7 := HC7.out _ HB2.out; clear hb2 l0 l1 l2 l3)
      | (go_at_call 55; (with_reducible refine (HFI.out _ HB2.out).mono ?_); rintro e w9 ⟨g9, c9, rfl, hr9, hb9⟩; have HR9 := Lib.hid hr9; have HB9 := Lib.hid (HB2.out.trans (hb9.mono HB2.out.size)); clear hr9 hb9))
    go_ret2
    exact ⟨_, rfl, BytesAt.of_owns (base := w2.heap.size) (bs := fillTo x.room x.row) (by rw [HLR.out]; exact HR9.out), HB9.out⟩
  | false =>
    rw [hw] at HWA HE HB
    have hE := HE.out
    have hB := HB.out
    rw [if_neg (by decide)] at hE hB
    subst hE hB
    clear HE HB hw HFI
    go_wp2_with (first
      | (go_at_call 40; (with_reducible refine HWA.out.mono ?_); rintro e w2 ⟨rfl, hb2⟩; have hk2 := (hb2.block _ (blk_lt HBK.out)).trans HBK.out; have m0 : w2.cell? ⟨W.heap.size, 0, none⟩ = some (.int .i64 q) := blk_cell hk2 0; have m1 : w2.cell? ⟨W.heap.size, 1, none⟩ = some (.int .i64 p) := blk_cell hk2 1; have m2 : w2.cell? ⟨W.heap.size, 2, none⟩ = some (.int .i64 n) := blk_cell hk2 2; have m3 : w2.cell? ⟨W.heap.size, 3, none⟩ = some (.int .i64 s) := blk_cell hk2 3; have HB2 := Lib.hid (HBX.out.trans (hb2.mono HBX.out.size)); clear hb2 l0 l1 l2 l3 hk2)
      | (go_at_call 41; (with_reducible refine (HST.out _ HB2.out).mono ?_); rintro e w9 ⟨v9, rfl, hr9, hb9⟩; have HR9 := Lib.hid hr9; have HB9 := Lib.hid (HB2.out.trans (hb9.mono HB2.out.size)); clear hr9 hb9))
    go_ret2
    exact ⟨_, rfl, HR9.out, HB9.out⟩
end
end Go.Proofs.Ytiddfilhfdkogaa

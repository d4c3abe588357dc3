/-
  leaf.Put on a device beside other new memory.
  Conditions: none.
-/
import Derived.Test.YtfdipeaddofjaaaLeafDev
import Derived.Test.YtfdipeaddofjaaaJF2
namespace Go.Proofs.Ytfdipeaddofjaaa
open Go.RowKit

theorem Same.tr {O : Foot} {a b c : World} (h : Same O a b) (k : Same O b c) : Same O a c := ⟨Nat.le_trans h.1 k.1, fun i hi => (k.2 i hi).trans (h.2 i hi)⟩
theorem DevApart.same {w W W' : World} {Q : Foot} {D : Nat} {d : Dev} (h : DevApart w Q D d W) (hb : Below W.heap.size W W') : Same Q W W' := by
  obtain ⟨O, _, _, _, hi⟩ := h
  exact Same.of_below hb hi
/-- What Put leaves. -/
def PutAp (w : World) (Q : Foot) (D : Nat) (d : Dev) (at_ : Int) (W : World) (bs : List (BitVec 8)) (er : Int) (e : Ending) (W' : World) : Prop :=
  ((er = 0 ∧ e = .returned (.int .i64 (writeErr d at_ bs.length)) ∧ DevApart w Q D (d.write at_ bs) W') ∨ (er ≠ 0 ∧ e = .returned (.int .i64 er) ∧ DevApart w Q D d W')) ∧ Same Q W W'

set_option maxRecDepth 100000 in
set_option maxHeartbeats 2000000 in
theorem put_apart {w W : World} {Q : Foot} {D : Nat} {d : Dev} (h : DevApart w Q D d W) (at_ : Int) (x : LeafP) (u : Value) (hu : BytesAt W.heap.size W u x.load) (hst : x.stamp ≤ 9223372036854775807) {k : Nat} (hs : d.Small k) (hk : k ≤ 65536) :
    Calls Try.prog 39 #[.pointer (some ⟨D, 0, none⟩), .int .i64 at_, .agg (x.cells u)] W (PutAp w Q D d at_ W (buildB d.size x.kind x.place x.stamp x.load) (buildErr d.size x.kind x.place x.stamp x.load.length)) := by
  have hX : (W.alloc (.cells (x.cells u) 96)).heap[W.heap.size]? = some (.cells (x.cells u) 96 (0, 0)) := heap_alloc_new _ _
  have hB : Below W.heap.size W (W.alloc (.cells (x.cells u) 96)) := (Below.refl _ _).alloc (Nat.le_refl _) _
  obtain ⟨a, c, rfl, _⟩ := id hu
  obtain ⟨W1, hW1⟩ : ∃ W1, W.alloc (.cells (x.cells (.slice a x.load.length c)) 96) = W1 := ⟨_, rfl⟩
  rw [hW1] at hX hB
  have hd1 := h.on hB
  have HD1 := Lib.hid hd1
  have hu1 : BytesAt W1.drew.heap.size W1.drew (.slice a x.load.length c) x.load := (hu.below hB).mono hB.size
  have HSZ := Lib.hid (here_size hd1.here.drew)
  obtain ⟨S, hS⟩ : ∃ S : Nat, d.size = S := ⟨_, rfl⟩
  rw [hS] at HSZ ⊢
  have HBU := Lib.hid (show Calls Try.prog 63 #[.int .i64 S, .agg #[.int .i64 x.kind, .int .i64 x.place, .int .i64 x.stamp, .slice a x.load.length c]] W1.drew (Built (buildB S x.kind x.place x.stamp x.load) (buildErr S x.kind x.place x.stamp x.load.length) W1.drew) from build_any S x.kind x.place x.stamp _ x.load W1.drew hu1 hst)
  obtain ⟨bs, hbs⟩ : ∃ bs, buildB S x.kind x.place x.stamp x.load = bs := ⟨_, rfl⟩
  obtain ⟨er, her⟩ : ∃ er, buildErr S x.kind x.place x.stamp x.load.length = er := ⟨_, rfl⟩
  rw [hbs, her] at HBU
  rw [hbs, her]
  obtain ⟨c0, c1, c2, c3⟩ : W1.drew.cell? ⟨W.heap.size, 0, none⟩ = some (.int .i64 x.kind) ∧ W1.drew.cell? ⟨W.heap.size, 1, none⟩ = some (.int .i64 x.place) ∧ W1.drew.cell? ⟨W.heap.size, 2, none⟩ = some (.int .i64 x.stamp) ∧ W1.drew.cell? ⟨W.heap.size, 3, none⟩ = some (.slice a x.load.length c) := leaf_cells (v1 := .int .i64 x.kind) hX ((Below.refl _ W1).drew)
  have HWR := Lib.hid (fun W' (b : Value) (hb : Below W1.drew.heap.size W1.drew W') (ho : BytesAt W'.heap.size W' b bs) => apart_write ((hd1.on (Below.refl W1.heap.size W1).drew).on hb) at_ ho hs hk)
  have HSM := Lib.hid (h.same (hB.trans ((Below.refl W1.heap.size W1).drew.mono hB.size)))
  have HSN := Lib.hid (fun V (hb : Below W1.drew.heap.size W1.drew V) => (hd1.on (Below.refl W1.heap.size W1).drew).same hb)
  clear hbs her hS hu hu1 hX hB hst hd1 h hs hk
  change Calls _ _ #[_, _, .agg #[.int .i64 x.kind, .int .i64 x.place, .int .i64 x.stamp, .slice a x.load.length c]] _ _
  go_enter Try.func39, Try.ntmps39
  go_upto_region 3 with (fail)
  change (Code.region _ _ _).wp _ _ _ (W.alloc (.cells (x.cells (.slice a x.load.length c)) 96))
  rw [hW1]
  go_cut [7, 8] (fun s7 s8 wx => ∃ b, s7 = b ∧ s8 = .int .i64 er ∧ wx.ownsRow W1.drew.heap.size 5 1 b bs.length (cellsOf bs) ∧ Below W1.drew.heap.size W1.drew wx)
  case first =>
    go_region_with (first
      | (go_at_call 62; (with_reducible refine HSZ.out.mono ?_); rintro e w' ⟨rfl, rfl⟩)
      | (go_at_call 63; (with_reducible refine HBU.out.mono ?_); rintro e w2 ⟨b, rfl, hb2, hbel⟩; have HB2 := Lib.hid hb2; have HBL := Lib.hid hbel; clear hb2 hbel))
    all_goals (go_wp2_with fail)
    all_goals go_meet
    all_goals exact ⟨_, rfl, rfl, HB2.out, HBL.out⟩
  case rest =>
    obtain ⟨b, rfl, rfl, hob, hbel⟩ := hcut
    have HW2 := Lib.hid (HWR.out wc _ hbel (BytesAt.of_owns hob))
    have HN := Lib.hid ((HD1.out.on (Below.refl W1.heap.size W1).drew).on hbel)
    have HSB := Lib.hid (HSM.out.tr (HSN.out _ hbel))
    obtain ⟨ab, cb, rfl⟩ := owns_slice hob
    clear hob hbel c0 c1 c2 c3
    by_cases he : er = 0
    · subst he
      go_wp2_with (go_at_call 64; (with_reducible refine HW2.out.mono ?_); rintro e w3 ⟨rfl, hd3, hs3⟩; have HD3 := Lib.hid hd3; have HS3 := Lib.hid (HSB.out.tr hs3); clear hd3 hs3)
      go_ret
      exact ⟨.inl ⟨rfl, rfl, HD3.out⟩, HS3.out⟩
    · have hne : (er != 0) = true := by simpa using he
      have HE := Lib.hid he
      clear he
      go_wp2
      go_ret
      exact ⟨.inr ⟨HE.out, rfl, HN.out⟩, HSB.out⟩
end Go.Proofs.Ytfdipeaddofjaaa

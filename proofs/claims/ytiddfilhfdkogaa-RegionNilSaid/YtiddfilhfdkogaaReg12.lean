/-
  region: stored, loadOf.
  Conditions: none.
-/
import Derived.Test.YtiddfilhfdkogaaReg3
import Derived.Test.YtiddfilhfdkogaaLeafDev
import Derived.Deep.DeepCutAuto
import Derived.Deep.RegionHeld3
namespace Go.Proofs.Ytiddfilhfdkogaa
open Go.RowKit

theorem BytesAt.off8 {n₀ P : Nat} {w w' : World} {u : Value} {bs : List (BitVec 8)} {cs : Array Value} {t : TypeId} (h : BytesAt n₀ w u bs) (hcs : ∀ (j : Nat) (v : Value), cs[j]? = some v → ∀ y : Int, v ≠ .int .u8 y) (hP : w.heap[P]? = some (.cells cs t (0, 0))) (hk : ∀ g, g ≠ P → w'.heap[g]? = w.heap[g]?) : BytesAt n₀ w' u bs := by
  obtain ⟨a', cap, rfl, hl, h0, h⟩ := h
  refine ⟨a', cap, rfl, hl, h0, ?_⟩
  rcases h with h | ⟨g, off, rfl, hg, hc⟩
  · exact .inl h
  · refine .inr ⟨g, off, rfl, hg, fun j hj => ?_⟩
    have hne : g ≠ P := by
      rintro rfl
      have h1 := hc j hj
      rw [blk_cell hP] at h1
      exact hcs _ _ h1 _ rfl
    exact (World.cell?_of_block (hk g hne)).trans (hc j hj)
theorem leaf_no8 (j : Nat) (v : Value) (h : (#[.int .i64 0, .int .i64 0, .int .i64 0, .slice none 0 0] : Array Value)[j]? = some v) (y : Int) : v ≠ .int .u8 y := by
  match j, h with
  | 0, h => simp at h; subst h; simp
  | 1, h => simp at h; subst h; simp
  | 2, h => simp at h; subst h; simp
  | 3, h => simp at h; subst h; simp
  | j + 4, h => simp at h
theorem build_len {size k p s : Int} {n : Nat} (h : buildErr size k p s n = 0) : (n : Int) ≤ size - 19 := by
  unfold buildErr at h
  split at h
  · split at h
    · split at h
      · cases h
      · omega
    · cases h
  · cases h
theorem got_len {w W : World} {D : Nat} {d : Dev} (h : DevHere w D d W) (at_ k p : Int) : ((gotL d at_ k p).load.length : Int) ≤ d.size - 19 := by
  have hs := h.right.2
  unfold gotL
  split
  · next hg =>
    unfold gotErr at hg
    split at hg
    · split at hg
      · next hr =>
        have hr1 := hr.1
        have hcl : (d.cur at_.toNat).length = d.size := by
          obtain ⟨O, h, _⟩ := h
          exact cur_len h.flen (fun x hx => (h.llen x hx).2) _
        generalize d.cur at_.toNat = bs at *
        unfold readL
        rw [if_pos hr1]
        unfold readErr at hr1
        split at hr1
        · split at hr1
          · next hb => have := build_len hb.1; rw [hcl] at this; exact this
          · cases hr1
        · cases hr1
      · cases hg
    · next ha => exact absurd hg ha
  · show ((([] : List (BitVec 8)).length : Nat) : Int) ≤ d.size - 19
    simp only [List.length_nil]
    omega
/-- What a sector that is written tells. -/
def LogS.storedE (x : LogS) (d : Dev) (q s : Nat) : Int :=
  if gotErr d ((x.first : Int) + (x.place q s : Int)) 3 (x.place q s : Int) = 5 ∨ (gotErr d ((x.first : Int) + (x.place q s : Int)) 3 (x.place q s : Int) = 0 ∧ (gotL d ((x.first : Int) + (x.place q s : Int)) 3 (x.place q s : Int)).stamp ≠ (q : Int)) then 13
  else gotErr d ((x.first : Int) + (x.place q s : Int)) 3 (x.place q s : Int)
def LogS.storedB (x : LogS) (d : Dev) (q s : Nat) : List (BitVec 8) :=
  if x.storedE d q s = 0 then fillTo x.room (gotL d ((x.first : Int) + (x.place q s : Int)) 3 (x.place q s : Int)).load else []
/-- Bytes and an error. -/
def BytesErr (bs : List (BitVec 8)) (er : Int) (W : World) (e : Ending) (W' : World) : Prop := ∃ v, e = .returned (.tuple #[v, .int .i64 er]) ∧ BytesAt W'.heap.size W' v bs ∧ Below W.heap.size W W'
section
variable {w W : World} {E : Foot} {R D : Nat} {x : LogS} {d : Dev}
set_option maxRecDepth 100000 in
set_option maxHeartbeats 4000000 in
theorem stored_any (h : LogApart w E R D x d W) (hon : x.On d) (q s : Nat) (p n : Int) (hs : s ≤ x.sectors) : Calls Try.prog 41 #[.pointer (some ⟨R, 0, none⟩), .agg #[.int .i64 q, .int .i64 p, .int .i64 n, .int .i64 s]] W (BytesErr (x.storedB d q s) (x.storedE d q s) W) := by
  obtain ⟨rv, hL, hda, _⟩ := id h
  have hbx : Below W.heap.size W (W.alloc (.cells #[.int .i64 q, .int .i64 p, .int .i64 n, .int .i64 s] 88)) := (Below.refl _ W).alloc (Nat.le_refl _) _
  have hbk : (W.alloc (.cells #[.int .i64 q, .int .i64 p, .int .i64 n, .int .i64 s] 88)).heap[W.heap.size]? = some (.cells #[.int .i64 q, .int .i64 p, .int .i64 n, .int .i64 s] 88 (0, 0)) := heap_alloc_new _ _
  obtain ⟨W1, hW1⟩ : ∃ W1, W.alloc (.cells #[.int .i64 q, .int .i64 p, .int .i64 n, .int .i64 s] 88) = W1 := ⟨_, rfl⟩
  rw [hW1] at hbx hbk
  have HPL := Lib.hid (place_any (hL.below hbx) q s p n hs)
  have l0 : W1.cell? ⟨W.heap.size, 0, none⟩ = some (.int .i64 q) := blk_cell hbk 0
  have l1 : W1.cell? ⟨W.heap.size, 1, none⟩ = some (.int .i64 p) := blk_cell hbk 1
  have l2 : W1.cell? ⟨W.heap.size, 2, none⟩ = some (.int .i64 n) := blk_cell hbk 2
  have l3 : W1.cell? ⟨W.heap.size, 3, none⟩ = some (.int .i64 s) := blk_cell hbk 3
  have hpl := (hL.ok.place_le q hs).2
  have hfi := hL.ok.tot
  have hdh := hda.here
  have HGL : Hid (((gotL d ((x.first : Int) + (x.place q s : Int)) 3 (x.place q s : Int)).load.length : Int) ≤ x.room) := by
    have := got_len hdh ((x.first : Int) + (x.place q s : Int)) 3 (x.place q s : Int)
    have h2 := hon.size
    unfold Hid
    omega
  have HE : Hid (x.storedE d q s = if gotErr d ((x.first : Int) + (x.place q s : Int)) 3 (x.place q s : Int) = 5 ∨ (gotErr d ((x.first : Int) + (x.place q s : Int)) 3 (x.place q s : Int) = 0 ∧ (gotL d ((x.first : Int) + (x.place q s : Int)) 3 (x.place q s : Int)).stamp ≠ (q : Int)) then 13
    else gotErr d ((x.first : Int) + (x.place q s : Int)) 3 (x.place q s : Int)) := rfl
  have HBB : Hid (x.storedB d q s = if x.storedE d q s = 0 then fillTo x.room (gotL d ((x.first : Int) + (x.place q s : Int)) 3 (x.place q s : Int)).load else []) := rfl
  have HG := Lib.hid (fun (V : World) (hb : Below W.heap.size W V) => (show Calls Try.prog 57 #[.pointer (some ⟨D, 0, none⟩), .int .i64 ((x.first : Int) + (x.place q s : Int)), .int .i64 3, .int .i64 (x.place q s : Int)] V (fun e W' => ∃ u, e = .returned (.tuple #[.agg #[.int .i64 (gotL d ((x.first : Int) + (x.place q s : Int)) 3 (x.place q s : Int)).kind, .int .i64 (gotL d ((x.first : Int) + (x.place q s : Int)) 3 (x.place q s : Int)).place, .int .i64 (gotL d ((x.first : Int) + (x.place q s : Int)) 3 (x.place q s : Int)).stamp, u], .int .i64 (gotErr d ((x.first : Int) + (x.place q s : Int)) 3 (x.place q s : Int))]) ∧ BytesAt W'.heap.size W' u (gotL d ((x.first : Int) + (x.place q s : Int)) 3 (x.place q s : Int)).load ∧ Below V.heap.size V W') from (get_here (hdh.on hb) ((x.first : Int) + (x.place q s : Int)) 3 (x.place q s : Int)).mono fun _ _ h => h.2))
  have HL := Lib.hid hL
  have HBX := Lib.hid hbx
  have HBK := Lib.hid hbk
  have HW1 := Lib.hid hW1
  have P1 : (x.place q s : Int) ≤ 16384 := by omega
  have F1 : (x.first : Int) ≤ 16384 := by omega
  generalize x.storedE d q s = er at HE HBB ⊢
  generalize x.storedB d q s = bs at HBB ⊢
  generalize x.place q s = P at *
  generalize gotL d ((x.first : Int) + (P : Int)) 3 (P : Int) = y at *
  generalize gotErr d ((x.first : Int) + (P : Int)) 3 (P : Int) = ge at *
  have hwr : IntKind.i64.wrap ((x.first : Int) + (P : Int)) = (x.first : Int) + (P : Int) := IntWalk.i64_in _ ⟨by omega, by omega⟩
  obtain ⟨A, hA⟩ : ∃ A : Int, A = (x.first : Int) + (P : Int) := ⟨_, rfl⟩
  rw [← hA] at HG
  have hwr2 : IntKind.i64.wrap ((x.first : Int) + (P : Int)) = A := by rw [hwr, hA]
  clear hwr hA
  clear h hda hL hon hs hbx hbk hW1 hpl hfi hdh
  go_enter Try.func41, Try.ntmps41
  go_upto_region 1 with (fail)
  change (Code.region _ _ _).wp _ _ _ (W.alloc (.cells #[.int .i64 q, .int .i64 p, .int .i64 n, .int .i64 s] 88))
  rw [HW1.out]
  clear HW1
  go_upto_region 2 with (go_at_call 54; (with_reducible refine HPL.out.mono ?_); rintro e w2 ⟨rfl, hb2⟩; have HB2 := Lib.hid (HBX.out.trans (hb2.mono HBX.out.size)); have HK2 := Lib.hid ((hb2.block _ (blk_lt HBK.out)).trans HBK.out); clear hb2 HPL)
  have c0 : w2.cell? ⟨R, 0, none⟩ = some (.pointer (some ⟨D, 0, none⟩)) := (HL.out.below HB2.out).cells.1
  have c1 : w2.cell? ⟨R, 1, none⟩ = some (.int .i64 x.first) := (HL.out.below HB2.out).cells.2.1
  obtain ⟨yk, yp, ys, yl⟩ := y
  have HY : Hid (yl.length ≤ x.room) := by have := HGL.out; unfold Hid; simp only at this; omega
  simp only at HG HE HBB
  have HS9 : Hid (∀ V, Below w2.heap.size w2 V → (Below w2.heap.size w2 V ∧ V.cell? ⟨R, 0, none⟩ = some (.pointer (some ⟨D, 0, none⟩)) ∧ V.cell? ⟨R, 1, none⟩ = some (.int .i64 x.first))) := fun V hb =>
    ⟨hb, (hb.cell (p := ⟨R, 0, none⟩) (World.block_lt_of_cell? _ _ c0)).trans c0, (hb.cell (p := ⟨R, 1, none⟩) (World.block_lt_of_cell? _ _ c1)).trans c1⟩
  have HG9 : Hid (∀ V, (Below w2.heap.size w2 V ∧ V.cell? ⟨R, 0, none⟩ = some (.pointer (some ⟨D, 0, none⟩)) ∧ V.cell? ⟨R, 1, none⟩ = some (.int .i64 x.first)) → Calls Try.prog 57 #[.pointer (some ⟨D, 0, none⟩), .int .i64 A, .int .i64 3, .int .i64 P] V fun e w3 => ∃ a3 cc3, e = .returned (.tuple #[.agg #[.int .i64 yk, .int .i64 yp, .int .i64 ys, .slice a3 yl.length cc3], .int .i64 ge]) ∧ (Below w2.heap.size w2 w3 ∧ w3.cell? ⟨R, 0, none⟩ = some (.pointer (some ⟨D, 0, none⟩)) ∧ w3.cell? ⟨R, 1, none⟩ = some (.int .i64 x.first)) ∧ Below V.heap.size V w3 ∧ BytesAt w3.heap.size w3 (.slice a3 yl.length cc3) yl) := fun V hV =>
    (HG.out _ (HB2.out.trans (hV.1.mono HB2.out.size))).mono fun e w3 ⟨u, h1, h2, h3⟩ => by
      obtain ⟨a3, cc3, rfl, _⟩ := id h2
      exact ⟨a3, cc3, h1, HS9.out _ (hV.1.trans (h3.mono hV.1.size)), h3, h2⟩
  clear HG
  go_cut [7, 8] (fun s7 s8 wx => ∃ L a3 cc3 wy, wy = wx ∧ s7 = .pointer (some ⟨L, 0, none⟩) ∧ s8 = .int .i64 ge ∧ wy.heap[L]? = some (.cells #[.int .i64 yk, .int .i64 yp, .int .i64 ys, .slice a3 yl.length cc3] 104 (0, 0)) ∧ BytesAt wy.heap.size wy (.slice a3 yl.length cc3) yl ∧ Below w2.heap.size w2 wy)
  case first =>
    have ST1 : Hid (∀ V : World, ((V.alloc (.cells #[.int .i64 0, .int .i64 0, .int .i64 0, .slice none 0 0] 104)).cell? ⟨V.heap.size, 0, none⟩ = some (.int .i64 0) ∧ (V.alloc (.cells #[.int .i64 0, .int .i64 0, .int .i64 0, .slice none 0 0] 104)).cell? ⟨V.heap.size, 1, none⟩ = some (.int .i64 0) ∧ (V.alloc (.cells #[.int .i64 0, .int .i64 0, .int .i64 0, .slice none 0 0] 104)).cell? ⟨V.heap.size, 2, none⟩ = some (.int .i64 0) ∧ (V.alloc (.cells #[.int .i64 0, .int .i64 0, .int .i64 0, .slice none 0 0] 104)).cell? ⟨V.heap.size, 3, none⟩ = some (.slice none 0 0) ∧ (V.alloc (.cells #[.int .i64 0, .int .i64 0, .int .i64 0, .slice none 0 0] 104)).frozen? ⟨V.heap.size, 0, none⟩ = false ∧ (V.alloc (.cells #[.int .i64 0, .int .i64 0, .int .i64 0, .slice none 0 0] 104)).frozen? ⟨V.heap.size, 1, none⟩ = false ∧ (V.alloc (.cells #[.int .i64 0, .int .i64 0, .int .i64 0, .slice none 0 0] 104)).frozen? ⟨V.heap.size, 2, none⟩ = false ∧ (V.alloc (.cells #[.int .i64 0, .int .i64 0, .int .i64 0, .slice none 0 0] 104)).frozen? ⟨V.heap.size, 3, none⟩ = false)) := fun V => by
      have h := heap_alloc_new V (.cells #[.int .i64 0, .int .i64 0, .int .i64 0, .slice none 0 0] 104)
      exact ⟨blk_cell h 0, blk_cell h 1, blk_cell h 2, blk_cell h 3, blk_frozen h 0, blk_frozen h 1, blk_frozen h 2, blk_frozen h 3⟩
    have ST2 : Hid (∀ V : World, Below (w2.drew.alloc (.cells #[.int .i64 0, .int .i64 0, .int .i64 0, .slice none 0 0] 104)).heap.size (w2.drew.alloc (.cells #[.int .i64 0, .int .i64 0, .int .i64 0, .slice none 0 0] 104)) V → (V.cell? ⟨w2.heap.size, 0, none⟩ = some (.int .i64 0) ∧ V.cell? ⟨w2.heap.size, 1, none⟩ = some (.int .i64 0) ∧ V.cell? ⟨w2.heap.size, 2, none⟩ = some (.int .i64 0) ∧ V.cell? ⟨w2.heap.size, 3, none⟩ = some (.slice none 0 0) ∧ V.frozen? ⟨w2.heap.size, 0, none⟩ = false ∧ V.frozen? ⟨w2.heap.size, 1, none⟩ = false ∧ V.frozen? ⟨w2.heap.size, 2, none⟩ = false ∧ V.frozen? ⟨w2.heap.size, 3, none⟩ = false)) := fun V hb => by
      have h : V.heap[w2.heap.size]? = some (.cells #[.int .i64 0, .int .i64 0, .int .i64 0, .slice none 0 0] 104 (0, 0)) := (hb.block _ (by simp)).trans (heap_alloc_new w2.drew (.cells #[.int .i64 0, .int .i64 0, .int .i64 0, .slice none 0 0] 104))
      exact ⟨blk_cell h 0, blk_cell h 1, blk_cell h 2, blk_cell h 3, blk_frozen h 0, blk_frozen h 1, blk_frozen h 2, blk_frozen h 3⟩
    have KS : Hid (∀ (V : World) (g : Nat) (a b c z : Value), (Below w2.heap.size w2 V ∧ V.cell? ⟨R, 0, none⟩ = some (.pointer (some ⟨D, 0, none⟩)) ∧ V.cell? ⟨R, 1, none⟩ = some (.int .i64 x.first)) → w2.heap.size ≤ g → (fun V => (Below w2.heap.size w2 V ∧ V.cell? ⟨R, 0, none⟩ = some (.pointer (some ⟨D, 0, none⟩)) ∧ V.cell? ⟨R, 1, none⟩ = some (.int .i64 x.first))) ((((V.setCell ⟨g, 0, none⟩ a).setCell ⟨g, 1, none⟩ b).setCell ⟨g, 2, none⟩ c).setCell ⟨g, 3, none⟩ z)) := fun V g a b c z hV hg =>
      HS9.out _ ((((hV.1.setCell (p := ⟨g, 0, none⟩) hg a).setCell (p := ⟨g, 1, none⟩) hg b).setCell (p := ⟨g, 2, none⟩) hg c).setCell (p := ⟨g, 3, none⟩) hg z)
    go_region_held3 (fun V => Below w2.heap.size w2 V ∧ V.cell? ⟨R, 0, none⟩ = some (.pointer (some ⟨D, 0, none⟩)) ∧ V.cell? ⟨R, 1, none⟩ = some (.int .i64 x.first)) (first | assumption | exact HS9.out _ ((Below.refl _ _).drew) | (refine HS9.out _ (Below.alloc (And.left (by assumption)) (Below.size (And.left (by assumption))) _)) | exact KS.out _ _ _ _ _ _ (by assumption) hge | exact KS.out _ _ _ _ _ _ (by assumption) (Nat.le_refl _)) ((go_at_call 57; (with_reducible refine (HG9.out _ (by assumption)).mono ?_); rintro e w8 ⟨a8, cc8, rfl, hs8, hb8, hu8⟩; have HU8 := Lib.hid hu8; clear hu8; have hge : w2.heap.size ≤ w8.heap.size := hs8.1.size; obtain ⟨t0, t1, t2, t3, t4, t5, t6, t7⟩ := ST1.out w8; (try (have zz := ST2.out w8 hb8; obtain ⟨z0, z1, z2, z3, z4, z5, z6, z7⟩ := zz))))
    all_goals (go_wp2_with fail)
    all_goals go_meet
    · exact ⟨w8.heap.size, a8, cc8, _, rfl, rfl, rfl, heap_alloc_new _ _, (HU8.out.below ((Below.refl w8.heap.size w8).alloc (Nat.le_refl _) _)).mono (by simp), hs8.1.alloc hge _⟩
    · have hzz : w8.heap[w2.heap.size]? = some (.cells #[.int .i64 0, .int .i64 0, .int .i64 0, .slice none 0 0] 104 (0, 0)) := (hb8.block _ (by simp)).trans (heap_alloc_new w2.drew (.cells #[.int .i64 0, .int .i64 0, .int .i64 0, .slice none 0 0] 104))
      have h3 := blk_set (blk_set (blk_set (blk_set hzz 0 (.int .i64 yk)) 1 (.int .i64 yp)) 2 (.int .i64 ys)) 3 (.slice a8 yl.length cc8)
      refine ⟨w2.heap.size, a8, cc8, _, rfl, rfl, rfl, ?_, ?_, (((hs8.1.setCell (p := ⟨w2.heap.size, 0, none⟩) (Nat.le_refl _) _).setCell (p := ⟨w2.heap.size, 1, none⟩) (Nat.le_refl _) _).setCell (p := ⟨w2.heap.size, 2, none⟩) (Nat.le_refl _) _).setCell (p := ⟨w2.heap.size, 3, none⟩) (Nat.le_refl _) _⟩
      · rw [h3]
        rfl
      · have hb := HU8.out.off8 leaf_no8 hzz (w' := (((w8.setCell ⟨w2.heap.size, 0, none⟩ (.int .i64 yk)).setCell ⟨w2.heap.size, 1, none⟩ (.int .i64 yp)).setCell ⟨w2.heap.size, 2, none⟩ (.int .i64 ys)).setCell ⟨w2.heap.size, 3, none⟩ (.slice a8 yl.length cc8)) (fun g hg => (Below.heap_setCell _ _ _ _ hg).trans ((Below.heap_setCell _ _ _ _ hg).trans ((Below.heap_setCell _ _ _ _ hg).trans (Below.heap_setCell _ _ _ _ hg))))
        exact hb.mono (by simp [World.setCell])
  case rest =>
    obtain ⟨L, a3, cc3, wy, rfl, rfl, rfl, hLb, hu, hb⟩ := hcut
    have hby : Below W.heap.size W wy := HB2.out.trans (hb.mono HB2.out.size)
    have HBY := Lib.hid hby
    have HU := Lib.hid hu
    have k2 : wy.cell? ⟨L, 2, none⟩ = some (.int .i64 ys) := blk_cell hLb 2
    have k3 : wy.cell? ⟨L, 3, none⟩ = some (.slice a3 yl.length cc3) := blk_cell hLb 3
    have k0 : wy.cell? ⟨W.heap.size, 0, none⟩ = some (.int .i64 q) := blk_cell ((hb.block _ (blk_lt HK2.out)).trans HK2.out) 0
    have HFI := Lib.hid (filled_any (HL.out.below hby) (.slice a3 yl.length cc3) yl hu HY.out)
    have hE := HE.out
    have hBB := HBB.out
    clear hby hu hb hLb c0 c1 HS9 HG9 HE HBB
    by_cases h5 : ge = 5
    · subst h5
      rw [if_pos (.inl rfl)] at hE
      subst hE
      rw [if_neg (by decide)] at hBB
      subst hBB
      clear HFI k2 k3
      go_wp2
      go_ret2
      exact ⟨_, rfl, BytesAt.nil _ _, HBY.out⟩
    by_cases h0 : ge = 0
    · subst h0
      by_cases hq : ys = (q : Int)
      · rw [if_neg (by rintro (h | ⟨_, h⟩); exact absurd h (by decide); exact h hq)] at hE
        subst hE
        rw [if_pos rfl] at hBB
        subst hBB hq
        clear h5
        go_wp2_with (go_at_call 55; (with_reducible refine HFI.out.mono ?_); rintro e w9 ⟨g9, c9, rfl, hr9, hb9⟩; have HR9 := Lib.hid hr9; have HB9 := Lib.hid hb9; clear hr9 hb9)
        go_ret2
        exact ⟨_, rfl, BytesAt.of_owns (base := wy.heap.size) (bs := fillTo x.room yl) (by rw [fillTo_len HY.out]; exact HR9.out), HBY.out.trans (HB9.out.mono HBY.out.size)⟩
      · rw [if_pos (.inr ⟨rfl, hq⟩)] at hE
        subst hE
        rw [if_neg (by decide)] at hBB
        subst hBB
        clear HFI k3 h5
        go_wp2
        go_ret2
        exact ⟨_, rfl, BytesAt.nil _ _, HBY.out⟩
    · rw [if_neg (by rintro (h | ⟨h, _⟩); exact h5 h; exact h0 h)] at hE
      subst hE
      rw [if_neg h0] at hBB
      subst hBB
      clear HFI k2 k3
      go_wp2
      go_ret2
      exact ⟨_, rfl, BytesAt.nil _ _, HBY.out⟩
end
end Go.Proofs.Ytiddfilhfdkogaa

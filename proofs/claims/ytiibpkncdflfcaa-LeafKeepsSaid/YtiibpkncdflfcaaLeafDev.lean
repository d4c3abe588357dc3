/-
  leaf.Put, Get on a device.
  Conditions: none.
-/
import Derived.Test.YtiibpkncdflfcaaJL2
import Derived.Deep.RegionWith
import Derived.Test.YtiibpkncdflfcaaJF2
namespace Go.Proofs.Ytiibpkncdflfcaa
open Go.RowKit

/-- What Put leaves. -/
def PutAt (w : World) (D : Nat) (d : Dev) (at_ : Int) (bs : List (BitVec 8)) (er : Int) (e : Ending) (W' : World) : Prop :=
  (er = 0 ∧ Did w D (d.write at_ bs) (.int .i64 (writeErr d at_ bs.length)) e W') ∨ (er ≠ 0 ∧ e = .returned (.int .i64 er) ∧ DevHere w D d W')

set_option maxRecDepth 100000 in
set_option maxHeartbeats 2000000 in
theorem put_here {w W : World} {D : Nat} {d : Dev} (h : DevHere w D d W) (at_ : Int) (x : LeafP) (u : Value) (hu : BytesAt W.heap.size W u x.load) (hst : x.stamp ≤ 9223372036854775807) {k : Nat} (hs : d.Small k) (hk : k ≤ 65536) :
    Calls Try.prog 7 #[.pointer (some ⟨D, 0, none⟩), .int .i64 at_, .agg (x.cells u)] W (PutAt w D d at_ (buildB d.size x.kind x.place x.stamp x.load) (buildErr d.size x.kind x.place x.stamp x.load.length)) := by
  have hX : (W.alloc (.cells (x.cells u) 39)).heap[W.heap.size]? = some (.cells (x.cells u) 39 (0, 0)) := heap_alloc_new _ _
  have hB : Below W.heap.size W (W.alloc (.cells (x.cells u) 39)) := (Below.refl _ _).alloc (Nat.le_refl _) _
  obtain ⟨a, c, rfl, _⟩ := id hu
  obtain ⟨W1, hW1⟩ : ∃ W1, W.alloc (.cells (x.cells (.slice a x.load.length c)) 39) = W1 := ⟨_, rfl⟩
  rw [hW1] at hX hB
  have hd1 := h.on hB
  have HD1 := Lib.hid hd1
  have hu1 : BytesAt W1.drew.heap.size W1.drew (.slice a x.load.length c) x.load := (hu.below hB).mono hB.size
  have HSZ := Lib.hid (here_size hd1.drew)
  obtain ⟨S, hS⟩ : ∃ S : Nat, d.size = S := ⟨_, rfl⟩
  rw [hS] at HSZ ⊢
  have HBU := Lib.hid (show Calls Try.prog 22 #[.int .i64 S, .agg #[.int .i64 x.kind, .int .i64 x.place, .int .i64 x.stamp, .slice a x.load.length c]] W1.drew (Built (buildB S x.kind x.place x.stamp x.load) (buildErr S x.kind x.place x.stamp x.load.length) W1.drew) from build_any S x.kind x.place x.stamp _ x.load W1.drew hu1 hst)
  obtain ⟨bs, hbs⟩ : ∃ bs, buildB S x.kind x.place x.stamp x.load = bs := ⟨_, rfl⟩
  obtain ⟨er, her⟩ : ∃ er, buildErr S x.kind x.place x.stamp x.load.length = er := ⟨_, rfl⟩
  rw [hbs, her] at HBU
  rw [hbs, her]
  obtain ⟨c0, c1, c2, c3⟩ : W1.drew.cell? ⟨W.heap.size, 0, none⟩ = some (.int .i64 x.kind) ∧ W1.drew.cell? ⟨W.heap.size, 1, none⟩ = some (.int .i64 x.place) ∧ W1.drew.cell? ⟨W.heap.size, 2, none⟩ = some (.int .i64 x.stamp) ∧ W1.drew.cell? ⟨W.heap.size, 3, none⟩ = some (.slice a x.load.length c) := leaf_cells (v1 := .int .i64 x.kind) hX ((Below.refl _ W1).drew)
  have HWR := Lib.hid (fun W' (b : Value) (hb : Below W1.drew.heap.size W1.drew W') (ho : BytesAt W'.heap.size W' b bs) => here_write (hd1.drew.on hb) at_ ho hs hk)
  clear hbs her hS hu hu1 hX hB hst hd1 h hs hk
  change Calls _ _ #[_, _, .agg #[.int .i64 x.kind, .int .i64 x.place, .int .i64 x.stamp, .slice a x.load.length c]] _ _
  go_enter Try.func7, Try.ntmps7
  go_upto_region 3 with (fail)
  change (Code.region _ _ _).wp _ _ _ (W.alloc (.cells (x.cells (.slice a x.load.length c)) 39))
  rw [hW1]
  go_cut [7, 8] (fun s7 s8 wx => ∃ b, s7 = b ∧ s8 = .int .i64 er ∧ wx.ownsRow W1.drew.heap.size 5 1 b bs.length (cellsOf bs) ∧ Below W1.drew.heap.size W1.drew wx)
  case first =>
    go_region_with (first
      | (go_at_call 23; (with_reducible refine HSZ.out.mono ?_); rintro e w' ⟨rfl, rfl⟩)
      | (go_at_call 22; (with_reducible refine HBU.out.mono ?_); rintro e w2 ⟨b, rfl, hb2, hbel⟩; have HB2 := Lib.hid hb2; have HBL := Lib.hid hbel; clear hb2 hbel))
    all_goals (go_wp2_with fail)
    all_goals go_meet
    all_goals exact ⟨_, rfl, rfl, HB2.out, HBL.out⟩
  case rest =>
    obtain ⟨b, rfl, rfl, hob, hbel⟩ := hcut
    have HW2 := Lib.hid (HWR.out wc _ hbel (BytesAt.of_owns hob))
    have HN := Lib.hid (HD1.out.drew.on hbel)
    obtain ⟨ab, cb, rfl⟩ := owns_slice hob
    clear hob hbel c0 c1 c2 c3
    by_cases he : er = 0
    · subst he
      go_wp2_with (go_at_call 5; (with_reducible refine HW2.out.mono ?_); rintro e w3 ⟨rfl, hd3⟩; have HD3 := Lib.hid hd3; clear hd3)
      go_ret
      exact .inl ⟨rfl, rfl, HD3.out⟩
    · have hne : (er != 0) = true := by simpa using he
      have HE := Lib.hid he
      clear he
      go_wp2
      go_ret
      exact .inr ⟨HE.out, rfl, HN.out⟩
theorem get_resD (w : World) (z : Nat) (x : LeafP) (u : Value) (n : Int) (a : Act) (h : w.heap[z]? = some (.cells (x.cells u) 39 (0, 0))) (h2 : a.tmps.getD 8 undef = .pointer (some ⟨z, 0, none⟩)) (h3 : a.tmps.getD 9 undef = .int .i64 n) :
    (results Try.f12 a.tmps).run Try.prog w = .ok (.tuple #[.agg (x.cells u), .int .i64 n]) w := by
  have h2' : a.tmps[8]?.getD undef = .pointer (some ⟨z, 0, none⟩) := by simpa using h2
  have h3' : a.tmps[9]?.getD undef = .int .i64 n := by simpa using h3
  simp [results, Try.results12, h2', h3', asAddr, run_loadVar_row w z 39 39 (x.cells u) (0, 0) _ h Try.underlying39 rfl (leaf_sz x u)]
/-- What Get answers. -/
def gotErr (d : Dev) (at_ k p : Int) : Int := if askErr d.sectors d.down at_ = 0 then (if readErr (d.cur at_.toNat) = 0 ∧ (readL (d.cur at_.toNat)).kind = k ∧ (readL (d.cur at_.toNat)).place = p then 0 else 5) else askErr d.sectors d.down at_
def gotL (d : Dev) (at_ k p : Int) : LeafP := if gotErr d at_ k p = 0 then readL (d.cur at_.toNat) else LeafP.zero
/-- What Get leaves. -/
def GetAt (w : World) (D : Nat) (d : Dev) (x : LeafP) (er : Int) (W : World) (e : Ending) (W' : World) : Prop := DevHere w D d W' ∧ LeafRet2 x er W e W'

set_option maxRecDepth 100000 in
set_option maxHeartbeats 6000000 in
theorem get_here {w W : World} {D : Nat} {d : Dev} (h : DevHere w D d W) (at_ k p : Int) :
    Calls Try.prog 12 #[.pointer (some ⟨D, 0, none⟩), .int .i64 at_, .int .i64 k, .int .i64 p] W (GetAt w D d (gotL d at_ k p) (gotErr d at_ k p) W) := by
  have hZ : (W.alloc (.cells (LeafP.zero.cells (.slice none 0 0)) 39)).heap[W.heap.size]? = some (.cells (LeafP.zero.cells (.slice none 0 0)) 39 (0, 0)) := heap_alloc_new _ _
  have hB0 : Below W.heap.size W (W.alloc (.cells (LeafP.zero.cells (.slice none 0 0)) 39)) := (Below.refl _ _).alloc (Nat.le_refl _) _
  have hZ0 := hB0.size
  have HZ := Lib.hid hZ
  have HB0 := Lib.hid hB0
  have HH := Lib.hid h
  have HEQ : Hid (gotErr d at_ k p = if askErr d.sectors d.down at_ = 0 then (if readErr (d.cur at_.toNat) = 0 ∧ (readL (d.cur at_.toNat)).kind = k ∧ (readL (d.cur at_.toNat)).place = p then 0 else 5) else askErr d.sectors d.down at_) := rfl
  have HLQ : Hid (gotL d at_ k p = if gotErr d at_ k p = 0 then readL (d.cur at_.toNat) else LeafP.zero) := rfl
  have HSS := Lib.hid h.right.2
  have HRD := Lib.hid (fun W1 (hb : Below W.heap.size W W1) => here_read (h.on hb) at_)
  have HEND : Hid (∀ er W1, gotErr d at_ k p = er → er ≠ 0 → Below W.heap.size W W1 → W1.heap[W.heap.size]? = some (.cells (LeafP.zero.cells (.slice none 0 0)) 39 (0, 0)) → GetAt w D d (gotL d at_ k p) (gotErr d at_ k p) W (.returned (.tuple #[.agg (LeafP.zero.cells (.slice none 0 0)), .int .i64 er])) (W1.setRow W.heap.size (LeafP.zero.cells (.slice none 0 0)))) := fun er W1 h1 h2 h3 _ => by
    have hl : gotL d at_ k p = LeafP.zero := by rw [HLQ.out, h1, if_neg h2]
    rw [h1, hl]
    have hb := below_setRow (cs := LeafP.zero.cells (.slice none 0 0)) h3 (Nat.le_refl W.heap.size)
    exact ⟨HH.out.on hb, .slice none 0 0, rfl, BytesAt.nil _ _, hb⟩
  clear hZ hB0 hZ0 h
  go_enter Try.func12, Try.ntmps12
  go_upto_region 1 with (fail)
  change (Code.region _ _ _).wp _ _ _ (W.alloc (.cells (LeafP.zero.cells (.slice none 0 0)) 39))
  generalize W.alloc (.cells (LeafP.zero.cells (.slice none 0 0)) 39) = w0 at HZ HB0 ⊢
  have HR0 := Lib.hid (HRD.out _ HB0.out)
  by_cases ha : askErr d.sectors d.down at_ = 0
  · unfold GotAt at HR0
    have HR1 : Hid (Calls Try.prog 11 #[.pointer (some ⟨D, 0, none⟩), .int .i64 at_] w0 fun e W' => DevHere w D d W' ∧ Below w0.heap.size w0 W' ∧ ∃ v, e = .returned (.tuple #[v, .int .i64 0]) ∧ W'.ownsRow w0.heap.size 5 1 v d.size (cellsOf (d.cur at_.toNat)) ∧ (d.cur at_.toNat).length = d.size) := HR0.out.mono fun e W' ⟨h1, h2, v, h3, h4⟩ => ⟨h1, h2, v, by rw [← ha]; exact h3, by
      rcases h4 with h4 | h4
      · exact absurd ha h4.1
      · exact h4.2⟩
    obtain ⟨bs, hbs⟩ : ∃ bs, d.cur at_.toNat = bs := ⟨_, rfl⟩
    rw [hbs] at HR1 HEQ HLQ
    rw [if_pos ha] at HEQ
    have HRE := Lib.hid (fun u W (h : BytesAt W.heap.size W u bs) (hl : bs.length = d.size) => read_any u bs W h (by have := HSS.out; omega))
    obtain ⟨y, hy⟩ : ∃ y, readL bs = y := ⟨_, rfl⟩
    obtain ⟨er, her⟩ : ∃ er, readErr bs = er := ⟨_, rfl⟩
    simp only [hy, her] at HRE HEQ HLQ
    clear HR0 ha hbs hy her
    go_upto_region 5 with (first
      | (go_at_call 11; (with_reducible refine HR1.out.mono ?_); rintro e w1 ⟨hd1, hb1, v, rfl, hv, hvl⟩; have HB1 := Lib.hid hb1; have hv2 : w1.ownsRow w0.heap.size 5 1 v bs.length (cellsOf bs) := (by rw [hvl]; exact hv); have HRE1 := Lib.hid (HRE.out _ _ (BytesAt.of_owns hv2) hvl); obtain ⟨av, cv, rfl⟩ := owns_slice hv; have HZ1 := Lib.hid ((hb1.block _ (blk_lt HZ.out)).trans HZ.out); clear hd1 hb1 hv hvl hv2)
      | (go_at_call 29; (with_reducible refine HRE1.out.mono ?_); rintro e w2 ⟨u, rfl, hu, hb2⟩; obtain ⟨au, cu, rfl, _⟩ := id hu; have HU := Lib.hid hu; have HB2 := Lib.hid hb2; have HZ2 := Lib.hid ((hb2.block _ (blk_lt HZ1.out)).trans HZ1.out); clear hu hb2)
      | (refine wpList_store_row (o := ⟨none, _, _, _, _, _⟩) rfl 39 (.tmp 12) (.tmp 26) rfl w2.heap.size (y.cells (.slice au y.load.length cu)) rfl rfl 39 (LeafP.zero.cells (.slice none 0 0)) (heap_alloc_new _ _) (leaf_sz _ _) rfl ?_ ?_; exact leaf_one _))
    have hbw : Below w2.heap.size w2 ((w2.alloc (.cells (LeafP.zero.cells (.slice none 0 0)) 39)).setRow w2.heap.size (y.cells (.slice au y.load.length cu))) := below_setRow ((Below.refl _ _).alloc (Nat.le_refl _) _) (Nat.le_refl _) _
    have hP2 : ((w2.alloc (.cells (LeafP.zero.cells (.slice none 0 0)) 39)).setRow w2.heap.size (y.cells (.slice au y.load.length cu))).heap[w2.heap.size]? = some (.cells (y.cells (.slice au y.load.length cu)) 39 (0, 0)) := setRow_heap _ _ _ _ _ _ (heap_alloc_new _ _)
    change (Code.region _ _ _).wp _ _ _ ((w2.alloc (.cells (LeafP.zero.cells (.slice none 0 0)) 39)).setRow w2.heap.size (y.cells (.slice au y.load.length cu)))
    generalize (w2.alloc (.cells (LeafP.zero.cells (.slice none 0 0)) 39)).setRow w2.heap.size (y.cells (.slice au y.load.length cu)) = w3 at hbw hP2 ⊢
    have HP3 := Lib.hid hP2
    have HU3 := Lib.hid ((HU.out.below hbw).mono hbw.size)
    have HZ3 := Lib.hid ((hbw.block _ (blk_lt HZ2.out)).trans HZ2.out)
    have HB3 := Lib.hid (HB0.out.trans ((HB1.out.trans ((HB2.out.trans (hbw.mono HB2.out.size)).mono HB1.out.size)).mono HB0.out.size))
    obtain ⟨p0, p1, p2, p3⟩ : w3.cell? ⟨w2.heap.size, 0, none⟩ = some (.int .i64 y.kind) ∧ w3.cell? ⟨w2.heap.size, 1, none⟩ = some (.int .i64 y.place) ∧ w3.cell? ⟨w2.heap.size, 2, none⟩ = some (.int .i64 y.stamp) ∧ w3.cell? ⟨w2.heap.size, 3, none⟩ = some (.slice au y.load.length cu) := leaf_cells (v1 := .int .i64 y.kind) hP2 (Below.refl w3.heap.size w3)
    obtain ⟨P, hP⟩ : ∃ P, w2.heap.size = P := ⟨_, rfl⟩
    rw [hP] at HP3 p0 p1 p2 p3 ⊢
    clear hbw hP2 hP HU HB1 HB2 HZ HZ1 HZ2 HR1 HRE HRE1
    by_cases he : er = 0
    · subst he
      by_cases hk : y.kind = k
      · by_cases hp : y.place = p
        · have hg : gotErr d at_ k p = 0 := by rw [HEQ.out, if_pos ⟨rfl, hk, hp⟩]
          have HG : Hid (gotErr d at_ k p = 0 ∧ gotL d at_ k p = y) := ⟨hg, by rw [HLQ.out, hg, if_pos rfl]⟩
          have k1 : (y.kind != k) = false := by simpa using hk
          have k2 : (y.place != p) = false := by simpa using hp
          clear hg hk hp HEND HEQ HLQ
          go_wp2_with (first
            | (refine wpList_load_row (o := ⟨some 43, _, _, _, _, _⟩) rfl 39 (.tmp 12) rfl P rfl 39 (y.cells (.slice au y.load.length cu)) (0, 0) _ HP3.out Try.underlying39 rfl (leaf_sz _ _) ?_)
            | (refine wpList_store_row (o := ⟨none, _, _, _, _, _⟩) rfl 39 (.tmp 8) (.tmp 43) rfl W.heap.size (y.cells (.slice au y.load.length cu)) rfl rfl 39 (LeafP.zero.cells (.slice none 0 0)) HZ3.out (leaf_sz _ _) rfl ?_ ?_; exact leaf_one _))
          have hend : (w3.setRow W.heap.size (y.cells (.slice au y.load.length cu))).heap[W.heap.size]? = some (.cells (y.cells (.slice au y.load.length cu)) 39 (0, 0)) := setRow_heap _ _ _ _ _ _ HZ3.out
          refine bodyPost_ret (get_resD _ W.heap.size y _ 0 _ hend rfl rfl) rfl ?_
          rw [HG.out.1, HG.out.2]
          have hb := below_setRow (cs := y.cells (.slice au y.load.length cu)) HB3.out (Nat.le_refl W.heap.size)
          exact ⟨HH.out.on hb, _, rfl, (HU3.out.besideRow (leaf_none _ _ _ _) HZ3.out _).mono (by rw [setRow_size]; exact Nat.le_refl _), hb⟩
        · have HN := Lib.hid (HEND.out 5 w3 (by rw [HEQ.out, if_neg (fun h => hp h.2.2)]) (by decide) HB3.out HZ3.out)
          have k1 : (y.kind != k) = false := by simpa using hk
          have k2 : (y.place != p) = true := by simpa using hp
          clear hk hp HEND HEQ HLQ
          go_wp2_with (refine wpList_store_row (o := ⟨none, _, _, _, _, _⟩) rfl 39 (.tmp 8) (.tmp 42) rfl W.heap.size (LeafP.zero.cells (.slice none 0 0)) rfl rfl 39 (LeafP.zero.cells (.slice none 0 0)) HZ3.out (leaf_sz _ _) rfl ?_ ?_; exact leaf_one _)
          exact bodyPost_ret (get_resD _ W.heap.size LeafP.zero _ 5 _ (setRow_heap _ _ _ _ _ _ HZ3.out) rfl rfl) rfl HN.out
      · have HN := Lib.hid (HEND.out 5 w3 (by rw [HEQ.out, if_neg (fun h => hk h.2.1)]) (by decide) HB3.out HZ3.out)
        have k1 : (y.kind != k) = true := by simpa using hk
        clear hk HEND HEQ HLQ
        go_wp2_with (refine wpList_store_row (o := ⟨none, _, _, _, _, _⟩) rfl 39 (.tmp 8) (.tmp 42) rfl W.heap.size (LeafP.zero.cells (.slice none 0 0)) rfl rfl 39 (LeafP.zero.cells (.slice none 0 0)) HZ3.out (leaf_sz _ _) rfl ?_ ?_; exact leaf_one _)
        exact bodyPost_ret (get_resD _ W.heap.size LeafP.zero _ 5 _ (setRow_heap _ _ _ _ _ _ HZ3.out) rfl rfl) rfl HN.out
    · have HN := Lib.hid (HEND.out 5 w3 (by rw [HEQ.out, if_neg (fun h => he h.1)]) (by decide) HB3.out HZ3.out)
      have k1 : (er != 0) = true := by simpa using he
      clear he HEND HEQ HLQ
      go_wp2_with (refine wpList_store_row (o := ⟨none, _, _, _, _, _⟩) rfl 39 (.tmp 8) (.tmp 42) rfl W.heap.size (LeafP.zero.cells (.slice none 0 0)) rfl rfl 39 (LeafP.zero.cells (.slice none 0 0)) HZ3.out (leaf_sz _ _) rfl ?_ ?_; exact leaf_one _)
      exact bodyPost_ret (get_resD _ W.heap.size LeafP.zero _ 5 _ (setRow_heap _ _ _ _ _ _ HZ3.out) rfl rfl) rfl HN.out
  · unfold GotAt at HR0
    have HR1 : Hid (Calls Try.prog 11 #[.pointer (some ⟨D, 0, none⟩), .int .i64 at_] w0 fun e W' => Below w0.heap.size w0 W' ∧ e = .returned (.tuple #[.slice none 0 0, .int .i64 (askErr d.sectors d.down at_)])) := HR0.out.mono fun e W' ⟨h1, h2, v, h3, h4⟩ => ⟨h2, by
      rcases h4 with h4 | h4
      · rw [h3, h4.2]
      · exact absurd h4.1 ha⟩
    have hge : gotErr d at_ k p = askErr d.sectors d.down at_ := by rw [HEQ.out, if_neg ha]
    have HN2 := Lib.hid (fun W1 => HEND.out _ W1 hge ha)
    obtain ⟨er, her⟩ : ∃ er, askErr d.sectors d.down at_ = er := ⟨_, rfl⟩
    rw [her] at HR1 HN2 ha
    have k1 : (er != 0) = true := by simpa using ha
    clear HR0 her ha hge HEND HEQ HLQ
    go_wp2_with (first
      | (go_at_call 11; (with_reducible refine HR1.out.mono ?_); rintro e w1 ⟨hb1, rfl⟩; have HB1 := Lib.hid hb1; have HZ1 := Lib.hid ((hb1.block _ (blk_lt HZ.out)).trans HZ.out); clear hb1)
      | (refine wpList_store_row (o := ⟨none, _, _, _, _, _⟩) rfl 39 (.tmp 8) (.tmp 21) rfl W.heap.size (LeafP.zero.cells (.slice none 0 0)) rfl rfl 39 (LeafP.zero.cells (.slice none 0 0)) HZ1.out (leaf_sz _ _) rfl ?_ ?_; exact leaf_one _))
    exact bodyPost_ret (get_resD _ W.heap.size LeafP.zero _ er _ (setRow_heap _ _ _ _ _ _ HZ1.out) rfl rfl) rfl (HN2.out _ (HB0.out.trans (HB1.out.mono HB0.out.size)) HZ1.out)
end Go.Proofs.Ytiibpkncdflfcaa

/-
  Joined: Fp9, Fp10, Fp11, Fp12.
  Conditions: none.
-/
import Derived.Test.YtadglpnmhpmebaaFp8
import Derived.Deep.RegionHeld3
import Derived.Test.YtadglpnmhpmebaaJC
import Derived.StillTailTactics
import Derived.BigQuiet
namespace Go.Proofs.Ytadglpnmhpmebaa
open Go.RowKit

/-- The fast row lies in a block g of its own. -/
structure FU (w : World) (X Z g c m : Nat) (cs : Array Value) (f : Nat → List (BitVec 8)) (W : World) : Prop where
  pb : PB w X Z cs W
  gw : w.heap.size ≤ g
  mc : m ≤ c
  row : ∃ cur, W.heap[g]? = some (.cells cur 9 (0, 0)) ∧ ∀ i, i < m → cur[i]? = some (.string (strB (f i)))
section
variable {w W W' : World} {X Z g c m : Nat} {cs : Array Value} {f f' : Nat → List (BitVec 8)}
theorem FU.on (h : FU w X Z g c m cs f W) (hb : Below W.heap.size W W') : FU w X Z g c m cs f W' := by
  obtain ⟨cur, hc, hr⟩ := h.row
  exact ⟨h.pb.on hb, h.gw, h.mc, cur, (hb.block _ (blk_lt hc)).trans hc, hr⟩
theorem FU.cell (h : FU w X Z g c m cs f W) {k : Nat} (hk : k < m) : W.cell? ⟨g, k, none⟩ = some (.string (strB (f k))) := by
  obtain ⟨cur, hc, hr⟩ := h.row
  exact (blk_cell hc k).trans (hr k hk)
theorem FU.frozen (h : FU w X Z g c m cs f W) (k : Nat) : W.frozen? ⟨g, k, none⟩ = false := by
  obtain ⟨cur, hc, hr⟩ := h.row
  exact blk_frozen hc k
theorem FU.put (h : FU w X Z g c m cs f W) {k : Nat} (bs : List (BitVec 8)) (hf : ∀ j, f' j = if j = k then bs else f j) : FU w X Z g c m cs f' (W.setCell ⟨g, k, none⟩ (.string (strB bs))) := by
  obtain ⟨cur, hc, hr⟩ := h.row
  have hx := blk_ne h.pb.x hc (by decide)
  have hz := blk_ne h.pb.z hc (by decide)
  refine ⟨⟨h.pb.bel.setCell (p := ⟨g, k, none⟩) h.gw _, h.pb.xw, h.pb.zw, h.pb.ne, (set_other _ _ _ _ _ hx).trans h.pb.x, (set_other _ _ _ _ _ hz).trans h.pb.z⟩, h.gw, h.mc, cur.setIfInBounds k (.string (strB bs)), blk_set hc k _, fun i hi => ?_⟩
  have hsz : i < cur.size := (Array.getElem?_eq_some_iff.1 (hr i hi)).1
  rw [Array.getElem?_setIfInBounds, hf i]
  by_cases hik : k = i
  · subst hik
    rw [if_pos rfl, if_pos hsz, if_pos rfl]
  · rw [if_neg hik, if_neg (fun e => hik e.symm)]
    exact hr i hi
theorem FU.set (h : FU w X Z g c m cs f W) (i : Nat) (u : Value) : FU w X Z g c m (cs.setIfInBounds i u) f (W.setCell ⟨X, i, none⟩ u) := by
  obtain ⟨cur, hc, hr⟩ := h.row
  exact ⟨h.pb.set i u, h.gw, h.mc, cur, (set_other _ _ _ _ _ (blk_ne hc h.pb.x (by decide))).trans hc, hr⟩
theorem FU.rowF (h : FU w X Z g c m cs f W) (hm : 0 < m) : StrsF W.heap.size W (.slice (some ⟨g, 0, none⟩) m c) m f := by
  obtain ⟨cur, hc, hr⟩ := h.row
  exact .inr ⟨g, c, hm, rfl, h.mc, blk_lt hc, fun i hi => (blk_cell hc i).trans (hr i (by omega)), cur, _, hc⟩
theorem FU.made (h : PB w X Z cs W) {v : Value} (ho : W.ownsRow w.heap.size 9 1 v m ((List.range (m * 1)).map fun i => Value.string (strB (f i)))) (hm : 0 < m) : ∃ g c, v = .slice (some ⟨g, 0, none⟩) m c ∧ FU w X Z g c m cs f W := by
  obtain ⟨g, c, rfl⟩ := owns_some ho hm
  obtain ⟨cur, hcur, hge, hle, _⟩ := own_block ho
  refine ⟨g, c, rfl, h, hge, hle, cur, hcur, fun i hi => ?_⟩
  have h1 := ho.cells (g := g) rfl i (.string (strB (f i))) (by rw [List.getElem?_map, List.getElem?_range (by omega)]; rfl)
  rw [add_plain, Nat.zero_add, blk_cell hcur] at h1
  exact h1
theorem FU.ref {vF vL vP vL' : Value} {d d' : Dev} (h : FU w X Z g c m cs f W) (hR : RefAt w.heap.size w vF vL vP d) (hm : 0 < m) (h1 : d.sectors = m) (h2 : d'.sectors = m) (h3 : d'.fast = f) (hL : WrsF W.heap.size W vL' d'.loose) (hp : ∀ k, d'.pasts k = d.pasts k) : RefAt W.heap.size W (.slice (some ⟨g, 0, none⟩) m c) vL' vP d' := by
  have hpp : d'.pasts = d.pasts := funext hp
  refine ⟨?_, hL, ?_⟩
  · rw [h2, h3]
    exact h.rowF hm
  · rw [h2, hpp, ← h1]
    exact (hR.2.2.below h.pb.bel).mono h.pb.bel.size
end
theorem settle_pasts (d : Dev) (l : List (Nat × List (BitVec 8))) (k : Nat) : (d.settle l).pasts k = d.pasts k := by
  obtain ⟨_, _, h3, h4, _⟩ := settle_same d l
  unfold Dev.pasts
  rw [h3, h4]
set_option maxRecDepth 100000 in
set_option maxHeartbeats 8000000 in
theorem refSync_yes {vF vL vP : Value} {d : Dev} {w : World} (hR : RefAt w.heap.size w vF vL vP d) (h1 : 1 ≤ d.sectors) (hs : d.sectors ≤ 16384) (hl : d.loose.length ≤ 65536) (hk : ∀ x ∈ d.loose, x.1 < d.sectors) (hd : d.down = false) (hb : d.armed ≠ 1) (ha : d.acts ≤ 1000000) (hr : d.armed ≤ 9223372036854775807) :
    Calls Try.prog 13 #[.agg (rdC d.size vF vL vP d.armed d.acts d.down)] w (RefRet d.sync (syncErr d) w) := by
  have he : syncErr d = 0 := by simp [syncErr, hd, hb]
  have HSY : d.sync = ((d.act).settle d.loose).forget := by simp [Dev.sync, hd, hb]
  rw [he, HSY]
  clear he HSY
  obtain ⟨a1, c1, rfl⟩ := hR.1.slice
  obtain ⟨a2, c2, rfl⟩ := hR.2.1.slice
  obtain ⟨a3, c3, rfl⟩ := hR.2.2.slice
  have hP := PB.start w (rdC d.size (.slice a1 d.sectors c1) (.slice a2 d.loose.length c2) (.slice a3 d.sectors c3) d.armed d.acts d.down)
  obtain ⟨W0, hW0⟩ : ∃ W0, (w.alloc (.cells (rdC d.size (.slice a1 d.sectors c1) (.slice a2 d.loose.length c2) (.slice a3 d.sectors c3) d.armed d.acts d.down) 33)).alloc (.cells rd0 33) = W0 := ⟨_, rfl⟩
  rw [hW0] at hP
  have HAC := Lib.hid (fun W => refAct_any d.size a1 a2 a3 d.sectors d.loose.length d.sectors c1 c2 c3 d hd ha hr W)
  have hdn : d.act.down = false := by simp [Dev.act, hd, hb]
  rw [hd] at hP hW0 HAC ⊢
  rw [hdn] at HAC
  obtain ⟨ar, har⟩ : ∃ ar, d.act.armed = ar := ⟨_, rfl⟩
  obtain ⟨ac, hac⟩ : ∃ ac, d.act.acts = ac := ⟨_, rfl⟩
  rw [har, hac] at HAC
  have HW0 := Lib.hid hW0
  have HP := Lib.hid hP
  have HFIN : Hid (∀ W g c, FU w w.heap.size (w.heap.size + 1) g c d.sectors (rdC d.size (.slice (some ⟨g, 0, none⟩) d.sectors c) (.slice none 0 0) (.slice a3 d.sectors c3) ar ac false) ((d.act).settle d.loose).fast W → RefRet ((d.act).settle d.loose).forget 0 w (.returned (.tuple #[.agg (rdC d.size (.slice (some ⟨g, 0, none⟩) d.sectors c) (.slice none 0 0) (.slice a3 d.sectors c3) ar ac false), .int .i64 0])) (W.setRow (w.heap.size + 1) (rdC d.size (.slice (some ⟨g, 0, none⟩) d.sectors c) (.slice none 0 0) (.slice a3 d.sectors c3) ar ac false))) := fun W g c hF => by
    obtain ⟨e1, e2, e3, e4, e5, e6, e7⟩ := settle_same d.act d.loose
    refine ⟨.slice (some ⟨g, 0, none⟩) d.sectors c, .slice none 0 0, .slice a3 d.sectors c3, ?_, ?_, (hF.pb.ends _).2⟩
    · show _ = Ending.returned (.tuple #[.agg (rdC ((d.act).settle d.loose).size _ _ _ ((d.act).settle d.loose).armed ((d.act).settle d.loose).acts ((d.act).settle d.loose).down), .int .i64 0])
      rw [e3, e5, e6, e7, har, hac, hdn]
      rfl
    · refine hF.pb.ref (hF.ref (d' := ((d.act).settle d.loose).forget) hR h1 rfl e2 rfl (.inl ⟨rfl, rfl⟩) (fun k => ?_)) _
      exact settle_pasts d.act d.loose k
  have HR := Lib.hid hR
  have HH := Lib.hid (And.intro h1 (And.intro hs hl))
  have HK := Lib.hid hk
  have k3 : (d.loose.length : Int) ≤ 65536 := by omega
  obtain ⟨is, his, hs0, hs1, hs2⟩ := info_parts3 infoStr
  clear hW0 hP hR hd hb ha hr hdn har hac h1 hs hl hk
  have x0 := blk_cell HP.out.x 0
  have x1 := blk_cell HP.out.x 1
  have x2 := blk_cell HP.out.x 2
  have x3 := blk_cell HP.out.x 3
  have x4 := blk_cell HP.out.x 4
  have x5 := blk_cell HP.out.x 5
  have x6 := blk_cell HP.out.x 6
  unfold rdC at x0 x1 x2 x3 x4 x5 x6 HW0 HAC ⊢
  go_enter Try.func13, Try.ntmps13
  go_upto_region 1 with (fail)
  change Code.wp _ _ _ _ ((w.alloc (.cells #[.int .i64 d.size, .slice a1 d.sectors c1, .slice a2 d.loose.length c2, .slice a3 d.sectors c3, .int .i64 d.armed, .int .i64 d.acts, .bool false] 33)).alloc (.cells rd0 33))
  rw [HW0.out]
  clear HW0
  go_upto_region 4 with (first
    | (go_at_call 36; (with_reducible refine (HAC.out _).mono ?_); rintro e w2 ⟨rfl, hb⟩; have HP2 := Lib.hid (HP.out.on hb); have HX2 := Lib.hid HP2.out.x; clear x0 x1 x2 x3 x4 x5 x6 hb)
    | (refine wpList_store_row (o := ⟨none, _, _, _, _, _⟩) rfl 33 (.tmp 1) (.tmp 9) rfl w.heap.size (rdC d.size (.slice a1 d.sectors c1) (.slice a2 d.loose.length c2) (.slice a3 d.sectors c3) ar ac false) rfl rfl 33 _ HX2.out (rd_sz _ _ _ _ _ _ _) rfl ?_ ?_; exact rd_one))
  have hP3 := HP2.out.setRow (rdC d.size (.slice a1 d.sectors c1) (.slice a2 d.loose.length c2) (.slice a3 d.sectors c3) ar ac false)
  obtain ⟨w3, hw3⟩ : ∃ w3, w2.setRow w.heap.size (rdC d.size (.slice a1 d.sectors c1) (.slice a2 d.loose.length c2) (.slice a3 d.sectors c3) ar ac false) = w3 := ⟨_, rfl⟩
  change Code.wp _ _ _ _ (w2.setRow w.heap.size (rdC d.size (.slice a1 d.sectors c1) (.slice a2 d.loose.length c2) (.slice a3 d.sectors c3) ar ac false))
  rw [hw3] at hP3 ⊢
  clear hw3 HX2 HP2
  have HP3 := Lib.hid hP3
  clear hP3
  have x6 := blk_cell HP3.out.x 6
  unfold rdC at x6
  go_upto_region 6 with (fail)
  have HA3 := Lib.hid (HP3.out.on ((Below.refl w3.heap.size w3).alloc (Nat.le_refl _) (.cells #[] 9)))
  have x1 := blk_cell HA3.out.x 1
  unfold rdC at x1
  clear x6
  go_upto_region 7 with (at_builtin; (have HO3 := Lib.hid (own_emptyT w3 w.heap.size 9 1 HP3.out.bel.size)); (refine wpList_append_rowF rfl (.tmp 13) (.tmp 15) 29 rfl rfl w.heap.size 9 is _ 1 16 Try.underlying29 his hs0 hs1 hs2 rfl (by decide) (.slice (some ⟨w3.heap.size, 0, none⟩) 0 0) 0 [] rfl HO3.out (.slice a1 d.sectors c1) rfl w.heap.size d.sectors _ (HR.out.1.below HA3.out.bel) (strs_one _ _) (by have := HH.out.2.1; omega) (by have := HH.out.2.1; omega) HA3.out.bel.size ?_); intro v4 w4 hown hg; rw [Nat.zero_add, List.nil_append] at hown; obtain ⟨g, c, rfl, hF4⟩ := FU.made (HA3.out.grown HO3.out (by decide) hg) hown HH.out.1; have HF4 := Lib.hid hF4; clear x1; have x1 := blk_cell HF4.out.pb.x 1; have f1 := blk_frozen HF4.out.pb.x 1; unfold rdC at x1; clear hown hg hF4)
  have hF5 : FU w w.heap.size (w.heap.size + 1) g c d.sectors (rdC d.size (.slice (some ⟨g, 0, none⟩) d.sectors c) (.slice a2 d.loose.length c2) (.slice a3 d.sectors c3) ar ac false) d.fast (w4.setCell ⟨w.heap.size, 1, none⟩ (.slice (some ⟨g, 0, none⟩) d.sectors c)) := HF4.out.set 1 _
  obtain ⟨w5, hw5⟩ : ∃ w5, w4.setCell ⟨w.heap.size, 1, none⟩ (.slice (some ⟨g, 0, none⟩) d.sectors c) = w5 := ⟨_, rfl⟩
  rw [hw5] at hF5 ⊢
  have HF5 := Lib.hid hF5
  clear hF5 hw5 x1 f1 HF4 HA3 HP3 HP HAC
  go_wp2
  go_loopw [4] (fun i wr => ∃ j : Nat, j ≤ d.loose.length ∧ i = .int .i64 j ∧ FU w w.heap.size (w.heap.size + 1) g c d.sectors (rdC d.size (.slice (some ⟨g, 0, none⟩) d.sectors c) (.slice a2 d.loose.length c2) (.slice a3 d.sectors c3) ar ac false) ((d.act).settle (d.loose.take j)).fast wr) (fun i _ => d.loose.length - (intOf i).toNat)
  case atStart => exact ⟨0, Nat.zero_le _, rfl, HF5.out⟩
  case round =>
    obtain ⟨j, hj, rfl, hF⟩ := hrel
    have x1 := blk_cell hF.pb.x 1
    have x2 := blk_cell hF.pb.x 2
    unfold rdC at x1 x2
    have HF := Lib.hid hF
    clear hF HF5
    by_cases hlt : j < d.loose.length
    · have j1 : (j : Int) < d.loose.length := by omega
      obtain ⟨g2, c2', hm2, hv2, hc2, hg2, hcL, _⟩ := (HR.out.2.1).resolve_left (fun h => by omega)
      cases hv2
      have e0 := (hcL (j * 2) (by omega)).trans (congrArg some (wrC_even d.loose j))
      have e1 := (hcL (j * 2 + 1) (by omega)).trans (congrArg some (wrC_odd d.loose j))
      have hks : (d.loose[j]?.getD default).1 < d.sectors := by
        refine HK.out _ ?_
        rw [List.getElem?_eq_getElem hlt]
        exact List.getElem_mem hlt
      have HST : Hid (((d.act).settle (d.loose.take (j + 1))) = ((d.act).settle (d.loose.take j)).put (d.loose[j]?.getD default).1 (d.loose[j]?.getD default).2) := by
        unfold Hid
        rw [take_snoc _ _ hlt, settle_snoc]
      have HLT := Lib.hid hlt
      generalize d.loose[j]?.getD default = x at e0 e1 HST hks
      obtain ⟨k, bs⟩ := x
      dsimp only at e0 e1 HST hks
      have k1 : (k : Int) < d.sectors := by omega
      have k0 : (0 : Int) ≤ k := by omega
      have j0 : (0 : Int) ≤ j := by omega
      have HKS := Lib.hid hks
      have HCU := Lib.hid (HF.out.cell hks)
      have HD := Lib.hid (show Below wr.heap.size wr wr.drew from (Below.refl _ _).drew)
      have HFD := Lib.hid (HF.out.on HD.out)
      have hck := HFD.out.cell hks
      have hfk := HFD.out.frozen k
      have HSS : Hid (∀ (f : Nat → List (BitVec 8)) (W : World), FU w w.heap.size (w.heap.size + 1) g c d.sectors (rdC d.size (.slice (some ⟨g, 0, none⟩) d.sectors c) (.slice (some ⟨g2, 0, none⟩) d.loose.length c2) (.slice a3 d.sectors c3) ar ac false) f W → W.cell? ⟨w.heap.size, 1, none⟩ = some (.slice (some ⟨g, 0, none⟩) d.sectors c) ∧ W.cell? ⟨w.heap.size, 2, none⟩ = some (.slice (some ⟨g2, 0, none⟩) d.loose.length c2) ∧ W.cell? ⟨g2, j * 2, none⟩ = some (.int .i64 k) ∧ W.cell? ⟨g2, j * 2 + 1, none⟩ = some (.string (strB bs))) := fun f W h => ⟨blk_cell h.pb.x 1, blk_cell h.pb.x 2, (h.pb.bel.cell (p := ⟨g2, j * 2, none⟩) hg2).trans e0, (h.pb.bel.cell (p := ⟨g2, j * 2 + 1, none⟩) hg2).trans e1⟩
      have HF7 := Lib.hid ((HF.out.put (k := k) (f' := (((d.act).settle (d.loose.take j)).put k bs).fast) bs (fun i => rfl)).on ((Below.refl _ _).drew))
      clear hcL hg2 hc2 hm2 hlt hj hks e0 e1
      go_upto_region 10 with (fail)
      go_region_held3 (fun (W : World) => W.cell? ⟨w.heap.size, 1, none⟩ = some (.slice (some ⟨g, 0, none⟩) d.sectors c) ∧ W.cell? ⟨w.heap.size, 2, none⟩ = some (.slice (some ⟨g2, 0, none⟩) d.loose.length c2) ∧ W.cell? ⟨g2, j * 2, none⟩ = some (.int .i64 k) ∧ W.cell? ⟨g2, j * 2 + 1, none⟩ = some (.string (strB bs)))
        (first | exact HSS.out _ _ HFD.out | exact HSS.out _ _ HF.out | exact HSS.out _ _ HF7.out)
        (fail)
      all_goals
        go_wp2
        go_roundw
        case rel => exact ⟨j + 1, HLT.out, by go_num, by rw [HST.out]; exact HF7.out⟩
        case measure => have := HLT.out; simp [intOf]; omega
    · obtain rfl : j = d.loose.length := by omega
      have f2 := blk_frozen HF.out.pb.x 2
      clear hj hlt
      have hF6 : FU w w.heap.size (w.heap.size + 1) g c d.sectors (rdC d.size (.slice (some ⟨g, 0, none⟩) d.sectors c) (.slice none 0 0) (.slice a3 d.sectors c3) ar ac false) ((d.act).settle d.loose).fast (wr.setCell ⟨w.heap.size, 2, none⟩ (.slice none 0 0)) := by
        have := HF.out.set 2 (.slice none 0 0)
        rwa [List.take_length] at this
      go_upto_region 12 with (fail)
      generalize wr.setCell ⟨w.heap.size, 2, none⟩ (.slice none 0 0) = w6 at hF6 ⊢
      have HF6 := Lib.hid hF6
      have HZ := Lib.hid hF6.pb.z
      have HEN := Lib.hid (hF6.pb.ends (rdC d.size (.slice (some ⟨g, 0, none⟩) d.sectors c) (.slice none 0 0) (.slice a3 d.sectors c3) ar ac false)).1
      clear hF6 x1 x2 f2 HF
      have x0 := blk_cell HF6.out.pb.x 0
      have x1 := blk_cell HF6.out.pb.x 1
      have x2 := blk_cell HF6.out.pb.x 2
      have x3 := blk_cell HF6.out.pb.x 3
      have x4 := blk_cell HF6.out.pb.x 4
      have x5 := blk_cell HF6.out.pb.x 5
      have x6 := blk_cell HF6.out.pb.x 6
      unfold rdC at x0 x1 x2 x3 x4 x5 x6
      go_wp2_with (refine wpList_store_row (o := ⟨none, _, _, _, _, _⟩) rfl 33 (.tmp 2) (.tmp 41) rfl (w.heap.size + 1) (rdC d.size (.slice (some ⟨g, 0, none⟩) d.sectors c) (.slice none 0 0) (.slice a3 d.sectors c3) ar ac false) rfl rfl 33 rd0 HZ.out (rd_sz _ _ _ _ _ _ _) rfl ?_ ?_; exact rd_one)
      exact bodyPost_ret (rd_res rfl _ _ (w.heap.size + 1) _ 0 HEN.out (rd_sz _ _ _ _ _ _ _) rfl rfl) rfl (HFIN.out _ _ _ HF6.out)
end Go.Proofs.Ytadglpnmhpmebaa
namespace Go.Proofs.Ytadglpnmhpmebaa
open Go.RowKit

set_option maxRecDepth 100000 in
set_option maxHeartbeats 4000000 in
theorem refSync_down {vF vL vP : Value} {d : Dev} {w : World} (hR : RefAt w.heap.size w vF vL vP d) (hd : d.down = true) :
    Calls Try.prog 13 #[.agg (rdC d.size vF vL vP d.armed d.acts d.down)] w (RefRet d.sync (syncErr d) w) := by
  have he : syncErr d = 4 := by simp [syncErr, hd]
  have hs : d.sync = d := by simp [Dev.sync, hd]
  rw [he, hs]
  clear he hs
  obtain ⟨a1, c1, rfl⟩ := hR.1.slice
  obtain ⟨a2, c2, rfl⟩ := hR.2.1.slice
  obtain ⟨a3, c3, rfl⟩ := hR.2.2.slice
  have hP := PB.start w (rdC d.size (.slice a1 d.sectors c1) (.slice a2 d.loose.length c2) (.slice a3 d.sectors c3) d.armed d.acts d.down)
  obtain ⟨W0, hW0⟩ : ∃ W0, (w.alloc (.cells (rdC d.size (.slice a1 d.sectors c1) (.slice a2 d.loose.length c2) (.slice a3 d.sectors c3) d.armed d.acts d.down) 33)).alloc (.cells rd0 33) = W0 := ⟨_, rfl⟩
  rw [hW0] at hP
  have HFIN : Hid (∀ W, PB w w.heap.size (w.heap.size + 1) (rdC d.size (.slice a1 d.sectors c1) (.slice a2 d.loose.length c2) (.slice a3 d.sectors c3) d.armed d.acts true) W → RefRet d 4 w (.returned (.tuple #[.agg (rdC d.size (.slice a1 d.sectors c1) (.slice a2 d.loose.length c2) (.slice a3 d.sectors c3) d.armed d.acts true), .int .i64 4])) (W.setRow (w.heap.size + 1) (rdC d.size (.slice a1 d.sectors c1) (.slice a2 d.loose.length c2) (.slice a3 d.sectors c3) d.armed d.acts true))) := fun W hW => ⟨_, _, _, by rw [hd], hW.ref ((hR.below hW.bel).mono hW.bel.size) _, (hW.ends _).2⟩
  rw [hd] at hP hW0 ⊢
  have HW0 := Lib.hid hW0
  have HP := Lib.hid hP
  clear hW0 hP hR hd
  have x0 := blk_cell HP.out.x 0
  have x1 := blk_cell HP.out.x 1
  have x2 := blk_cell HP.out.x 2
  have x3 := blk_cell HP.out.x 3
  have x4 := blk_cell HP.out.x 4
  have x5 := blk_cell HP.out.x 5
  have x6 := blk_cell HP.out.x 6
  unfold rdC at x0 x1 x2 x3 x4 x5 x6 HW0 ⊢
  have HEN := Lib.hid (HP.out.ends (rdC d.size (.slice a1 d.sectors c1) (.slice a2 d.loose.length c2) (.slice a3 d.sectors c3) d.armed d.acts true)).1
  have HZ := Lib.hid HP.out.z
  go_enter Try.func13, Try.ntmps13
  go_upto_region 1 with (fail)
  change Code.wp _ _ _ _ ((w.alloc (.cells #[.int .i64 d.size, .slice a1 d.sectors c1, .slice a2 d.loose.length c2, .slice a3 d.sectors c3, .int .i64 d.armed, .int .i64 d.acts, .bool true] 33)).alloc (.cells rd0 33))
  rw [HW0.out]
  go_wp2_with (refine wpList_store_row (o := ⟨none, _, _, _, _, _⟩) rfl 33 (.tmp 2) (.tmp 7) rfl (w.heap.size + 1) (rdC d.size (.slice a1 d.sectors c1) (.slice a2 d.loose.length c2) (.slice a3 d.sectors c3) d.armed d.acts true) rfl rfl 33 rd0 HZ.out (rd_sz _ _ _ _ _ _ _) rfl ?_ ?_; exact rd_one)
  exact bodyPost_ret (rd_res rfl _ _ (w.heap.size + 1) _ 4 HEN.out (rd_sz _ _ _ _ _ _ _) rfl rfl) rfl (HFIN.out _ HP.out)
set_option maxRecDepth 100000 in
set_option maxHeartbeats 4000000 in
theorem refSync_ends {vF vL vP : Value} {d : Dev} {w : World} (hR : RefAt w.heap.size w vF vL vP d) (hd : d.down = false) (hb : d.armed = 1) (ha : d.acts ≤ 1000000) :
    Calls Try.prog 13 #[.agg (rdC d.size vF vL vP d.armed d.acts d.down)] w (RefRet d.sync (syncErr d) w) := by
  have he : syncErr d = 4 := by simp [syncErr, hd, hb]
  have hs : d.sync = d.act := by simp [Dev.sync, hd, hb]
  rw [he, hs]
  clear he hs
  obtain ⟨a1, c1, rfl⟩ := hR.1.slice
  obtain ⟨a2, c2, rfl⟩ := hR.2.1.slice
  obtain ⟨a3, c3, rfl⟩ := hR.2.2.slice
  have hP := PB.start w (rdC d.size (.slice a1 d.sectors c1) (.slice a2 d.loose.length c2) (.slice a3 d.sectors c3) d.armed d.acts d.down)
  obtain ⟨W0, hW0⟩ : ∃ W0, (w.alloc (.cells (rdC d.size (.slice a1 d.sectors c1) (.slice a2 d.loose.length c2) (.slice a3 d.sectors c3) d.armed d.acts d.down) 33)).alloc (.cells rd0 33) = W0 := ⟨_, rfl⟩
  rw [hW0] at hP
  have HAC := Lib.hid (fun W => refAct_any d.size a1 a2 a3 d.sectors d.loose.length d.sectors c1 c2 c3 d hd ha (by omega) W)
  have hdn : d.act.down = true := by simp [Dev.act, hb]
  rw [hd] at hP hW0 HAC ⊢
  rw [hdn] at HAC
  obtain ⟨ar, har⟩ : ∃ ar, d.act.armed = ar := ⟨_, rfl⟩
  obtain ⟨ac, hac⟩ : ∃ ac, d.act.acts = ac := ⟨_, rfl⟩
  rw [har, hac] at HAC
  have HFIN : Hid (∀ W, PB w w.heap.size (w.heap.size + 1) (rdC d.size (.slice a1 d.sectors c1) (.slice a2 d.loose.length c2) (.slice a3 d.sectors c3) ar ac true) W → RefRet d.act 4 w (.returned (.tuple #[.agg (rdC d.size (.slice a1 d.sectors c1) (.slice a2 d.loose.length c2) (.slice a3 d.sectors c3) ar ac true), .int .i64 4])) (W.setRow (w.heap.size + 1) (rdC d.size (.slice a1 d.sectors c1) (.slice a2 d.loose.length c2) (.slice a3 d.sectors c3) ar ac true))) := fun W hW => ⟨_, _, _, by rw [har, hac, hdn]; rfl, hW.ref (((hR.below hW.bel).mono hW.bel.size).act) _, (hW.ends _).2⟩
  have HW0 := Lib.hid hW0
  have HP := Lib.hid hP
  clear hW0 hP hR hd hb ha hdn har hac
  have x0 := blk_cell HP.out.x 0
  have x1 := blk_cell HP.out.x 1
  have x2 := blk_cell HP.out.x 2
  have x3 := blk_cell HP.out.x 3
  have x4 := blk_cell HP.out.x 4
  have x5 := blk_cell HP.out.x 5
  have x6 := blk_cell HP.out.x 6
  unfold rdC at x0 x1 x2 x3 x4 x5 x6 HW0 HAC ⊢
  go_enter Try.func13, Try.ntmps13
  go_upto_region 1 with (fail)
  change Code.wp _ _ _ _ ((w.alloc (.cells #[.int .i64 d.size, .slice a1 d.sectors c1, .slice a2 d.loose.length c2, .slice a3 d.sectors c3, .int .i64 d.armed, .int .i64 d.acts, .bool false] 33)).alloc (.cells rd0 33))
  rw [HW0.out]
  clear HW0
  go_upto_region 4 with (first
    | (go_at_call 36; (with_reducible refine (HAC.out _).mono ?_); rintro e w2 ⟨rfl, hb⟩; have HP2 := Lib.hid (HP.out.on hb); have HX2 := Lib.hid HP2.out.x; clear x0 x1 x2 x3 x4 x5 x6 hb)
    | (refine wpList_store_row (o := ⟨none, _, _, _, _, _⟩) rfl 33 (.tmp 1) (.tmp 9) rfl w.heap.size (rdC d.size (.slice a1 d.sectors c1) (.slice a2 d.loose.length c2) (.slice a3 d.sectors c3) ar ac true) rfl rfl 33 _ HX2.out (rd_sz _ _ _ _ _ _ _) rfl ?_ ?_; exact rd_one))
  have hP3 := HP2.out.setRow (rdC d.size (.slice a1 d.sectors c1) (.slice a2 d.loose.length c2) (.slice a3 d.sectors c3) ar ac true)
  obtain ⟨w3, hw3⟩ : ∃ w3, w2.setRow w.heap.size (rdC d.size (.slice a1 d.sectors c1) (.slice a2 d.loose.length c2) (.slice a3 d.sectors c3) ar ac true) = w3 := ⟨_, rfl⟩
  change Code.wp _ _ _ _ (w2.setRow w.heap.size (rdC d.size (.slice a1 d.sectors c1) (.slice a2 d.loose.length c2) (.slice a3 d.sectors c3) ar ac true))
  rw [hw3] at hP3 ⊢
  clear hw3 HX2 HP2 HP
  have HP := Lib.hid hP3
  clear hP3
  have x0 := blk_cell HP.out.x 0
  have x1 := blk_cell HP.out.x 1
  have x2 := blk_cell HP.out.x 2
  have x3 := blk_cell HP.out.x 3
  have x4 := blk_cell HP.out.x 4
  have x5 := blk_cell HP.out.x 5
  have x6 := blk_cell HP.out.x 6
  unfold rdC at x0 x1 x2 x3 x4 x5 x6
  have HEN := Lib.hid (HP.out.ends (rdC d.size (.slice a1 d.sectors c1) (.slice a2 d.loose.length c2) (.slice a3 d.sectors c3) ar ac true)).1
  have HZ := Lib.hid HP.out.z
  go_wp2_with (refine wpList_store_row (o := ⟨none, _, _, _, _, _⟩) rfl 33 (.tmp 2) (.tmp 12) rfl (w.heap.size + 1) (rdC d.size (.slice a1 d.sectors c1) (.slice a2 d.loose.length c2) (.slice a3 d.sectors c3) ar ac true) rfl rfl 33 rd0 HZ.out (rd_sz _ _ _ _ _ _ _) rfl ?_ ?_; exact rd_one)
  exact bodyPost_ret (rd_res rfl _ _ (w.heap.size + 1) _ 4 HEN.out (rd_sz _ _ _ _ _ _ _) rfl rfl) rfl (HFIN.out _ HP.out)
set_option maxRecDepth 100000 in
set_option maxHeartbeats 4000000 in
theorem refrotA {vF vL vP : Value} {d : Dev} {w : World} (hR : RefAt w.heap.size w vF vL vP d) (at_ b : Int) (m : BitVec 8) (hno : ¬ (0 ≤ at_ ∧ at_ < (d.sectors : Int))) :
    Calls Try.prog 20 #[.agg (rdC d.size vF vL vP d.armed d.acts d.down), .int .i64 at_, .int .i64 b, .int .u8 (U m)] w (RefRet d 2 w) := by
  obtain ⟨a1, c1, rfl⟩ := hR.1.slice
  obtain ⟨a2, c2, rfl⟩ := hR.2.1.slice
  obtain ⟨a3, c3, rfl⟩ := hR.2.2.slice
  have hP := PB.start w (rdC d.size (.slice a1 d.sectors c1) (.slice a2 d.loose.length c2) (.slice a3 d.sectors c3) d.armed d.acts d.down)
  obtain ⟨W0, hW0⟩ : ∃ W0, (w.alloc (.cells (rdC d.size (.slice a1 d.sectors c1) (.slice a2 d.loose.length c2) (.slice a3 d.sectors c3) d.armed d.acts d.down) 33)).alloc (.cells rd0 33) = W0 := ⟨_, rfl⟩
  rw [hW0] at hP
  have HTH : Hid (∀ W, Calls Try.prog 40 #[.agg (rdC d.size (.slice a1 d.sectors c1) (.slice a2 d.loose.length c2) (.slice a3 d.sectors c3) d.armed d.acts d.down), .int .i64 at_] W fun e w' => e = .returned (.bool false) ∧ Below W.heap.size W w') := fun W => by
    have := there_any d.size d.sectors a1 c1 (.slice a2 d.loose.length c2) (.slice a3 d.sectors c3) d.armed d.acts d.down at_ W
    rwa [show decide (0 ≤ at_ ∧ at_ < (d.sectors : Int)) = false by simpa using hno] at this
  have HFIN : Hid (∀ W, PB w w.heap.size (w.heap.size + 1) (rdC d.size (.slice a1 d.sectors c1) (.slice a2 d.loose.length c2) (.slice a3 d.sectors c3) d.armed d.acts d.down) W → RefRet d 2 w (.returned (.tuple #[.agg (rdC d.size (.slice a1 d.sectors c1) (.slice a2 d.loose.length c2) (.slice a3 d.sectors c3) d.armed d.acts d.down), .int .i64 2])) (W.setRow (w.heap.size + 1) (rdC d.size (.slice a1 d.sectors c1) (.slice a2 d.loose.length c2) (.slice a3 d.sectors c3) d.armed d.acts d.down))) := fun W hW => ⟨_, _, _, rfl, hW.ref ((hR.below hW.bel).mono hW.bel.size) _, (hW.ends _).2⟩
  have HW0 := Lib.hid hW0
  have HP := Lib.hid hP
  clear hW0 hP hR hno
  have x0 := blk_cell HP.out.x 0
  have x1 := blk_cell HP.out.x 1
  have x2 := blk_cell HP.out.x 2
  have x3 := blk_cell HP.out.x 3
  have x4 := blk_cell HP.out.x 4
  have x5 := blk_cell HP.out.x 5
  have x6 := blk_cell HP.out.x 6
  unfold rdC at x0 x1 x2 x3 x4 x5 x6 HW0 HTH ⊢
  go_enter Try.func20, Try.ntmps20
  go_upto_region 1 with (fail)
  change Code.wp _ _ _ _ ((w.alloc (.cells #[.int .i64 d.size, .slice a1 d.sectors c1, .slice a2 d.loose.length c2, .slice a3 d.sectors c3, .int .i64 d.armed, .int .i64 d.acts, .bool d.down] 33)).alloc (.cells rd0 33))
  rw [HW0.out]
  clear HW0
  go_wp2_with (first
    | (go_at_call 40; (with_reducible refine (HTH.out _).mono ?_); rintro e w1 ⟨rfl, hb⟩; have HP1 := Lib.hid (HP.out.on hb); have HZ := Lib.hid HP1.out.z; have HEN := Lib.hid (HP1.out.ends (rdC d.size (.slice a1 d.sectors c1) (.slice a2 d.loose.length c2) (.slice a3 d.sectors c3) d.armed d.acts d.down)).1; clear x0 x1 x2 x3 x4 x5 x6; have x0 := blk_cell HP1.out.x 0; have x1 := blk_cell HP1.out.x 1; have x2 := blk_cell HP1.out.x 2; have x3 := blk_cell HP1.out.x 3; have x4 := blk_cell HP1.out.x 4; have x5 := blk_cell HP1.out.x 5; have x6 := blk_cell HP1.out.x 6; unfold rdC at x0 x1 x2 x3 x4 x5 x6; clear hb)
    | (refine wpList_store_row (o := ⟨none, _, _, _, _, _⟩) rfl 33 (.tmp 8) (.tmp 25) rfl (w.heap.size + 1) (rdC d.size (.slice a1 d.sectors c1) (.slice a2 d.loose.length c2) (.slice a3 d.sectors c3) d.armed d.acts d.down) rfl rfl 33 rd0 HZ.out (rd_sz _ _ _ _ _ _ _) rfl ?_ ?_; exact rd_one))
  exact bodyPost_ret (rd_res rfl _ _ (w.heap.size + 1) _ 2 HEN.out (rd_sz _ _ _ _ _ _ _) rfl rfl) rfl (HFIN.out _ HP1.out)
set_option maxRecDepth 100000 in
set_option maxHeartbeats 4000000 in
theorem refrotB {vF vL vP : Value} {d : Dev} {w : World} (hR : RefAt w.heap.size w vF vL vP d) (at_ b : Int) (m : BitVec 8) (hin : 0 ≤ at_ ∧ at_ < (d.sectors : Int)) (hb : b < 0) :
    Calls Try.prog 20 #[.agg (rdC d.size vF vL vP d.armed d.acts d.down), .int .i64 at_, .int .i64 b, .int .u8 (U m)] w (RefRet d 2 w) := by
  obtain ⟨a1, c1, rfl⟩ := hR.1.slice
  obtain ⟨a2, c2, rfl⟩ := hR.2.1.slice
  obtain ⟨a3, c3, rfl⟩ := hR.2.2.slice
  have hP := PB.start w (rdC d.size (.slice a1 d.sectors c1) (.slice a2 d.loose.length c2) (.slice a3 d.sectors c3) d.armed d.acts d.down)
  obtain ⟨W0, hW0⟩ : ∃ W0, (w.alloc (.cells (rdC d.size (.slice a1 d.sectors c1) (.slice a2 d.loose.length c2) (.slice a3 d.sectors c3) d.armed d.acts d.down) 33)).alloc (.cells rd0 33) = W0 := ⟨_, rfl⟩
  rw [hW0] at hP
  have HTH : Hid (∀ W, Calls Try.prog 40 #[.agg (rdC d.size (.slice a1 d.sectors c1) (.slice a2 d.loose.length c2) (.slice a3 d.sectors c3) d.armed d.acts d.down), .int .i64 at_] W fun e w' => e = .returned (.bool true) ∧ Below W.heap.size W w') := fun W => by
    have := there_any d.size d.sectors a1 c1 (.slice a2 d.loose.length c2) (.slice a3 d.sectors c3) d.armed d.acts d.down at_ W
    rwa [show decide (0 ≤ at_ ∧ at_ < (d.sectors : Int)) = true by simpa using hin] at this
  have HFIN : Hid (∀ W, PB w w.heap.size (w.heap.size + 1) (rdC d.size (.slice a1 d.sectors c1) (.slice a2 d.loose.length c2) (.slice a3 d.sectors c3) d.armed d.acts d.down) W → RefRet d 2 w (.returned (.tuple #[.agg (rdC d.size (.slice a1 d.sectors c1) (.slice a2 d.loose.length c2) (.slice a3 d.sectors c3) d.armed d.acts d.down), .int .i64 2])) (W.setRow (w.heap.size + 1) (rdC d.size (.slice a1 d.sectors c1) (.slice a2 d.loose.length c2) (.slice a3 d.sectors c3) d.armed d.acts d.down))) := fun W hW => ⟨_, _, _, rfl, hW.ref ((hR.below hW.bel).mono hW.bel.size) _, (hW.ends _).2⟩
  have HW0 := Lib.hid hW0
  have HP := Lib.hid hP
  clear hW0 hP hR hin
  have x0 := blk_cell HP.out.x 0
  have x1 := blk_cell HP.out.x 1
  have x2 := blk_cell HP.out.x 2
  have x3 := blk_cell HP.out.x 3
  have x4 := blk_cell HP.out.x 4
  have x5 := blk_cell HP.out.x 5
  have x6 := blk_cell HP.out.x 6
  unfold rdC at x0 x1 x2 x3 x4 x5 x6 HW0 HTH ⊢
  go_enter Try.func20, Try.ntmps20
  go_upto_region 1 with (fail)
  change Code.wp _ _ _ _ ((w.alloc (.cells #[.int .i64 d.size, .slice a1 d.sectors c1, .slice a2 d.loose.length c2, .slice a3 d.sectors c3, .int .i64 d.armed, .int .i64 d.acts, .bool d.down] 33)).alloc (.cells rd0 33))
  rw [HW0.out]
  clear HW0
  go_wp2_with (first
    | (go_at_call 40; (with_reducible refine (HTH.out _).mono ?_); rintro e w1 ⟨rfl, hb⟩; have HP1 := Lib.hid (HP.out.on hb); have HZ := Lib.hid HP1.out.z; have HEN := Lib.hid (HP1.out.ends (rdC d.size (.slice a1 d.sectors c1) (.slice a2 d.loose.length c2) (.slice a3 d.sectors c3) d.armed d.acts d.down)).1; clear x0 x1 x2 x3 x4 x5 x6; have x0 := blk_cell HP1.out.x 0; have x1 := blk_cell HP1.out.x 1; have x2 := blk_cell HP1.out.x 2; have x3 := blk_cell HP1.out.x 3; have x4 := blk_cell HP1.out.x 4; have x5 := blk_cell HP1.out.x 5; have x6 := blk_cell HP1.out.x 6; unfold rdC at x0 x1 x2 x3 x4 x5 x6; clear hb)
    | (refine wpList_store_row (o := ⟨none, _, _, _, _, _⟩) rfl 33 (.tmp 8) (.tmp 25) rfl (w.heap.size + 1) (rdC d.size (.slice a1 d.sectors c1) (.slice a2 d.loose.length c2) (.slice a3 d.sectors c3) d.armed d.acts d.down) rfl rfl 33 rd0 HZ.out (rd_sz _ _ _ _ _ _ _) rfl ?_ ?_; exact rd_one))
  exact bodyPost_ret (rd_res rfl _ _ (w.heap.size + 1) _ 2 HEN.out (rd_sz _ _ _ _ _ _ _) rfl rfl) rfl (HFIN.out _ HP1.out)
set_option maxRecDepth 100000 in
set_option maxHeartbeats 4000000 in
theorem refrotC {vF vL vP : Value} {d : Dev} {w : World} (hR : RefAt w.heap.size w vF vL vP d) (at_ b : Int) (m : BitVec 8) (hin : 0 ≤ at_ ∧ at_ < (d.sectors : Int)) (hb0 : 0 ≤ b) (hb : (d.size : Int) ≤ b) :
    Calls Try.prog 20 #[.agg (rdC d.size vF vL vP d.armed d.acts d.down), .int .i64 at_, .int .i64 b, .int .u8 (U m)] w (RefRet d 2 w) := by
  obtain ⟨a1, c1, rfl⟩ := hR.1.slice
  obtain ⟨a2, c2, rfl⟩ := hR.2.1.slice
  obtain ⟨a3, c3, rfl⟩ := hR.2.2.slice
  have hP := PB.start w (rdC d.size (.slice a1 d.sectors c1) (.slice a2 d.loose.length c2) (.slice a3 d.sectors c3) d.armed d.acts d.down)
  obtain ⟨W0, hW0⟩ : ∃ W0, (w.alloc (.cells (rdC d.size (.slice a1 d.sectors c1) (.slice a2 d.loose.length c2) (.slice a3 d.sectors c3) d.armed d.acts d.down) 33)).alloc (.cells rd0 33) = W0 := ⟨_, rfl⟩
  rw [hW0] at hP
  have HTH : Hid (∀ W, Calls Try.prog 40 #[.agg (rdC d.size (.slice a1 d.sectors c1) (.slice a2 d.loose.length c2) (.slice a3 d.sectors c3) d.armed d.acts d.down), .int .i64 at_] W fun e w' => e = .returned (.bool true) ∧ Below W.heap.size W w') := fun W => by
    have := there_any d.size d.sectors a1 c1 (.slice a2 d.loose.length c2) (.slice a3 d.sectors c3) d.armed d.acts d.down at_ W
    rwa [show decide (0 ≤ at_ ∧ at_ < (d.sectors : Int)) = true by simpa using hin] at this
  have HFIN : Hid (∀ W, PB w w.heap.size (w.heap.size + 1) (rdC d.size (.slice a1 d.sectors c1) (.slice a2 d.loose.length c2) (.slice a3 d.sectors c3) d.armed d.acts d.down) W → RefRet d 2 w (.returned (.tuple #[.agg (rdC d.size (.slice a1 d.sectors c1) (.slice a2 d.loose.length c2) (.slice a3 d.sectors c3) d.armed d.acts d.down), .int .i64 2])) (W.setRow (w.heap.size + 1) (rdC d.size (.slice a1 d.sectors c1) (.slice a2 d.loose.length c2) (.slice a3 d.sectors c3) d.armed d.acts d.down))) := fun W hW => ⟨_, _, _, rfl, hW.ref ((hR.below hW.bel).mono hW.bel.size) _, (hW.ends _).2⟩
  have HW0 := Lib.hid hW0
  have HP := Lib.hid hP
  clear hW0 hP hR hin
  have x0 := blk_cell HP.out.x 0
  have x1 := blk_cell HP.out.x 1
  have x2 := blk_cell HP.out.x 2
  have x3 := blk_cell HP.out.x 3
  have x4 := blk_cell HP.out.x 4
  have x5 := blk_cell HP.out.x 5
  have x6 := blk_cell HP.out.x 6
  unfold rdC at x0 x1 x2 x3 x4 x5 x6 HW0 HTH ⊢
  go_enter Try.func20, Try.ntmps20
  go_upto_region 1 with (fail)
  change Code.wp _ _ _ _ ((w.alloc (.cells #[.int .i64 d.size, .slice a1 d.sectors c1, .slice a2 d.loose.length c2, .slice a3 d.sectors c3, .int .i64 d.armed, .int .i64 d.acts, .bool d.down] 33)).alloc (.cells rd0 33))
  rw [HW0.out]
  clear HW0
  go_wp2_with (first
    | (go_at_call 40; (with_reducible refine (HTH.out _).mono ?_); rintro e w1 ⟨rfl, hb⟩; have HP1 := Lib.hid (HP.out.on hb); have HZ := Lib.hid HP1.out.z; have HEN := Lib.hid (HP1.out.ends (rdC d.size (.slice a1 d.sectors c1) (.slice a2 d.loose.length c2) (.slice a3 d.sectors c3) d.armed d.acts d.down)).1; clear x0 x1 x2 x3 x4 x5 x6; have x0 := blk_cell HP1.out.x 0; have x1 := blk_cell HP1.out.x 1; have x2 := blk_cell HP1.out.x 2; have x3 := blk_cell HP1.out.x 3; have x4 := blk_cell HP1.out.x 4; have x5 := blk_cell HP1.out.x 5; have x6 := blk_cell HP1.out.x 6; unfold rdC at x0 x1 x2 x3 x4 x5 x6; clear hb)
    | (refine wpList_store_row (o := ⟨none, _, _, _, _, _⟩) rfl 33 (.tmp 8) (.tmp 25) rfl (w.heap.size + 1) (rdC d.size (.slice a1 d.sectors c1) (.slice a2 d.loose.length c2) (.slice a3 d.sectors c3) d.armed d.acts d.down) rfl rfl 33 rd0 HZ.out (rd_sz _ _ _ _ _ _ _) rfl ?_ ?_; exact rd_one))
  exact bodyPost_ret (rd_res rfl _ _ (w.heap.size + 1) _ 2 HEN.out (rd_sz _ _ _ _ _ _ _) rfl rfl) rfl (HFIN.out _ HP1.out)
end Go.Proofs.Ytadglpnmhpmebaa
namespace Go.Proofs.Ytadglpnmhpmebaa
open Go.RowKit
attribute [local go_sem] xor_u8

/-- A text as bytes of its own, a byte turned. -/
theorem bytes_turn (w : World) (bs : List (BitVec 8)) (b : Nat) (hb : b < bs.length) (y : BitVec 8) : BytesAt ((Lib.bytesWorld w 5 (strB bs)).setCell ⟨w.heap.size, b, none⟩ (.int .u8 (U y))).heap.size ((Lib.bytesWorld w 5 (strB bs)).setCell ⟨w.heap.size, b, none⟩ (.int .u8 (U y))) (.slice (some ⟨w.heap.size, 0, none⟩) (strB bs).size (grownCap w (strB bs).size 0 5)) (bs.set b y) := by
  have hnew := Lib.bytesWorld_at_new w 5 (strB bs)
  have hset : ((Lib.bytesWorld w 5 (strB bs)).setCell ⟨w.heap.size, b, none⟩ (.int .u8 (U y))).heap[w.heap.size]? = some (.cells ((Lib.bytesCells w 5 (strB bs)).setIfInBounds b (.int .u8 (U y))) 5 ((Lib.bytesCells w 5 (strB bs)).size, (Lib.bytesCells w 5 (strB bs)).size + 1)) := by
    simp [World.setCell, Array.getElem?_modify, hnew]
  have hcap : bs.length ≤ grownCap w (strB bs).size 0 5 := (strB_size bs) ▸ grownCap_ge w (strB bs).size 0 5
  have hcell : ∀ j, j < bs.length → (Lib.bytesCells w 5 (strB bs))[j]? = some (.int .u8 (U (bs[j]?.getD 0))) := fun j hj => by
    have h1 := Lib.bytesWorld_cell w 5 (strB bs) j (by rw [strB_size]; exact hj)
    rw [cell_of_row _ _ _ _ _ _ hnew] at h1
    rw [h1]
    congr 2
    unfold U
    rw [strB_list]
    simp [List.getD, hj]
  refine ⟨some ⟨w.heap.size, 0, none⟩, grownCap w (strB bs).size 0 5, by rw [List.length_set]; congr 1; exact strB_size bs, by rw [List.length_set]; exact hcap, fun h => (by cases h), .inr ⟨w.heap.size, 0, rfl, blk_lt hset, fun j hj => ?_⟩⟩
  rw [List.length_set] at hj
  have hsz : j < (Lib.bytesCells w 5 (strB bs)).size := (Array.getElem?_eq_some_iff.1 (hcell j hj)).1
  rw [Nat.zero_add, cell_of_row _ _ _ _ _ _ hset, Array.getElem?_setIfInBounds, List.getElem?_set]
  by_cases hjb : b = j
  · subst hjb
    rw [if_pos rfl, if_pos hsz, if_pos rfl, if_pos hb]
    rfl
  · rw [if_neg hjb, if_neg hjb]
    exact hcell j hj
theorem bytes_frozen (w : World) (bs : List (BitVec 8)) (b : Nat) (hb : b < bs.length) : (Lib.bytesWorld w 5 (strB bs)).frozen? ⟨w.heap.size, b, none⟩ = false := by
  have hnew := Lib.bytesWorld_at_new w 5 (strB bs)
  have hsz : b < (Lib.bytesCells w 5 (strB bs)).size := by
    have h1 := Lib.bytesWorld_cell w 5 (strB bs) b (by rw [strB_size]; exact hb)
    rw [cell_of_row _ _ _ _ _ _ hnew] at h1
    exact (Array.getElem?_eq_some_iff.1 h1).1
  simp only [World.frozen?, hnew]
  simp
  intro h
  omega
theorem bytes_read (w : World) (bs : List (BitVec 8)) (b : Nat) (hb : b < bs.length) : (Lib.bytesWorld w 5 (strB bs)).cell? ⟨w.heap.size, b, none⟩ = some (.int .u8 (U (bs[b]?.getD 0))) := by
  rw [Lib.bytesWorld_cell w 5 (strB bs) b (by rw [strB_size]; exact hb)]
  congr 2
  unfold U
  rw [strB_list]
  simp [List.getD, hb]
/-- The rotten text, stored. -/
def rotB (d : Dev) (k b : Nat) (m : BitVec 8) : List (BitVec 8) := (d.fast k).set b ((d.fast k)[b]?.getD 0 ^^^ m)
set_option maxRecDepth 100000 in
set_option maxHeartbeats 8000000 in
theorem refRot_yes {vF vL vP : Value} {d : Dev} {w : World} (hR : RefAt w.heap.size w vF vL vP d) (k b : Nat) (m : BitVec 8) (hk : k < d.sectors) (hb : b < d.size) (hlen : (d.fast k).length = d.size) (hs : d.sectors ≤ 16384) :
    Calls Try.prog 20 #[.agg (rdC d.size vF vL vP d.armed d.acts d.down), .int .i64 k, .int .i64 b, .int .u8 (U m)] w (RefRet (d.put k (rotB d k b m)) 0 w) := by
  obtain ⟨a1, c1, rfl⟩ := hR.1.slice
  obtain ⟨a2, c2, rfl⟩ := hR.2.1.slice
  obtain ⟨a3, c3, rfl⟩ := hR.2.2.slice
  have hP := PB.start w (rdC d.size (.slice a1 d.sectors c1) (.slice a2 d.loose.length c2) (.slice a3 d.sectors c3) d.armed d.acts d.down)
  obtain ⟨W0, hW0⟩ : ∃ W0, (w.alloc (.cells (rdC d.size (.slice a1 d.sectors c1) (.slice a2 d.loose.length c2) (.slice a3 d.sectors c3) d.armed d.acts d.down) 33)).alloc (.cells rd0 33) = W0 := ⟨_, rfl⟩
  rw [hW0] at hP
  have HTH : Hid (∀ W, Calls Try.prog 40 #[.agg (rdC d.size (.slice a1 d.sectors c1) (.slice a2 d.loose.length c2) (.slice a3 d.sectors c3) d.armed d.acts d.down), .int .i64 k] W fun e w' => e = .returned (.bool true) ∧ Below W.heap.size W w') := fun W => by
    have := there_any d.size d.sectors a1 c1 (.slice a2 d.loose.length c2) (.slice a3 d.sectors c3) d.armed d.acts d.down k W
    rwa [show decide (0 ≤ (k : Int) ∧ (k : Int) < (d.sectors : Int)) = true by simpa using hk] at this
  have HFIN : Hid (∀ W g c, FU w w.heap.size (w.heap.size + 1) g c d.sectors (rdC d.size (.slice (some ⟨g, 0, none⟩) d.sectors c) (.slice a2 d.loose.length c2) (.slice a3 d.sectors c3) d.armed d.acts d.down) (d.put k (rotB d k b m)).fast W → RefRet (d.put k (rotB d k b m)) 0 w (.returned (.tuple #[.agg (rdC d.size (.slice (some ⟨g, 0, none⟩) d.sectors c) (.slice a2 d.loose.length c2) (.slice a3 d.sectors c3) d.armed d.acts d.down), .int .i64 0])) (W.setRow (w.heap.size + 1) (rdC d.size (.slice (some ⟨g, 0, none⟩) d.sectors c) (.slice a2 d.loose.length c2) (.slice a3 d.sectors c3) d.armed d.acts d.down))) := fun W g c hF => by
    refine ⟨.slice (some ⟨g, 0, none⟩) d.sectors c, .slice a2 d.loose.length c2, .slice a3 d.sectors c3, rfl, ?_, (hF.pb.ends _).2⟩
    exact hF.pb.ref (hF.ref (d' := d.put k (rotB d k b m)) hR (by omega) rfl rfl rfl ((hR.2.1.below hF.pb.bel).mono hF.pb.bel.size) (fun _ => rfl)) _
  have HW0 := Lib.hid hW0
  have HP := Lib.hid hP
  have k0 : (0 : Int) ≤ k := by omega
  have k1 : (k : Int) < d.sectors := by omega
  have b0 : (0 : Int) ≤ b := by omega
  have b1 : (b : Int) < d.size := by omega
  have HL : Hid ((d.fast k).length = d.size) := hlen
  have hbl : b < (d.fast k).length := by omega
  have HBL := Lib.hid hbl
  have hsz : (strB (d.fast k)).size = d.size := by rw [strB_size, hlen]
  obtain ⟨g1, c1', hm1, hv1, hc1, hg1, hcF, _⟩ := (hR.1).resolve_left (fun h => by omega)
  cases hv1
  have HCF := Lib.hid (And.intro hg1 (hcF k (by omega)))
  have HR := Lib.hid hR
  have HS := Lib.hid (And.intro hk hs)
  obtain ⟨is, his, hs0, hs1, hs2⟩ := info_parts3 infoStr
  clear hW0 hP hR hk hb hlen hs hm1 hc1 hg1 hcF hbl
  have x0 := blk_cell HP.out.x 0
  have x1 := blk_cell HP.out.x 1
  have x2 := blk_cell HP.out.x 2
  have x3 := blk_cell HP.out.x 3
  have x4 := blk_cell HP.out.x 4
  have x5 := blk_cell HP.out.x 5
  have x6 := blk_cell HP.out.x 6
  unfold rdC at x0 x1 x2 x3 x4 x5 x6 HW0 HTH ⊢
  go_enter Try.func20, Try.ntmps20
  go_upto_region 1 with (fail)
  change Code.wp _ _ _ _ ((w.alloc (.cells #[.int .i64 d.size, .slice (some ⟨g1, 0, none⟩) d.sectors c1, .slice a2 d.loose.length c2, .slice a3 d.sectors c3, .int .i64 d.armed, .int .i64 d.acts, .bool d.down] 33)).alloc (.cells rd0 33))
  rw [HW0.out]
  clear HW0
  go_upto_region 3 with (go_at_call 40; (with_reducible refine (HTH.out _).mono ?_); rintro e w1 ⟨rfl, hb⟩; have HP1 := Lib.hid (HP.out.on hb); clear x0 x1 x2 x3 x4 x5 x6; have x0 := blk_cell HP1.out.x 0; have x1 := blk_cell HP1.out.x 1; unfold rdC at x0 x1; clear hb)
  have xk := (HP1.out.bel.cell (p := ⟨g1, k, none⟩) HCF.out.1).trans HCF.out.2
  have hcb := conv_bytes w1 (strB (d.fast k))
  rw [hsz] at hcb
  go_upto_region 4 with (fail)
  have hbr := bytes_read w1 (d.fast k) b HBL.out
  have hbf := bytes_frozen w1 (d.fast k) b HBL.out
  have hbt := bytes_turn w1 (d.fast k) b HBL.out ((d.fast k)[b]?.getD 0 ^^^ m)
  have hbb := bw_below w1 5 (strB (d.fast k))
  rw [hsz] at hbt
  have HBT := Lib.hid hbt
  have hP2 : PB w w.heap.size (w.heap.size + 1) (rdC d.size (.slice (some ⟨g1, 0, none⟩) d.sectors c1) (.slice a2 d.loose.length c2) (.slice a3 d.sectors c3) d.armed d.acts d.down) ((Lib.bytesWorld w1 5 (strB (d.fast k))).setCell ⟨w1.heap.size, b, none⟩ (.int .u8 (U ((d.fast k)[b]?.getD 0 ^^^ m)))) := HP1.out.on (hbb.setCell (p := ⟨w1.heap.size, b, none⟩) (Nat.le_refl _) _)
  have HP2 := Lib.hid hP2
  have hbx : w1.heap.size ≠ w.heap.size := by have := blk_lt HP1.out.x; omega
  clear hP2 hbb hbt xk hcb x0 x1
  obtain ⟨W1, hW1⟩ : ∃ W1, Lib.bytesWorld w1 5 (strB (d.fast k)) = W1 := ⟨_, rfl⟩
  rw [hW1] at hbr hbf HBT HP2 ⊢
  obtain ⟨cap, hcap⟩ : ∃ cap, grownCap w1 d.size 0 5 = cap := ⟨_, rfl⟩
  rw [hcap] at HBT ⊢
  obtain ⟨B, hB⟩ : ∃ B, w1.heap.size = B := ⟨_, rfl⟩
  rw [hB] at hbr hbf HBT HP2 hbx ⊢
  have HBX := Lib.hid hbx
  clear hbx
  clear hW1 hcap hB HP1 HP HTH
  obtain ⟨y, hy⟩ : ∃ y, (d.fast k)[b]?.getD 0 = y := ⟨_, rfl⟩
  rw [hy] at hbr HBT HP2
  have HRB : Hid (rotB d k b m = (d.fast k).set b (y ^^^ m)) := by unfold Hid rotB; rw [hy]
  clear hy
  go_upto_region 5 with (fail)
  obtain ⟨w3, hw3⟩ : ∃ w3, W1.setCell ⟨B, b, none⟩ (.int .u8 (U (y ^^^ m))) = w3 := ⟨_, rfl⟩
  rw [hw3] at HBT HP2 ⊢
  clear hw3 hbr hbf
  have HA3 := Lib.hid (HP2.out.on ((Below.refl w3.heap.size w3).alloc (Nat.le_refl _) (.cells #[] 9)))
  have x1 := blk_cell HA3.out.x 1
  unfold rdC at x1
  go_upto_region 6 with (at_builtin; (have HO3 := Lib.hid (own_emptyT w3 w.heap.size 9 1 HP2.out.bel.size)); (refine wpList_append_rowF rfl (.tmp 39) (.tmp 41) 29 rfl rfl w.heap.size 9 is _ 1 16 Try.underlying29 his hs0 hs1 hs2 rfl (by decide) (.slice (some ⟨w3.heap.size, 0, none⟩) 0 0) 0 [] rfl HO3.out (.slice (some ⟨g1, 0, none⟩) d.sectors c1) rfl w.heap.size d.sectors _ (HR.out.1.below HA3.out.bel) (strs_one _ _) (by have := HS.out.2; omega) (by have := HS.out.2; omega) HA3.out.bel.size ?_); intro v4 w4 hown hg; rw [Nat.zero_add, List.nil_append] at hown; obtain ⟨g, c, rfl, hF4⟩ := FU.made (HA3.out.grown HO3.out (by decide) hg) hown (by have := HS.out.1; omega); have HF4 := Lib.hid hF4; have hb4 : Below w3.heap.size w3 w4 := ((Below.refl w3.heap.size w3).alloc (Nat.le_refl _) (.cells #[] 9)).grown hg (by simp) (fun q e => by cases e; exact Nat.le_refl _); have HB4 := Lib.hid (HBT.out.below hb4); have HW4 := Lib.hid hb4.size; clear x1; have x1 := blk_cell HF4.out.pb.x 1; have f1 := blk_frozen HF4.out.pb.x 1; unfold rdC at x1; clear hown hg hF4 hb4)
  have hF5 : FU w w.heap.size (w.heap.size + 1) g c d.sectors (rdC d.size (.slice (some ⟨g, 0, none⟩) d.sectors c) (.slice a2 d.loose.length c2) (.slice a3 d.sectors c3) d.armed d.acts d.down) d.fast (w4.setCell ⟨w.heap.size, 1, none⟩ (.slice (some ⟨g, 0, none⟩) d.sectors c)) := HF4.out.set 1 _
  have hB5 : BytesAt w3.heap.size (w4.setCell ⟨w.heap.size, 1, none⟩ (.slice (some ⟨g, 0, none⟩) d.sectors c)) (.slice (some ⟨B, 0, none⟩) d.size cap) ((d.fast k).set b (y ^^^ m)) := by
    refine HB4.out.keep fun _ p hp _ => ?_
    have e : p.block = B := by simpa [Value.ownBlock] using hp.symm
    unfold World.cell?
    rw [e, set_other _ _ _ _ _ HBX.out]
  obtain ⟨w5, hw5⟩ : ∃ w5, w4.setCell ⟨w.heap.size, 1, none⟩ (.slice (some ⟨g, 0, none⟩) d.sectors c) = w5 := ⟨_, rfl⟩
  rw [hw5] at hF5 hB5 ⊢
  have hcv := conv_str hB5
  rw [← HRB.out] at hcv
  have x1 := blk_cell hF5.pb.x 1
  unfold rdC at x1
  have hck := hF5.cell HS.out.1
  have hfk := hF5.frozen k
  have HF5 := Lib.hid hF5
  clear hF5 hB5 hw5 f1 HF4 HA3 HP2 HB4 HBT
  go_upto_region 7 with (fail)
  have hF6 : FU w w.heap.size (w.heap.size + 1) g c d.sectors (rdC d.size (.slice (some ⟨g, 0, none⟩) d.sectors c) (.slice a2 d.loose.length c2) (.slice a3 d.sectors c3) d.armed d.acts d.down) (d.put k (rotB d k b m)).fast (w5.setCell ⟨g, k, none⟩ (.string (strB (rotB d k b m)))) := HF5.out.put _ (fun _ => rfl)
  obtain ⟨w6, hw6⟩ : ∃ w6, w5.setCell ⟨g, k, none⟩ (.string (strB (rotB d k b m))) = w6 := ⟨_, rfl⟩
  rw [hw6] at hF6 ⊢
  have HF6 := Lib.hid hF6
  have HZ := Lib.hid hF6.pb.z
  have HEN := Lib.hid (hF6.pb.ends (rdC d.size (.slice (some ⟨g, 0, none⟩) d.sectors c) (.slice a2 d.loose.length c2) (.slice a3 d.sectors c3) d.armed d.acts d.down)).1
  clear hF6 hw6 x1 hck hfk hcv HF5
  have x0 := blk_cell HF6.out.pb.x 0
  have x1 := blk_cell HF6.out.pb.x 1
  have x2 := blk_cell HF6.out.pb.x 2
  have x3 := blk_cell HF6.out.pb.x 3
  have x4 := blk_cell HF6.out.pb.x 4
  have x5 := blk_cell HF6.out.pb.x 5
  have x6 := blk_cell HF6.out.pb.x 6
  unfold rdC at x0 x1 x2 x3 x4 x5 x6
  go_wp2_with (refine wpList_store_row (o := ⟨none, _, _, _, _, _⟩) rfl 33 (.tmp 8) (.tmp 50) rfl (w.heap.size + 1) (rdC d.size (.slice (some ⟨g, 0, none⟩) d.sectors c) (.slice a2 d.loose.length c2) (.slice a3 d.sectors c3) d.armed d.acts d.down) rfl rfl 33 rd0 HZ.out (rd_sz _ _ _ _ _ _ _) rfl ?_ ?_; exact rd_one)
  exact bodyPost_ret (rd_res rfl _ _ (w.heap.size + 1) _ 0 HEN.out (rd_sz _ _ _ _ _ _ _) rfl rfl) rfl (HFIN.out _ _ _ HF6.out)
end Go.Proofs.Ytadglpnmhpmebaa
namespace Go.Proofs.Ytadglpnmhpmebaa
open Go.RowKit

theorem strB_take (bs : List (BitVec 8)) (n : Nat) : (strB bs).extract 0 n = strB (bs.take n) := by
  unfold strB
  rw [ByteArray.extract_mk]
  simp [List.map_take]
theorem strB_drop (bs : List (BitVec 8)) (n : Nat) : (strB bs).extract n (strB bs).size = strB (bs.drop n) := by
  rw [strB_size]
  unfold strB
  rw [ByteArray.extract_mk]
  congr 2
  rw [List.take_of_length_le (by simp), List.map_drop]
theorem patches_len (d : Dev) (l : List ((Nat × List (BitVec 8)) × Int)) (hl : ∀ k, (d.fast k).length = d.size) (hx : ∀ x ∈ l, x.1.2.length = d.size) (k : Nat) : ((d.patches l).fast k).length = d.size := by
  induction l generalizing d with
  | nil => exact hl k
  | cons x l ih =>
    have h1 : ∀ j, ((d.patch x).fast j).length = d.size := fun j => by
      unfold Dev.patch Dev.put
      dsimp only
      have := doneOf_le d.size x.2
      have h2 := hx x (List.mem_cons_self ..)
      split
      · rw [List.length_append, List.length_take, List.length_drop, hl, h2]
        omega
      · exact hl j
    exact ih (d.patch x) h1 (fun y hy => hx y (List.mem_cons_of_mem _ hy))
/-- How many bytes of the j-th loose write a crash does. -/
def fateN (d : Dev) (fs : List Int) (j : Nat) : Nat := if j < fs.length then doneOf d.size (fs[j]?.getD 0) else 0
/-- Behind the first j loose writes. -/
def crashF (d : Dev) (fs : List Int) (j : Nat) : Nat → List (BitVec 8) := (d.patches ((d.loose.zip fs).take j)).fast
theorem crashF_step (d : Dev) (fs : List Int) (j : Nat) (hj : j < d.loose.length) (i : Nat) : crashF d fs (j + 1) i = if i = (d.loose[j]?.getD default).1 then (d.loose[j]?.getD default).2.take (fateN d fs j) ++ (crashF d fs j (d.loose[j]?.getD default).1).drop (fateN d fs j) else crashF d fs j i := by
  unfold crashF fateN
  by_cases hf : j < fs.length
  · rw [if_pos hf, zip_take_succ d.loose fs j (d.loose[j]?.getD default) (fs[j]?.getD 0) (by rw [List.getElem?_eq_getElem hj]; rfl) (by rw [List.getElem?_eq_getElem hf]; rfl), patches_snoc]
    have hz := (patches_same d ((d.loose.zip fs).take j)).2.2.1
    unfold Dev.patch Dev.put
    dsimp only
    rw [hz]
  · rw [if_neg hf]
    have e1 : (d.loose.zip fs).take (j + 1) = d.loose.zip fs := List.take_of_length_le (by rw [List.length_zip]; omega)
    have e2 : (d.loose.zip fs).take j = d.loose.zip fs := List.take_of_length_le (by rw [List.length_zip]; omega)
    rw [e1, e2, List.take_zero, List.drop_zero, List.nil_append]
    split
    · rename_i h
      rw [h]
    · rfl
theorem crashF_len (d : Dev) (fs : List Int) (j : Nat) (hl : ∀ k, (d.fast k).length = d.size) (hx : ∀ x ∈ d.loose, x.2.length = d.size) (k : Nat) : (crashF d fs j k).length = d.size :=
  patches_len d _ hl (fun _ h => hx _ (List.of_mem_zip (List.mem_of_mem_take h)).1) k
theorem crashF_zero (d : Dev) (fs : List Int) : crashF d fs 0 = d.fast := by unfold crashF; rw [List.take_zero]; rfl
theorem crashF_full (d : Dev) (fs : List Int) : crashF d fs d.loose.length = (d.patches (d.loose.zip fs)).fast := by
  unfold crashF
  rw [List.take_of_length_le (by rw [List.length_zip]; omega)]
theorem strB_append2 (xs ys : List (BitVec 8)) : strB (xs ++ ys) = strB xs ++ strB ys := by
  apply ByteArray.ext
  simp [strB]
theorem FU.putS {w W : World} {X Z g c m : Nat} {cs : Array Value} {f f' : Nat → List (BitVec 8)} (h : FU w X Z g c m cs f W) {k : Nat} {bs : List (BitVec 8)} {s : ByteArray} (hs : s = strB bs) (hf : ∀ j, f' j = if j = k then bs else f j) : FU w X Z g c m cs f' (W.setCell ⟨g, k, none⟩ (.string s)) := by
  subst hs
  exact h.put bs hf
/-- What Crash answers. -/
def RefOne (d' : Dev) (w : World) (e : Ending) (w' : World) : Prop := ∃ vF vL vP, e = .returned (.agg (rdC d'.size vF vL vP d'.armed d'.acts d'.down)) ∧ RefAt w'.heap.size w' vF vL vP d' ∧ Below w.heap.size w w'
theorem fate_neg (size : Nat) (f : Int) (h : f.tmod ((size : Int) + 1) < 0) : f.tmod ((size : Int) + 1) + ((size : Int) + 1) = (doneOf size f : Int) := by
  have hm := done_math size f
  have h0 : (0 : Int) < (size : Int) + 1 := by omega
  have m1 := Int.lt_tmod_of_pos f h0
  rw [← hm, Int.emod_eq_of_lt (by omega) (by omega)]
theorem fate_pos (size : Nat) (f : Int) (h : ¬ f.tmod ((size : Int) + 1) < 0) : f.tmod ((size : Int) + 1) = (doneOf size f : Int) := by
  have hm := done_math size f
  have h0 : (0 : Int) < (size : Int) + 1 := by omega
  have m2 := Int.tmod_lt_of_pos f h0
  rw [← hm, Int.add_emod_right, Int.emod_eq_of_lt (by omega) m2]
set_option maxRecDepth 100000 in
set_option maxHeartbeats 16000000 in
theorem refCrash_any {vF vL vP : Value} {d : Dev} {w : World} (hR : RefAt w.heap.size w vF vL vP d) {v : Value} {fs : List Int} (hv : IntsIn w.heap.size w v fs) (h1 : 1 ≤ d.sectors) (hs : d.sectors ≤ 16384) (hz : d.size ≤ 512) (hl : d.loose.length ≤ 65536) (hf : fs.length ≤ 1099511627776) (hk : ∀ x ∈ d.loose, x.1 < d.sectors ∧ x.2.length = d.size) (hlen : ∀ k, (d.fast k).length = d.size) :
    Calls Try.prog 18 #[.agg (rdC d.size vF vL vP d.armed d.acts d.down), v] w (RefOne (d.crash fs) w) := by
  obtain ⟨a1, c1, rfl⟩ := hR.1.slice
  obtain ⟨a2, c2, rfl⟩ := hR.2.1.slice
  obtain ⟨a3, c3, rfl⟩ := hR.2.2.slice
  obtain ⟨fa, fc, rfl, hfs⟩ := hv
  have hP := PB.start w (rdC d.size (.slice a1 d.sectors c1) (.slice a2 d.loose.length c2) (.slice a3 d.sectors c3) d.armed d.acts d.down)
  obtain ⟨W0, hW0⟩ : ∃ W0, (w.alloc (.cells (rdC d.size (.slice a1 d.sectors c1) (.slice a2 d.loose.length c2) (.slice a3 d.sectors c3) d.armed d.acts d.down) 33)).alloc (.cells rd0 33) = W0 := ⟨_, rfl⟩
  rw [hW0] at hP
  have HFIN : Hid (∀ W g c, FU w w.heap.size (w.heap.size + 1) g c d.sectors (rdC d.size (.slice (some ⟨g, 0, none⟩) d.sectors c) (.slice none 0 0) (.slice a3 d.sectors c3) 0 d.acts false) (crashF d fs d.loose.length) W → RefOne (d.crash fs) w (.returned (.agg (rdC d.size (.slice (some ⟨g, 0, none⟩) d.sectors c) (.slice none 0 0) (.slice a3 d.sectors c3) 0 d.acts false))) (W.setRow (w.heap.size + 1) (rdC d.size (.slice (some ⟨g, 0, none⟩) d.sectors c) (.slice none 0 0) (.slice a3 d.sectors c3) 0 d.acts false))) := fun W g c hF => by
    obtain ⟨e1, e2, e3, e4, e5, e6, e7⟩ := patches_same d (d.loose.zip fs)
    refine ⟨.slice (some ⟨g, 0, none⟩) d.sectors c, .slice none 0 0, .slice a3 d.sectors c3, ?_, ?_, (hF.pb.ends _).2⟩
    · show _ = Ending.returned (.agg (rdC (d.patches (d.loose.zip fs)).size _ _ _ 0 (d.patches (d.loose.zip fs)).acts false))
      rw [e3, e6]
    · refine hF.pb.ref (hF.ref (d' := d.crash fs) hR h1 rfl e2 (crashF_full d fs).symm (.inl ⟨rfl, rfl⟩) (fun k => ?_)) _
      show (d.patches (d.loose.zip fs)).pasts k = _
      unfold Dev.pasts
      rw [e3, e4]
  have HW0 := Lib.hid hW0
  have HP := Lib.hid hP
  have HR := Lib.hid hR
  have HH := Lib.hid (And.intro h1 (And.intro hs hl))
  have HK := Lib.hid hk
  have HFS := Lib.hid hfs
  have HCL : Hid (∀ j k, (crashF d fs j k).length = d.size) := fun j k => crashF_len d fs j hlen (fun x h => (hk x h).2) k
  have k3 : (d.loose.length : Int) ≤ 65536 := by omega
  have k4 : (fs.length : Int) ≤ 1099511627776 := by omega
  have k5 : (d.size : Int) ≤ 512 := by omega
  have k6 : IntKind.i64.wrap ((d.size : Int) + 1) = (d.size : Int) + 1 := by simp [IntKind.wrap, IntKind.bits, IntKind.signed]; omega
  obtain ⟨is, his, hs0, hs1, hs2⟩ := info_parts3 infoStr
  clear hW0 hP hR hk h1 hs hl hlen hfs hf hz
  have x0 := blk_cell HP.out.x 0
  have x1 := blk_cell HP.out.x 1
  have x2 := blk_cell HP.out.x 2
  unfold rdC at x0 x1 x2 HW0 ⊢
  go_enter Try.func18, Try.ntmps18
  go_upto_region 1 with (fail)
  change Code.wp _ _ _ _ ((w.alloc (.cells #[.int .i64 d.size, .slice a1 d.sectors c1, .slice a2 d.loose.length c2, .slice a3 d.sectors c3, .int .i64 d.armed, .int .i64 d.acts, .bool d.down] 33)).alloc (.cells rd0 33))
  rw [HW0.out]
  clear HW0
  have HA3 := Lib.hid (HP.out.on ((Below.refl W0.heap.size W0).alloc (Nat.le_refl _) (.cells #[] 9)))
  clear x0 x1 x2
  have x1 := blk_cell HA3.out.x 1
  unfold rdC at x1
  go_upto_region 2 with (at_builtin; (have HO3 := Lib.hid (own_emptyT W0 w.heap.size 9 1 HP.out.bel.size)); (refine wpList_append_rowF rfl (.tmp 8) (.tmp 10) 29 rfl rfl w.heap.size 9 is _ 1 16 Try.underlying29 his hs0 hs1 hs2 rfl (by decide) (.slice (some ⟨W0.heap.size, 0, none⟩) 0 0) 0 [] rfl HO3.out (.slice a1 d.sectors c1) rfl w.heap.size d.sectors _ (HR.out.1.below HA3.out.bel) (strs_one _ _) (by have := HH.out.2.1; omega) (by have := HH.out.2.1; omega) HA3.out.bel.size ?_); intro v4 w4 hown hg; rw [Nat.zero_add, List.nil_append] at hown; obtain ⟨g, c, rfl, hF4⟩ := FU.made (HA3.out.grown HO3.out (by decide) hg) hown HH.out.1; have HF4 := Lib.hid hF4; clear x1; have x1 := blk_cell HF4.out.pb.x 1; have f1 := blk_frozen HF4.out.pb.x 1; unfold rdC at x1; clear hown hg hF4)
  have hF5 : FU w w.heap.size (w.heap.size + 1) g c d.sectors (rdC d.size (.slice (some ⟨g, 0, none⟩) d.sectors c) (.slice a2 d.loose.length c2) (.slice a3 d.sectors c3) d.armed d.acts d.down) (crashF d fs 0) (w4.setCell ⟨w.heap.size, 1, none⟩ (.slice (some ⟨g, 0, none⟩) d.sectors c)) := by
    rw [crashF_zero]
    exact HF4.out.set 1 _
  obtain ⟨w5, hw5⟩ : ∃ w5, w4.setCell ⟨w.heap.size, 1, none⟩ (.slice (some ⟨g, 0, none⟩) d.sectors c) = w5 := ⟨_, rfl⟩
  rw [hw5] at hF5 ⊢
  have HF5 := Lib.hid hF5
  clear hF5 hw5 x1 f1 HF4 HA3 HP
  go_wp2
  go_loopw [5] (fun i wr => ∃ j : Nat, j ≤ d.loose.length ∧ i = .int .i64 j ∧ FU w w.heap.size (w.heap.size + 1) g c d.sectors (rdC d.size (.slice (some ⟨g, 0, none⟩) d.sectors c) (.slice a2 d.loose.length c2) (.slice a3 d.sectors c3) d.armed d.acts d.down) (crashF d fs j) wr) (fun i _ => d.loose.length - (intOf i).toNat)
  case atStart => exact ⟨0, Nat.zero_le _, rfl, HF5.out⟩
  case round =>
    obtain ⟨j, hj, rfl, hF⟩ := hrel
    have HF := Lib.hid hF
    clear hF HF5
    have x0 := blk_cell HF.out.pb.x 0
    have x1 := blk_cell HF.out.pb.x 1
    have x2 := blk_cell HF.out.pb.x 2
    unfold rdC at x0 x1 x2
    by_cases hlt : j < d.loose.length
    · have j1 : (j : Int) < d.loose.length := by omega
      have j0 : (0 : Int) ≤ j := by omega
      obtain ⟨g2, c2', hm2, hv2, hc2, hg2, hcL, _⟩ := (HR.out.2.1).resolve_left (fun h => by omega)
      cases hv2
      have e0 := (HF.out.pb.bel.cell (p := ⟨g2, j * 2, none⟩) hg2).trans ((hcL (j * 2) (by omega)).trans (congrArg some (wrC_even d.loose j)))
      have e1 := (HF.out.pb.bel.cell (p := ⟨g2, j * 2 + 1, none⟩) hg2).trans ((hcL (j * 2 + 1) (by omega)).trans (congrArg some (wrC_odd d.loose j)))
      have hks : (d.loose[j]?.getD default).1 < d.sectors ∧ (d.loose[j]?.getD default).2.length = d.size := by
        refine HK.out _ ?_
        rw [List.getElem?_eq_getElem hlt]
        exact List.getElem_mem hlt
      have HST := Lib.hid (crashF_step d fs j hlt)
      have HLT := Lib.hid hlt
      generalize d.loose[j]?.getD default = x at e0 e1 HST hks
      obtain ⟨k, bs⟩ := x
      dsimp only at e0 e1 HST hks
      have k1 : (k : Int) < d.sectors := by omega
      have k0 : (0 : Int) ≤ k := by omega
      have HKS := Lib.hid hks.1
      have HBS := Lib.hid hks.2
      obtain ⟨fb, hfb⟩ : ∃ fb, crashF d fs j k = fb := ⟨_, rfl⟩
      have hfl := HCL.out j k
      rw [hfb] at HST hfl
      have hcl : strB (crashF d fs j k) = strB fb := by rw [hfb]
      clear hfb
      obtain ⟨n, hn⟩ : ∃ n, fateN d fs j = n := ⟨_, rfl⟩
      rw [hn] at HST
      have hnle : n ≤ d.size := by
        rw [← hn]
        unfold fateN
        split
        · exact doneOf_le _ _
        · exact Nat.zero_le _
      have HCAT : Hid ((strB bs).extract 0 n ++ (strB fb).extract n (strB fb).size = strB (bs.take n ++ fb.drop n)) := by
        unfold Hid
        rw [strB_take, strB_drop, strB_append2]
      have q1 : (n : Int) ≤ (strB bs).size := by rw [strB_size]; omega
      have q2 : (n : Int) ≤ (strB fb).size := by rw [strB_size]; omega
      have q0 : (0 : Int) ≤ n := by omega
      obtain ⟨sx, hsx⟩ : ∃ sx, strB bs = sx := ⟨_, rfl⟩
      obtain ⟨sf, hsf⟩ : ∃ sf, strB fb = sf := ⟨_, rfl⟩
      rw [hsx] at q1 HCAT e1
      rw [hsf] at q2 HCAT hcl
      have HCE := Lib.hid hcl
      clear hcl
      obtain ⟨sA, hsA⟩ : ∃ sA, sx.extract 0 n = sA := ⟨_, rfl⟩
      obtain ⟨sB, hsB⟩ : ∃ sB, sf.extract n sf.size = sB := ⟨_, rfl⟩
      have hsum : ¬ (9223372036854775807 < sA.size + sB.size) := by
        have h5 : d.size ≤ 512 := by omega
        rw [← hsA, ← hsB, ← hsx, ← hsf, strB_take, strB_drop, strB_size, strB_size, List.length_take, List.length_drop]
        omega
      rw [hsA, hsB] at HCAT
      have hsf2 : ¬ (9223372036854775807 < sB.size) := by omega
      clear hcL hg2 hc2 hm2 hlt hj hks hsx hsf hfl hnle
      by_cases hjf : j < fs.length
      · have j2 : (j : Int) < fs.length := by omega
        obtain ⟨gf, off, rfl, hgf, hcf⟩ := (HFS.out).resolve_left (fun h => by rw [h] at hjf; simp at hjf)
        have ef := (HF.out.pb.bel.cell (p := ⟨gf, off + j, none⟩) hgf).trans (hcf j hjf)
        have HN : Hid (doneOf d.size (fs[j]?.getD 0) = n) := by rw [← hn]; unfold Hid fateN; rw [if_pos hjf]
        generalize fs[j]?.getD 0 = f at ef HN
        obtain ⟨tm, htm⟩ : ∃ tm, f.tmod ((d.size : Int) + 1) = tm := ⟨_, rfl⟩
        have z1 : ¬ ((d.size : Int) + 1 = 0) := by omega
        by_cases hneg : tm < 0
        · have hq := fate_neg d.size f (by rw [htm]; exact hneg)
          rw [htm, HN.out] at hq
          have hq2 : IntKind.i64.wrap (tm + ((d.size : Int) + 1)) = (n : Int) := by rw [hq]; simp [IntKind.wrap, IntKind.bits, IntKind.signed]; omega
          clear hcf hgf hjf hn hq HN
          go_upto_region 7 with (fail)
          go_region_held3 (fun (W : World) => W.cell? ⟨gf, off + j, none⟩ = some (.int .i64 f) ∧ W.cell? ⟨w.heap.size, 0, none⟩ = some (.int .i64 d.size))
            (exact And.intro ef x0)
            (fail)
          go_upto_region 11 with (fail)
          have hFA := HF.out.on (W' := wr.drew.alloc (.cells #[.int .i64 k, .string sx] 76)) ((Below.refl _ _).drew.alloc (Nat.le_refl _) _)
          have y0 : (wr.drew.alloc (.cells #[.int .i64 k, .string sx] 76)).cell? ⟨wr.heap.size, 0, none⟩ = some (.int .i64 k) := blk_cell (heap_alloc_new wr.drew (.cells #[.int .i64 k, .string sx] 76)) 0
          have y1 : (wr.drew.alloc (.cells #[.int .i64 k, .string sx] 76)).cell? ⟨wr.heap.size, 1, none⟩ = some (.string sx) := blk_cell (heap_alloc_new wr.drew (.cells #[.int .i64 k, .string sx] 76)) 1
          have hck : (wr.drew.alloc (.cells #[.int .i64 k, .string sx] 76)).cell? ⟨g, k, none⟩ = some (.string sf) := by
            have h1 := hFA.cell HKS.out
            rw [HCE.out] at h1
            exact h1
          change Code.wp _ _ _ _ (wr.drew.alloc (.cells #[.int .i64 k, .string sx] 76))
          obtain ⟨WA, hWA⟩ : ∃ WA, wr.drew.alloc (.cells #[.int .i64 k, .string sx] 76) = WA := ⟨_, rfl⟩
          rw [hWA] at hFA y0 y1 hck ⊢
          have hfk := hFA.frozen k
          clear hWA x0 x1 x2 e0 e1
          have x1 := blk_cell hFA.pb.x 1
          unfold rdC at x1
          have HFA := Lib.hid (hFA.on (Below.refl _ _).drew)
          clear hFA
          go_still_tail 18, (by kernel_rfl)
          change wpList _ _ _ _ _ WA.drew
          go_wp2
          go_roundw
          case rel => exact ⟨j + 1, HLT.out, by go_num, HFA.out.putS HCAT.out HST.out⟩
          case measure => have := HLT.out; simp [intOf]; omega
        · have hq := fate_pos d.size f (by rw [htm]; exact hneg)
          rw [htm, HN.out] at hq
          subst hq
          clear hcf hgf hjf hn HN
          go_upto_region 7 with (fail)
          go_region_held3 (fun (W : World) => W.cell? ⟨gf, off + j, none⟩ = some (.int .i64 f) ∧ W.cell? ⟨w.heap.size, 0, none⟩ = some (.int .i64 d.size))
            (exact And.intro ef x0)
            (fail)
          go_upto_region 11 with (fail)
          have hFA := HF.out.on (W' := wr.drew.alloc (.cells #[.int .i64 k, .string sx] 76)) ((Below.refl _ _).drew.alloc (Nat.le_refl _) _)
          have y0 : (wr.drew.alloc (.cells #[.int .i64 k, .string sx] 76)).cell? ⟨wr.heap.size, 0, none⟩ = some (.int .i64 k) := blk_cell (heap_alloc_new wr.drew (.cells #[.int .i64 k, .string sx] 76)) 0
          have y1 : (wr.drew.alloc (.cells #[.int .i64 k, .string sx] 76)).cell? ⟨wr.heap.size, 1, none⟩ = some (.string sx) := blk_cell (heap_alloc_new wr.drew (.cells #[.int .i64 k, .string sx] 76)) 1
          have hck : (wr.drew.alloc (.cells #[.int .i64 k, .string sx] 76)).cell? ⟨g, k, none⟩ = some (.string sf) := by
            have h1 := hFA.cell HKS.out
            rw [HCE.out] at h1
            exact h1
          change Code.wp _ _ _ _ (wr.drew.alloc (.cells #[.int .i64 k, .string sx] 76))
          obtain ⟨WA, hWA⟩ : ∃ WA, wr.drew.alloc (.cells #[.int .i64 k, .string sx] 76) = WA := ⟨_, rfl⟩
          rw [hWA] at hFA y0 y1 hck ⊢
          have hfk := hFA.frozen k
          clear hWA x0 x1 x2 e0 e1
          have x1 := blk_cell hFA.pb.x 1
          unfold rdC at x1
          have HFA := Lib.hid (hFA.on (Below.refl _ _).drew)
          clear hFA
          go_still_tail 18, (by kernel_rfl)
          change wpList _ _ _ _ _ WA.drew
          go_wp2
          go_roundw
          case rel => exact ⟨j + 1, HLT.out, by go_num, HFA.out.putS HCAT.out HST.out⟩
          case measure => have := HLT.out; simp [intOf]; omega
      · have j2 : (fs.length : Int) ≤ j := by omega
        have hn0 : n = 0 := by rw [← hn]; unfold fateN; rw [if_neg hjf]
        subst hn0
        clear hjf hn
        replace HCAT : Hid (sB = strB (bs.take 0 ++ fb.drop 0)) := by unfold Hid; rw [← HCAT.out, ← hsA]; simp
        go_upto_region 11 with (fail)
        have hFA := HF.out.on (W' := wr.alloc (.cells #[.int .i64 k, .string sx] 76)) ((Below.refl _ _).alloc (Nat.le_refl _) _)
        have y0 : (wr.alloc (.cells #[.int .i64 k, .string sx] 76)).cell? ⟨wr.heap.size, 0, none⟩ = some (.int .i64 k) := blk_cell (heap_alloc_new wr (.cells #[.int .i64 k, .string sx] 76)) 0
        have y1 : (wr.alloc (.cells #[.int .i64 k, .string sx] 76)).cell? ⟨wr.heap.size, 1, none⟩ = some (.string sx) := blk_cell (heap_alloc_new wr (.cells #[.int .i64 k, .string sx] 76)) 1
        have hck : (wr.alloc (.cells #[.int .i64 k, .string sx] 76)).cell? ⟨g, k, none⟩ = some (.string sf) := by
          have h1 := hFA.cell HKS.out
          rw [HCE.out] at h1
          exact h1
        change Code.wp _ _ _ _ (wr.alloc (.cells #[.int .i64 k, .string sx] 76))
        obtain ⟨WA, hWA⟩ : ∃ WA, wr.alloc (.cells #[.int .i64 k, .string sx] 76) = WA := ⟨_, rfl⟩
        rw [hWA] at hFA y0 y1 hck ⊢
        have hfk := hFA.frozen k
        clear hWA x0 x1 x2 e0 e1
        have x1 := blk_cell hFA.pb.x 1
        unfold rdC at x1
        have HFA := Lib.hid (hFA.on (Below.refl _ _).drew)
        clear hFA
        go_still_tail 18, (by kernel_rfl)
        change wpList _ _ _ _ _ WA.drew
        go_wp2
        go_roundw
        case rel => exact ⟨j + 1, HLT.out, by go_num, HFA.out.putS HCAT.out HST.out⟩
        case measure => have := HLT.out; simp [intOf]; omega
    · obtain rfl : j = d.loose.length := by omega
      have f2 := blk_frozen HF.out.pb.x 2
      have f4 := blk_frozen HF.out.pb.x 4
      have f6 := blk_frozen HF.out.pb.x 6
      have x4 := blk_cell HF.out.pb.x 4
      have x6 := blk_cell HF.out.pb.x 6
      unfold rdC at x4 x6
      clear hj hlt
      have hF6 : FU w w.heap.size (w.heap.size + 1) g c d.sectors (rdC d.size (.slice (some ⟨g, 0, none⟩) d.sectors c) (.slice none 0 0) (.slice a3 d.sectors c3) 0 d.acts false) (crashF d fs d.loose.length) (((wr.setCell ⟨w.heap.size, 2, none⟩ (.slice none 0 0)).setCell ⟨w.heap.size, 4, none⟩ (.int .i64 0)).setCell ⟨w.heap.size, 6, none⟩ (.bool false)) := ((HF.out.set 2 (.slice none 0 0)).set 4 (.int .i64 0)).set 6 (.bool false)
      go_upto_region 13 with (fail)
      generalize ((wr.setCell ⟨w.heap.size, 2, none⟩ (.slice none 0 0)).setCell ⟨w.heap.size, 4, none⟩ (.int .i64 0)).setCell ⟨w.heap.size, 6, none⟩ (.bool false) = w6 at hF6 ⊢
      have HF6 := Lib.hid hF6
      have HZ := Lib.hid hF6.pb.z
      have HEN := Lib.hid (hF6.pb.ends (rdC d.size (.slice (some ⟨g, 0, none⟩) d.sectors c) (.slice none 0 0) (.slice a3 d.sectors c3) 0 d.acts false)).1
      clear hF6 x0 x1 x2 x4 x6 f2 f4 f6 HF
      have x0 := blk_cell HF6.out.pb.x 0
      have x1 := blk_cell HF6.out.pb.x 1
      have x2 := blk_cell HF6.out.pb.x 2
      have x3 := blk_cell HF6.out.pb.x 3
      have x4 := blk_cell HF6.out.pb.x 4
      have x5 := blk_cell HF6.out.pb.x 5
      have x6 := blk_cell HF6.out.pb.x 6
      unfold rdC at x0 x1 x2 x3 x4 x5 x6
      go_wp2_with (refine wpList_store_row (o := ⟨none, _, _, _, _, _⟩) rfl 33 (.tmp 4) (.tmp 65) rfl (w.heap.size + 1) (rdC d.size (.slice (some ⟨g, 0, none⟩) d.sectors c) (.slice none 0 0) (.slice a3 d.sectors c3) 0 d.acts false) rfl rfl 33 rd0 HZ.out (rd_sz _ _ _ _ _ _ _) rfl ?_ ?_; exact rd_one)
      exact bodyPost_ret (results_cell_row rfl _ _ (w.heap.size + 1) 33 (rdC d.size (.slice (some ⟨g, 0, none⟩) d.sectors c) (.slice none 0 0) (.slice a3 d.sectors c3) 0 d.acts false) (0, 0) _ rfl HEN.out Try.underlying33 rfl (rd_sz _ _ _ _ _ _ _)) rfl (HFIN.out _ _ _ HF6.out)
end Go.Proofs.Ytadglpnmhpmebaa

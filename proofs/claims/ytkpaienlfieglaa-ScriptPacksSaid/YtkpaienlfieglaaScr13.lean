/-
  sgraffitoref20's Pack.
  Conditions: none.
-/
import Derived.Test.YtkpaienlfieglaaScr12r
import Derived.Test.YtkpaienlfieglaaScr12t
import Derived.Test.YtkpaienlfieglaaScr10
import Derived.Test.YtkpaienlfieglaaRAt
import Derived.Laws.OwnMore
namespace Go.Proofs.Ytkpaienlfieglaa
open Go.RowKit
attribute [local go_sem] Oper.semAt_some

theorem byte1 {i : Int} (h0 : 0 ≤ i) (h1 : i < 256) : leI 1 i = [BitVec.ofInt 8 i] ∧ U (BitVec.ofInt 8 i) = i := by
  obtain ⟨n, rfl⟩ := Int.eq_ofNat_of_zero_le h0
  have hn : n < 256 := by omega
  constructor
  · unfold leI leB
    simp
  · unfold U
    simp
    omega
theorem one_bytes (W : World) {d : Int} (hd0 : 0 ≤ d) (hd1 : d < 256) : BytesAt (W.alloc (.cells #[.int .u8 d] 5)).heap.size (W.alloc (.cells #[.int .u8 d] 5)) (.slice (some ⟨W.heap.size, 0, none⟩) 1 1) (leI 1 d) := by
  obtain ⟨e1, e2⟩ := byte1 hd0 hd1
  have h := World.ownsRow_lit (base := W.heap.size) (e := 5) (size := 1) W #[.int .u8 d] 1 (Nat.le_refl _) (by unfold maxLen; omega) rfl
  rw [e1]
  have hc : [.int .u8 d] = cellsOf [BitVec.ofInt 8 d] := by
    show _ = [Value.int .u8 (U (BitVec.ofInt 8 d))]
    rw [e2]
  exact BytesAt.of_owns (bs := [BitVec.ofInt 8 d]) (by rw [← hc]; exact h)
theorem wrapU8 {i : Int} (h0 : 0 ≤ i) (h1 : i < 256) : IntKind.u8.wrap i = i := by
  simp [IntKind.wrap, IntKind.bits, IntKind.signed]; omega
theorem RAt.stay {w0 W w1 : World} {v : Value} {row : List (BitVec 8)} (h : RAt w0 v row W) (hg : W.grownBy w1 v.ownBlock) : WStay 0 W w1 := by
  refine ⟨hg.size, fun k o ho _ hc => (hg.block k (Array.getElem?_eq_some_iff.1 ho).1 (fun e => ?_)).trans ho⟩
  obtain ⟨cs, sp, h1⟩ := own_cellsW h.1 e.symm
  rw [ho] at h1
  cases h1
  exact hc _ _ rfl
theorem refNumW (i : Int) (W : World) : Calls Try.prog 27 #[.int .u64 (U (BitVec.ofInt 64 i)), .int .i64 8] W fun e w' => ∃ u, e = .returned u ∧ BytesAt w'.heap.size w' u (leI 8 i) ∧ Below W.heap.size W w' := by
  have h := refNumI (U (BitVec.ofInt 64 i)) 8 (U_nonneg _) (U_lt _) rfl W
  have e : leI 8 (U (BitVec.ofInt 64 i)) = leI 8 i := by unfold leI; rw [ofInt_U]
  rwa [e] at h
theorem refTextB (bs : List (BitVec 8)) (hl : bs.length ≤ 65535) (W : World) : Calls Try.prog 29 #[.string (strB bs)] W fun e w' => ∃ u, e = .returned u ∧ BytesAt w'.heap.size w' u (txt bs) ∧ Below W.heap.size W w' :=
  (refText_any bs hl W).mono fun _ _ ⟨u, he, hu, hb⟩ => ⟨u, he, BytesAt.of_owns hu, hb⟩
theorem act_kinds {x : SAct} (h : rightA x = true) : (0 ≤ x.kind ∧ x.kind < 256) ∧ ((wk (kn x.kind) = true ∧ wv (kn x.kind) = false ∧ wu (kn x.kind) = false ∧ decide (wl (kn x.kind) < wm (kn x.kind)) = false ∧ (x.kind == 7) = false) ∨ (wk (kn x.kind) = true ∧ wv (kn x.kind) = true ∧ wu (kn x.kind) = true ∧ decide (wl (kn x.kind) < wm (kn x.kind)) = false ∧ (x.kind == 7) = false) ∨ (wk (kn x.kind) = false ∧ wv (kn x.kind) = false ∧ wu (kn x.kind) = false ∧ decide (wl (kn x.kind) < wm (kn x.kind)) = false ∧ (x.kind == 7) = false) ∨ (wk (kn x.kind) = false ∧ wv (kn x.kind) = false ∧ wu (kn x.kind) = true ∧ decide (wl (kn x.kind) < wm (kn x.kind)) = false ∧ (x.kind == 7) = false) ∨ (wk (kn x.kind) = false ∧ wv (kn x.kind) = false ∧ wu (kn x.kind) = false ∧ decide (wl (kn x.kind) < wm (kn x.kind)) = true ∧ (x.kind == 7) = true)) := by
  have h0 := (fit_len h).1
  rcases kn_is x.kind with ⟨_, e⟩ | ⟨h1, _⟩
  · generalize kn x.kind = n at h0 e
    rw [e]
    have h9 : n = 0 ∨ n = 1 ∨ n = 2 ∨ n = 3 ∨ n = 4 ∨ n = 5 ∨ n = 6 ∨ n = 7 ∨ n = 8 ∨ n = 9 := by omega
    rcases h9 with rfl | rfl | rfl | rfl | rfl | rfl | rfl | rfl | rfl | rfl <;> decide
  · omega
set_option maxRecDepth 100000 in
set_option maxHeartbeats 16000000 in
theorem refPack_any (v : Value) (l : List SAct) (w : World) (hE : DocsAt w.heap.size w v l) (hm : l.length ≤ 1073741824) : Calls Try.prog 11 #[v] w (PackRet l w) := by
  obtain ⟨i0, hi, hz0, hz1, hz2⟩ := info_parts Try.infoU8
  obtain ⟨a, c, rfl, hc⟩ := hE.slice
  by_cases hbig : 65536 < l.length
  · have h1 : (65536 : Int) < l.length := by omega
    have HE : Hid (packE l = 9) := by unfold Hid packE; rw [if_pos hbig]
    clear hE hm hc hbig
    go_enter Try.func11, Try.ntmps11
    go_wp2
    go_ret2
    refine ⟨.slice none 0 0, by rw [HE.out]; try rfl, ?_, Below.refl _ _⟩
    unfold packS
    rw [HE.out, if_neg (by decide)]
    exact BytesAt.nil _ _
  · have h1 : (l.length : Int) ≤ 65536 := by omega
    have HL : Hid (l.length ≤ 65536) := by unfold Hid; omega
    have HE := Lib.hid hE
    have HNW := Lib.hid (refNumO l.length 4 (by omega) (by omega) rfl w)
    clear hE hm hbig
    go_enter Try.func11, Try.ntmps11
    go_wp2_with (go_at_call 27; (with_reducible refine HNW.out.mono ?_); rintro e w1 ⟨u, rfl, hu, hb⟩; have HST : Hid (RAt w u (leI 4 l.length) w1) := ⟨hu, hb⟩; clear hu hb)
    go_loopw [4, 5] (fun v i wr => ∃ j : Nat, j ≤ l.length ∧ i = .int .i64 j ∧ RAt w v (leI 4 l.length ++ (l.take j).flatMap actS) wr ∧ ∀ i, i < j → rightA (l[i]?.getD default) = true) (fun _ i _ => l.length - (intOf i).toNat)
    case atStart => exact ⟨0, Nat.zero_le _, rfl, by simpa using HST.out, fun i hi => absurd hi (by omega)⟩
    case round =>
      obtain ⟨j, hj, rfl, hM, hR⟩ := hrel
      have HR := Lib.hid hR
      by_cases hlt : j < l.length
      · obtain ⟨g, off, rfl, hg, he⟩ := HE.out.get hlt
        have j1 : (j : Int) < l.length := by omega
        have HFT := Lib.hid (actsTake l j hlt)
        have HLT := Lib.hid hlt
        have hrl : ((l.take j).flatMap actS).length ≤ 9300000000 := by
          have h9 := acts_len (l.take j) (fun x hx => by
            obtain ⟨i, hi, rfl⟩ := List.mem_iff_getElem.1 hx
            rw [List.length_take] at hi
            have := hR i (by omega)
            rw [List.getElem?_eq_getElem (by omega)] at this
            rw [List.getElem_take]
            exact this)
          rw [List.length_take] at h9
          have := HL.out
          omega
        have HRL : Hid ((leI 4 l.length ++ (l.take j).flatMap actS).length ≤ 9400000000) := by
          unfold Hid
          rw [List.length_append, leI_len]
          show 4 + _ ≤ _
          omega
        obtain ⟨x, hx⟩ : ∃ x, (l[j]?.getD default) = x := ⟨_, rfl⟩
        rw [hx] at he HFT
        have HX := Lib.hid hx
        obtain ⟨a3, c3, ⟨e0', e1', e2', e3', e4'⟩, k3⟩ := he
        have e0 := (hM.2.cell (p := ⟨g, _, none⟩) hg).trans e0'
        have e1 := (hM.2.cell (p := ⟨g, _, none⟩) hg).trans e1'
        have e2 := (hM.2.cell (p := ⟨g, _, none⟩) hg).trans e2'
        have e3 := (hM.2.cell (p := ⟨g, _, none⟩) hg).trans e3'
        have e4 := (hM.2.cell (p := ⟨g, _, none⟩) hg).trans e4'
        clear e0' e1' e2' e3' e4'
        obtain ⟨w6, hw6⟩ : ∃ w6, wr.alloc (.cells #[.int .i64 x.kind, .string (strB x.key), .string (strB x.val), .int .i64 x.num, .slice a3 x.nums.length c3] 38) = w6 := ⟨_, rfl⟩
        have hb6 : Below wr.heap.size wr w6 := by rw [← hw6]; exact (Below.refl _ _).alloc (Nat.le_refl _) _
        have hg6 : w6.heap[wr.heap.size]? = some (.cells #[.int .i64 x.kind, .string (strB x.key), .string (strB x.val), .int .i64 x.num, .slice a3 x.nums.length c3] 38 (0, 0)) := by rw [← hw6]; exact heap_alloc_new _ _
        have HZ0 : Hid (wr.heap.size ≠ 0) := by have := hM.2.size; unfold Hid; omega
        have HR6 := Lib.hid (hM.behind hb6)
        have HG6 := Lib.hid hg6
        have HW6 := Lib.hid hw6
        have HN3 := Lib.hid k3
        have HRT := Lib.hid (refRight20_any x a3 c3 w6)
        generalize hrow : leI 4 l.length ++ (l.take j).flatMap actS = row at HR6 HRL
        have HROW : Hid (leI 4 l.length ++ (l.take (j + 1)).flatMap actS = row ++ actS x) := by
          unfold Hid
          rw [HFT.out, ← List.append_assoc, hrow]
        have c0 : w6.cell? ⟨wr.heap.size, 0, none⟩ = some (.int .i64 x.kind) := blk_cell hg6 0
        have c1 : w6.cell? ⟨wr.heap.size, 1, none⟩ = some (.string (strB x.key)) := blk_cell hg6 1
        have c2 : w6.cell? ⟨wr.heap.size, 2, none⟩ = some (.string (strB x.val)) := blk_cell hg6 2
        have c3' : w6.cell? ⟨wr.heap.size, 3, none⟩ = some (.int .i64 x.num) := blk_cell hg6 3
        have c4 : w6.cell? ⟨wr.heap.size, 4, none⟩ = some (.slice a3 x.nums.length c3) := blk_cell hg6 4
        clear hR hlt hg hx k3 hb6 hg6 hw6 hrl hM hj hrow HFT
        go_upto_region 8 with (fail)
        change Code.wp _ _ _ _ (wr.alloc (.cells #[.int .i64 x.kind, .string (strB x.key), .string (strB x.val), .int .i64 x.num, .slice a3 x.nums.length c3] 38))
        rw [HW6.out]
        clear HW6 e0 e1 e2 e3 e4
        cases hrx : rightA x with
        | false =>
          rw [hrx] at HRT
          have HP : Hid (packE l = 17) := by
            unfold Hid packE
            rw [if_neg (by have := HL.out; omega), if_neg]
            intro h9
            rw [List.all_eq_true] at h9
            have h7 := HX.out
            rw [List.getElem?_eq_getElem HLT.out] at h7
            have h6 : l[j]'HLT.out = x := h7
            have h8 : rightA x = true := by
              rw [← h6]
              exact h9 _ (List.getElem_mem HLT.out)
            rw [hrx] at h8
            cases h8
          clear hrx
          go_wp2_with (go_at_call 13; (with_reducible refine HRT.out.mono ?_); rintro e wq ⟨rfl, hb⟩; have HBQ := Lib.hid (HR6.out.2.trans (hb.mono HR6.out.2.size)); clear hb)
          go_ret2
          refine ⟨.slice none 0 0, by rw [HP.out]; try rfl, ?_, HBQ.out⟩
          unfold packS
          rw [HP.out, if_neg (by decide)]
          exact BytesAt.nil _ _
        | true =>
          rw [hrx] at HRT
          have HRX := Lib.hid hrx
          obtain ⟨⟨kd0, kd1⟩, hcl⟩ := act_kinds hrx
          obtain ⟨_, l1, l2, l3⟩ := fit_len hrx
          have HKD : Hid (0 ≤ x.kind ∧ x.kind < 256) := ⟨kd0, kd1⟩
          have HLN : Hid (x.key.length ≤ 65535 ∧ x.val.length ≤ 65535 ∧ x.nums.length ≤ 100) := ⟨l1, l2, l3⟩
          have HT1 := Lib.hid (fun W => refTextB x.key l1 W)
          have HT2 := Lib.hid (fun W => refTextB x.val l2 W)
          have HNU := Lib.hid (fun W => refNumW x.num W)
          have HH := Lib.hid (fun W => has_any x.kind W)
          have uk : IntKind.u8.wrap x.kind = x.kind := wrapU8 kd0 kd1
          have un : IntKind.u64.wrap x.num = U (BitVec.ofInt 64 x.num) := wrapU64_any _
          have ul : IntKind.u8.wrap (x.nums.length : Int) = x.nums.length := wrapU8 (by omega) (by omega)
          clear hrx kd0 kd1 l1 l2 l3
          rcases hcl with ⟨f1, f2, f3, f4, kq⟩ | ⟨f1, f2, f3, f4, kq⟩ | ⟨f1, f2, f3, f4, kq⟩ | ⟨f1, f2, f3, f4, kq⟩ | ⟨f1, f2, f3, f4, kq⟩
          · rw [f1, f2, f3] at HH
            have HACT : Hid (actS x = actB true false false false x) := by unfold Hid actS; rw [f1, f2, f3, f4]
            clear f1 f2 f3 f4
            go_upto_region 11 with (first
              | (go_at_call 13; (with_reducible refine HRT.out.mono ?_); rintro e w7 ⟨rfl, hb⟩; have HR7 := Lib.hid (HR6.out.behind hb); have hg7 := (hb.block _ (blk_lt HG6.out)).trans HG6.out; have HG7 := Lib.hid hg7; clear c0 c1 c2 c3' c4; have c0 : w7.cell? ⟨wr.heap.size, 0, none⟩ = some (.int .i64 x.kind) := blk_cell hg7 0; clear hb hg7)
              | (go_at_call 28; (with_reducible refine (HH.out _).mono ?_); rintro e w5 ⟨rfl, hb⟩; have HR5 := Lib.hid (HR7.out.behind hb); have HG5 := Lib.hid ((hb.block _ (blk_lt HG7.out)).trans HG7.out); clear c0 hb))
            obtain ⟨w8, hw8⟩ : ∃ w8, w5.alloc (.cells #[.bool true, .bool false, .bool false] 65) = w8 := ⟨_, rfl⟩
            change Code.wp _ _ _ _ (w5.alloc (.cells #[.bool true, .bool false, .bool false] 65))
            rw [hw8]
            have hb8 : Below w5.heap.size w5 w8 := by rw [← hw8]; exact (Below.refl _ _).alloc (Nat.le_refl _) _
            have hg8 : w8.heap[w5.heap.size]? = some (.cells #[.bool true, .bool false, .bool false] 65 (0, 0)) := by rw [← hw8]; exact heap_alloc_new _ _
            have hga := (hb8.block _ (blk_lt HG5.out)).trans HG5.out
            have HR8 := Lib.hid (HR5.out.behind hb8)
            have HZ5 : Hid (w5.heap.size ≠ 0) := by have := blk_lt HG5.out; unfold Hid; omega
            have HS8 : Hid (∀ W, WStay 0 w8 W → (W.cell? ⟨wr.heap.size, 0, none⟩ = some (.int .i64 x.kind) ∧ W.cell? ⟨wr.heap.size, 1, none⟩ = some (.string (strB x.key)) ∧ W.cell? ⟨wr.heap.size, 2, none⟩ = some (.string (strB x.val)) ∧ W.cell? ⟨wr.heap.size, 3, none⟩ = some (.int .i64 x.num) ∧ W.cell? ⟨wr.heap.size, 4, none⟩ = some (.slice a3 x.nums.length c3)) ∧ (W.cell? ⟨w5.heap.size, 0, none⟩ = some (.bool true) ∧ W.cell? ⟨w5.heap.size, 1, none⟩ = some (.bool false) ∧ W.cell? ⟨w5.heap.size, 2, none⟩ = some (.bool false))) := fun W hs => by
              have h1 := hs.blk hga HZ0.out (by decide)
              have h2 := hs.blk hg8 HZ5.out (by decide)
              exact ⟨⟨blk_cell h1 0, blk_cell h1 1, blk_cell h1 2, blk_cell h1 3, blk_cell h1 4⟩, ⟨blk_cell h2 0, blk_cell h2 1, blk_cell h2 2⟩⟩
            obtain ⟨⟨q0, q1, q2, q3, q4⟩, ⟨z0, z1, z2⟩⟩ := HS8.out _ (WStay.refl _ _)
            have HA8 : Hid (WStay 0 w8 w8) := WStay.refl _ _
            clear hw8 hb8 hg8 hga
            go_wp2_with (first
              | (at_builtin; (refine wpList_append_bytes rfl (.tmp 40) (.tmp 43) rfl rfl w.heap.size i0 hi hz0 hz1 hz2 _ rfl _ HRb10.out.1 _ rfl _ _ HUb10.out (by have h7 := HRL.out; have h8 := HLN.out; first | (simp only [leI_len]; omega) | (simp only [txt_len]; omega) | (simp only [List.length_append, leI_len]; omega) | (simp only [List.length_append, leI_len, txt_len]; omega)) HRb10.out.2.size ?_); intro v10 w10 n10 hn hown hg _; have HR10 := Lib.hid (RAt.app HRb10.out hn.out hown hg); have HA10 := Lib.hid (HAb10.out.trans (HRb10.out.stay hg)); clear q0 q1 q2 q3 q4 z0 z1 z2; obtain ⟨⟨q0, q1, q2, q3, q4⟩, ⟨z0, z1, z2⟩⟩ := HS8.out _ HA10.out; clear hn hown hg)
              | (go_at_call 29; (with_reducible refine (HT1.out _).mono ?_); rintro e wc10 ⟨u10, rfl, hu, hb⟩; have HUb10 := Lib.hid hu; have HRb10 := Lib.hid (HR9.out.behind hb); have HAb10 := Lib.hid (HA9.out.trans (WStay.of_below hb)); clear q0 q1 q2 q3 q4 z0 z1 z2; obtain ⟨⟨q0, q1, q2, q3, q4⟩, ⟨z0, z1, z2⟩⟩ := HS8.out _ HAb10.out; clear hu hb)
              | (at_builtin; (have hb9 := (Below.refl w8.heap.size w8).alloc (Nat.le_refl _) (.cells #[.int .u8 x.kind] 5)); (have HRb9 := Lib.hid (HR8.out.behind hb9)); (have HAb9 := Lib.hid (HA8.out.trans (WStay.of_below hb9))); (have HUb9 := Lib.hid (one_bytes (d := x.kind) w8 HKD.out.1 HKD.out.2)); (refine wpList_append_bytes rfl (.tmp 32) (.tmp 36) rfl rfl w.heap.size i0 hi hz0 hz1 hz2 _ rfl _ HRb9.out.1 _ rfl _ _ HUb9.out (by have h7 := HRL.out; have h8 := HLN.out; first | (simp only [leI_len]; omega) | (simp only [txt_len]; omega) | (simp only [List.length_append, leI_len]; omega) | (simp only [List.length_append, leI_len, txt_len]; omega)) HRb9.out.2.size ?_); intro v9 w9 n9 hn hown hg _; have HR9 := Lib.hid (RAt.app HRb9.out hn.out hown hg); have HA9 := Lib.hid (HAb9.out.trans (HRb9.out.stay hg)); clear q0 q1 q2 q3 q4 z0 z1 z2; obtain ⟨⟨q0, q1, q2, q3, q4⟩, ⟨z0, z1, z2⟩⟩ := HS8.out _ HA9.out; clear hn hown hg hb9))
            clear q0 q1 q2 q3 q4 z0 z1 z2
            go_loopw [4, 8] (fun v i wq => ∃ m : Nat, m ≤ x.nums.length ∧ i = .int .i64 m ∧ RAt w v (((row ++ leI 1 x.kind) ++ txt x.key) ++ (x.nums.take m).flatMap (leI 8)) wq ∧ WStay 0 w8 wq) (fun _ i _ => x.nums.length - (intOf i).toNat)
            case atStart => exact ⟨0, Nat.zero_le _, rfl, by simpa using HR10.out, HA10.out⟩
            case round =>
              obtain ⟨m, hm, rfl, hM, hS⟩ := hrel
              by_cases hlt : m < x.nums.length
              · obtain ⟨g2, off2, rfl, hg2, hy⟩ := (HN3.out.below hM.2).get hlt
                have m1 : (m : Int) < x.nums.length := by omega
                have m2 : (x.nums.length : Int) ≤ 100 := by have := HLN.out; omega
                have HFL := Lib.hid (flat_take x.nums m hlt)
                have HLM := Lib.hid hlt
                generalize x.nums[m]?.getD 0 = y at hy HFL
                have uy : IntKind.u64.wrap y = U (BitVec.ofInt 64 y) := wrapU64_any _
                have HNY := Lib.hid (fun W => refNumW y W)
                have HMJ := Lib.hid hM
                have HSJ := Lib.hid hS
                obtain ⟨⟨_, _, _, _, q4⟩, _⟩ := HS8.out _ hS
                clear hM hS hlt hg2 hm
                go_wp2_with (first
                  | (go_at_call 27; (with_reducible refine (HNY.out _).mono ?_); rintro e wy ⟨uy9, rfl, hu, hb⟩; have HUY := Lib.hid hu; have HRY := Lib.hid (HMJ.out.behind hb); have HSY := Lib.hid (HSJ.out.trans (WStay.of_below hb)); clear q4 hy hu hb)
                  | (at_builtin; (refine wpList_append_bytes rfl (.tmp 77) (.tmp 84) rfl rfl w.heap.size i0 hi hz0 hz1 hz2 _ rfl _ HRY.out.1 _ rfl _ _ HUY.out (by have h7 := HRL.out; have h8 := HLN.out; first | (simp only [List.length_append, leI_len, flat_len, List.length_take]; omega) | (simp only [List.length_append, leI_len, txt_len, flat_len, List.length_take]; omega)) HRY.out.2.size ?_); intro v9 wz n9 hn hown hg _; have HRZ := Lib.hid (RAt.app HRY.out hn.out hown hg); have HSZ := Lib.hid (HSY.out.trans (HRY.out.stay hg)); clear hn hown hg))
                go_roundw
                case rel => exact ⟨m + 1, HLM.out, by go_num, by rw [HFL.out, ← List.append_assoc]; exact HRZ.out, HSZ.out⟩
                case measure => have := HLM.out; simp [intOf]; omega
              · obtain rfl : m = x.nums.length := by omega
                have HMJ := Lib.hid hM
                obtain ⟨⟨_, _, _, _, q4⟩, _⟩ := HS8.out _ hS
                clear hM hS hm
                go_wp2
                go_roundw
                case rel => exact ⟨j + 1, HLT.out, by go_num, by
                  have h9 := HMJ.out
                  rw [List.take_length] at h9
                  rw [HROW.out, HACT.out]
                  simpa [actB, List.append_assoc] using h9, fun i hi => by
                  by_cases h9 : i < j
                  · exact HR.out i h9
                  · obtain rfl : i = j := by omega
                    rw [HX.out]; exact HRX.out⟩
                case measure => have := HLT.out; simp [intOf]; omega
          · rw [f1, f2, f3] at HH
            have HACT : Hid (actS x = actB true true true false x) := by unfold Hid actS; rw [f1, f2, f3, f4]
            clear f1 f2 f3 f4
            go_upto_region 11 with (first
              | (go_at_call 13; (with_reducible refine HRT.out.mono ?_); rintro e w7 ⟨rfl, hb⟩; have HR7 := Lib.hid (HR6.out.behind hb); have hg7 := (hb.block _ (blk_lt HG6.out)).trans HG6.out; have HG7 := Lib.hid hg7; clear c0 c1 c2 c3' c4; have c0 : w7.cell? ⟨wr.heap.size, 0, none⟩ = some (.int .i64 x.kind) := blk_cell hg7 0; clear hb hg7)
              | (go_at_call 28; (with_reducible refine (HH.out _).mono ?_); rintro e w5 ⟨rfl, hb⟩; have HR5 := Lib.hid (HR7.out.behind hb); have HG5 := Lib.hid ((hb.block _ (blk_lt HG7.out)).trans HG7.out); clear c0 hb))
            obtain ⟨w8, hw8⟩ : ∃ w8, w5.alloc (.cells #[.bool true, .bool true, .bool true] 65) = w8 := ⟨_, rfl⟩
            change Code.wp _ _ _ _ (w5.alloc (.cells #[.bool true, .bool true, .bool true] 65))
            rw [hw8]
            have hb8 : Below w5.heap.size w5 w8 := by rw [← hw8]; exact (Below.refl _ _).alloc (Nat.le_refl _) _
            have hg8 : w8.heap[w5.heap.size]? = some (.cells #[.bool true, .bool true, .bool true] 65 (0, 0)) := by rw [← hw8]; exact heap_alloc_new _ _
            have hga := (hb8.block _ (blk_lt HG5.out)).trans HG5.out
            have HR8 := Lib.hid (HR5.out.behind hb8)
            have HZ5 : Hid (w5.heap.size ≠ 0) := by have := blk_lt HG5.out; unfold Hid; omega
            have HS8 : Hid (∀ W, WStay 0 w8 W → (W.cell? ⟨wr.heap.size, 0, none⟩ = some (.int .i64 x.kind) ∧ W.cell? ⟨wr.heap.size, 1, none⟩ = some (.string (strB x.key)) ∧ W.cell? ⟨wr.heap.size, 2, none⟩ = some (.string (strB x.val)) ∧ W.cell? ⟨wr.heap.size, 3, none⟩ = some (.int .i64 x.num) ∧ W.cell? ⟨wr.heap.size, 4, none⟩ = some (.slice a3 x.nums.length c3)) ∧ (W.cell? ⟨w5.heap.size, 0, none⟩ = some (.bool true) ∧ W.cell? ⟨w5.heap.size, 1, none⟩ = some (.bool true) ∧ W.cell? ⟨w5.heap.size, 2, none⟩ = some (.bool true))) := fun W hs => by
              have h1 := hs.blk hga HZ0.out (by decide)
              have h2 := hs.blk hg8 HZ5.out (by decide)
              exact ⟨⟨blk_cell h1 0, blk_cell h1 1, blk_cell h1 2, blk_cell h1 3, blk_cell h1 4⟩, ⟨blk_cell h2 0, blk_cell h2 1, blk_cell h2 2⟩⟩
            obtain ⟨⟨q0, q1, q2, q3, q4⟩, ⟨z0, z1, z2⟩⟩ := HS8.out _ (WStay.refl _ _)
            have HA8 : Hid (WStay 0 w8 w8) := WStay.refl _ _
            clear hw8 hb8 hg8 hga
            go_wp2_with (first
              | (at_builtin; (refine wpList_append_bytes rfl (.tmp 54) (.tmp 58) rfl rfl w.heap.size i0 hi hz0 hz1 hz2 _ rfl _ HRb12.out.1 _ rfl _ _ HUb12.out (by have h7 := HRL.out; have h8 := HLN.out; first | (simp only [leI_len]; omega) | (simp only [txt_len]; omega) | (simp only [List.length_append, leI_len]; omega) | (simp only [List.length_append, leI_len, txt_len]; omega)) HRb12.out.2.size ?_); intro v12 w12 n12 hn hown hg _; have HR12 := Lib.hid (RAt.app HRb12.out hn.out hown hg); have HA12 := Lib.hid (HAb12.out.trans (HRb12.out.stay hg)); clear q0 q1 q2 q3 q4 z0 z1 z2; obtain ⟨⟨q0, q1, q2, q3, q4⟩, ⟨z0, z1, z2⟩⟩ := HS8.out _ HA12.out; clear hn hown hg)
              | (go_at_call 27; (with_reducible refine (HNU.out _).mono ?_); rintro e wc12 ⟨u12, rfl, hu, hb⟩; have HUb12 := Lib.hid hu; have HRb12 := Lib.hid (HR11.out.behind hb); have HAb12 := Lib.hid (HA11.out.trans (WStay.of_below hb)); clear q0 q1 q2 q3 q4 z0 z1 z2; obtain ⟨⟨q0, q1, q2, q3, q4⟩, ⟨z0, z1, z2⟩⟩ := HS8.out _ HAb12.out; clear hu hb)
              | (at_builtin; (refine wpList_append_bytes rfl (.tmp 47) (.tmp 50) rfl rfl w.heap.size i0 hi hz0 hz1 hz2 _ rfl _ HRb11.out.1 _ rfl _ _ HUb11.out (by have h7 := HRL.out; have h8 := HLN.out; first | (simp only [leI_len]; omega) | (simp only [txt_len]; omega) | (simp only [List.length_append, leI_len]; omega) | (simp only [List.length_append, leI_len, txt_len]; omega)) HRb11.out.2.size ?_); intro v11 w11 n11 hn hown hg _; have HR11 := Lib.hid (RAt.app HRb11.out hn.out hown hg); have HA11 := Lib.hid (HAb11.out.trans (HRb11.out.stay hg)); clear q0 q1 q2 q3 q4 z0 z1 z2; obtain ⟨⟨q0, q1, q2, q3, q4⟩, ⟨z0, z1, z2⟩⟩ := HS8.out _ HA11.out; clear hn hown hg)
              | (go_at_call 29; (with_reducible refine (HT2.out _).mono ?_); rintro e wc11 ⟨u11, rfl, hu, hb⟩; have HUb11 := Lib.hid hu; have HRb11 := Lib.hid (HR10.out.behind hb); have HAb11 := Lib.hid (HA10.out.trans (WStay.of_below hb)); clear q0 q1 q2 q3 q4 z0 z1 z2; obtain ⟨⟨q0, q1, q2, q3, q4⟩, ⟨z0, z1, z2⟩⟩ := HS8.out _ HAb11.out; clear hu hb)
              | (at_builtin; (refine wpList_append_bytes rfl (.tmp 40) (.tmp 43) rfl rfl w.heap.size i0 hi hz0 hz1 hz2 _ rfl _ HRb10.out.1 _ rfl _ _ HUb10.out (by have h7 := HRL.out; have h8 := HLN.out; first | (simp only [leI_len]; omega) | (simp only [txt_len]; omega) | (simp only [List.length_append, leI_len]; omega) | (simp only [List.length_append, leI_len, txt_len]; omega)) HRb10.out.2.size ?_); intro v10 w10 n10 hn hown hg _; have HR10 := Lib.hid (RAt.app HRb10.out hn.out hown hg); have HA10 := Lib.hid (HAb10.out.trans (HRb10.out.stay hg)); clear q0 q1 q2 q3 q4 z0 z1 z2; obtain ⟨⟨q0, q1, q2, q3, q4⟩, ⟨z0, z1, z2⟩⟩ := HS8.out _ HA10.out; clear hn hown hg)
              | (go_at_call 29; (with_reducible refine (HT1.out _).mono ?_); rintro e wc10 ⟨u10, rfl, hu, hb⟩; have HUb10 := Lib.hid hu; have HRb10 := Lib.hid (HR9.out.behind hb); have HAb10 := Lib.hid (HA9.out.trans (WStay.of_below hb)); clear q0 q1 q2 q3 q4 z0 z1 z2; obtain ⟨⟨q0, q1, q2, q3, q4⟩, ⟨z0, z1, z2⟩⟩ := HS8.out _ HAb10.out; clear hu hb)
              | (at_builtin; (have hb9 := (Below.refl w8.heap.size w8).alloc (Nat.le_refl _) (.cells #[.int .u8 x.kind] 5)); (have HRb9 := Lib.hid (HR8.out.behind hb9)); (have HAb9 := Lib.hid (HA8.out.trans (WStay.of_below hb9))); (have HUb9 := Lib.hid (one_bytes (d := x.kind) w8 HKD.out.1 HKD.out.2)); (refine wpList_append_bytes rfl (.tmp 32) (.tmp 36) rfl rfl w.heap.size i0 hi hz0 hz1 hz2 _ rfl _ HRb9.out.1 _ rfl _ _ HUb9.out (by have h7 := HRL.out; have h8 := HLN.out; first | (simp only [leI_len]; omega) | (simp only [txt_len]; omega) | (simp only [List.length_append, leI_len]; omega) | (simp only [List.length_append, leI_len, txt_len]; omega)) HRb9.out.2.size ?_); intro v9 w9 n9 hn hown hg _; have HR9 := Lib.hid (RAt.app HRb9.out hn.out hown hg); have HA9 := Lib.hid (HAb9.out.trans (HRb9.out.stay hg)); clear q0 q1 q2 q3 q4 z0 z1 z2; obtain ⟨⟨q0, q1, q2, q3, q4⟩, ⟨z0, z1, z2⟩⟩ := HS8.out _ HA9.out; clear hn hown hg hb9))
            clear q0 q1 q2 q3 q4 z0 z1 z2
            go_loopw [4, 8] (fun v i wq => ∃ m : Nat, m ≤ x.nums.length ∧ i = .int .i64 m ∧ RAt w v (((((row ++ leI 1 x.kind) ++ txt x.key) ++ txt x.val) ++ leI 8 x.num) ++ (x.nums.take m).flatMap (leI 8)) wq ∧ WStay 0 w8 wq) (fun _ i _ => x.nums.length - (intOf i).toNat)
            case atStart => exact ⟨0, Nat.zero_le _, rfl, by simpa using HR12.out, HA12.out⟩
            case round =>
              obtain ⟨m, hm, rfl, hM, hS⟩ := hrel
              by_cases hlt : m < x.nums.length
              · obtain ⟨g2, off2, rfl, hg2, hy⟩ := (HN3.out.below hM.2).get hlt
                have m1 : (m : Int) < x.nums.length := by omega
                have m2 : (x.nums.length : Int) ≤ 100 := by have := HLN.out; omega
                have HFL := Lib.hid (flat_take x.nums m hlt)
                have HLM := Lib.hid hlt
                generalize x.nums[m]?.getD 0 = y at hy HFL
                have uy : IntKind.u64.wrap y = U (BitVec.ofInt 64 y) := wrapU64_any _
                have HNY := Lib.hid (fun W => refNumW y W)
                have HMJ := Lib.hid hM
                have HSJ := Lib.hid hS
                obtain ⟨⟨_, _, _, _, q4⟩, _⟩ := HS8.out _ hS
                clear hM hS hlt hg2 hm
                go_wp2_with (first
                  | (go_at_call 27; (with_reducible refine (HNY.out _).mono ?_); rintro e wy ⟨uy9, rfl, hu, hb⟩; have HUY := Lib.hid hu; have HRY := Lib.hid (HMJ.out.behind hb); have HSY := Lib.hid (HSJ.out.trans (WStay.of_below hb)); clear q4 hy hu hb)
                  | (at_builtin; (refine wpList_append_bytes rfl (.tmp 77) (.tmp 84) rfl rfl w.heap.size i0 hi hz0 hz1 hz2 _ rfl _ HRY.out.1 _ rfl _ _ HUY.out (by have h7 := HRL.out; have h8 := HLN.out; first | (simp only [List.length_append, leI_len, flat_len, List.length_take]; omega) | (simp only [List.length_append, leI_len, txt_len, flat_len, List.length_take]; omega)) HRY.out.2.size ?_); intro v9 wz n9 hn hown hg _; have HRZ := Lib.hid (RAt.app HRY.out hn.out hown hg); have HSZ := Lib.hid (HSY.out.trans (HRY.out.stay hg)); clear hn hown hg))
                go_roundw
                case rel => exact ⟨m + 1, HLM.out, by go_num, by rw [HFL.out, ← List.append_assoc]; exact HRZ.out, HSZ.out⟩
                case measure => have := HLM.out; simp [intOf]; omega
              · obtain rfl : m = x.nums.length := by omega
                have HMJ := Lib.hid hM
                obtain ⟨⟨_, _, _, _, q4⟩, _⟩ := HS8.out _ hS
                clear hM hS hm
                go_wp2
                go_roundw
                case rel => exact ⟨j + 1, HLT.out, by go_num, by
                  have h9 := HMJ.out
                  rw [List.take_length] at h9
                  rw [HROW.out, HACT.out]
                  simpa [actB, List.append_assoc] using h9, fun i hi => by
                  by_cases h9 : i < j
                  · exact HR.out i h9
                  · obtain rfl : i = j := by omega
                    rw [HX.out]; exact HRX.out⟩
                case measure => have := HLT.out; simp [intOf]; omega
          · rw [f1, f2, f3] at HH
            have HACT : Hid (actS x = actB false false false false x) := by unfold Hid actS; rw [f1, f2, f3, f4]
            clear f1 f2 f3 f4
            go_upto_region 11 with (first
              | (go_at_call 13; (with_reducible refine HRT.out.mono ?_); rintro e w7 ⟨rfl, hb⟩; have HR7 := Lib.hid (HR6.out.behind hb); have hg7 := (hb.block _ (blk_lt HG6.out)).trans HG6.out; have HG7 := Lib.hid hg7; clear c0 c1 c2 c3' c4; have c0 : w7.cell? ⟨wr.heap.size, 0, none⟩ = some (.int .i64 x.kind) := blk_cell hg7 0; clear hb hg7)
              | (go_at_call 28; (with_reducible refine (HH.out _).mono ?_); rintro e w5 ⟨rfl, hb⟩; have HR5 := Lib.hid (HR7.out.behind hb); have HG5 := Lib.hid ((hb.block _ (blk_lt HG7.out)).trans HG7.out); clear c0 hb))
            obtain ⟨w8, hw8⟩ : ∃ w8, w5.alloc (.cells #[.bool false, .bool false, .bool false] 65) = w8 := ⟨_, rfl⟩
            change Code.wp _ _ _ _ (w5.alloc (.cells #[.bool false, .bool false, .bool false] 65))
            rw [hw8]
            have hb8 : Below w5.heap.size w5 w8 := by rw [← hw8]; exact (Below.refl _ _).alloc (Nat.le_refl _) _
            have hg8 : w8.heap[w5.heap.size]? = some (.cells #[.bool false, .bool false, .bool false] 65 (0, 0)) := by rw [← hw8]; exact heap_alloc_new _ _
            have hga := (hb8.block _ (blk_lt HG5.out)).trans HG5.out
            have HR8 := Lib.hid (HR5.out.behind hb8)
            have HZ5 : Hid (w5.heap.size ≠ 0) := by have := blk_lt HG5.out; unfold Hid; omega
            have HS8 : Hid (∀ W, WStay 0 w8 W → (W.cell? ⟨wr.heap.size, 0, none⟩ = some (.int .i64 x.kind) ∧ W.cell? ⟨wr.heap.size, 1, none⟩ = some (.string (strB x.key)) ∧ W.cell? ⟨wr.heap.size, 2, none⟩ = some (.string (strB x.val)) ∧ W.cell? ⟨wr.heap.size, 3, none⟩ = some (.int .i64 x.num) ∧ W.cell? ⟨wr.heap.size, 4, none⟩ = some (.slice a3 x.nums.length c3)) ∧ (W.cell? ⟨w5.heap.size, 0, none⟩ = some (.bool false) ∧ W.cell? ⟨w5.heap.size, 1, none⟩ = some (.bool false) ∧ W.cell? ⟨w5.heap.size, 2, none⟩ = some (.bool false))) := fun W hs => by
              have h1 := hs.blk hga HZ0.out (by decide)
              have h2 := hs.blk hg8 HZ5.out (by decide)
              exact ⟨⟨blk_cell h1 0, blk_cell h1 1, blk_cell h1 2, blk_cell h1 3, blk_cell h1 4⟩, ⟨blk_cell h2 0, blk_cell h2 1, blk_cell h2 2⟩⟩
            obtain ⟨⟨q0, q1, q2, q3, q4⟩, ⟨z0, z1, z2⟩⟩ := HS8.out _ (WStay.refl _ _)
            have HA8 : Hid (WStay 0 w8 w8) := WStay.refl _ _
            clear hw8 hb8 hg8 hga
            go_wp2_with (first
              | (at_builtin; (have hb9 := (Below.refl w8.heap.size w8).alloc (Nat.le_refl _) (.cells #[.int .u8 x.kind] 5)); (have HRb9 := Lib.hid (HR8.out.behind hb9)); (have HAb9 := Lib.hid (HA8.out.trans (WStay.of_below hb9))); (have HUb9 := Lib.hid (one_bytes (d := x.kind) w8 HKD.out.1 HKD.out.2)); (refine wpList_append_bytes rfl (.tmp 32) (.tmp 36) rfl rfl w.heap.size i0 hi hz0 hz1 hz2 _ rfl _ HRb9.out.1 _ rfl _ _ HUb9.out (by have h7 := HRL.out; have h8 := HLN.out; first | (simp only [leI_len]; omega) | (simp only [txt_len]; omega) | (simp only [List.length_append, leI_len]; omega) | (simp only [List.length_append, leI_len, txt_len]; omega)) HRb9.out.2.size ?_); intro v9 w9 n9 hn hown hg _; have HR9 := Lib.hid (RAt.app HRb9.out hn.out hown hg); have HA9 := Lib.hid (HAb9.out.trans (HRb9.out.stay hg)); clear q0 q1 q2 q3 q4 z0 z1 z2; obtain ⟨⟨q0, q1, q2, q3, q4⟩, ⟨z0, z1, z2⟩⟩ := HS8.out _ HA9.out; clear hn hown hg hb9))
            clear q0 q1 q2 q3 q4 z0 z1 z2
            go_loopw [4, 8] (fun v i wq => ∃ m : Nat, m ≤ x.nums.length ∧ i = .int .i64 m ∧ RAt w v ((row ++ leI 1 x.kind) ++ (x.nums.take m).flatMap (leI 8)) wq ∧ WStay 0 w8 wq) (fun _ i _ => x.nums.length - (intOf i).toNat)
            case atStart => exact ⟨0, Nat.zero_le _, rfl, by simpa using HR9.out, HA9.out⟩
            case round =>
              obtain ⟨m, hm, rfl, hM, hS⟩ := hrel
              by_cases hlt : m < x.nums.length
              · obtain ⟨g2, off2, rfl, hg2, hy⟩ := (HN3.out.below hM.2).get hlt
                have m1 : (m : Int) < x.nums.length := by omega
                have m2 : (x.nums.length : Int) ≤ 100 := by have := HLN.out; omega
                have HFL := Lib.hid (flat_take x.nums m hlt)
                have HLM := Lib.hid hlt
                generalize x.nums[m]?.getD 0 = y at hy HFL
                have uy : IntKind.u64.wrap y = U (BitVec.ofInt 64 y) := wrapU64_any _
                have HNY := Lib.hid (fun W => refNumW y W)
                have HMJ := Lib.hid hM
                have HSJ := Lib.hid hS
                obtain ⟨⟨_, _, _, _, q4⟩, _⟩ := HS8.out _ hS
                clear hM hS hlt hg2 hm
                go_wp2_with (first
                  | (go_at_call 27; (with_reducible refine (HNY.out _).mono ?_); rintro e wy ⟨uy9, rfl, hu, hb⟩; have HUY := Lib.hid hu; have HRY := Lib.hid (HMJ.out.behind hb); have HSY := Lib.hid (HSJ.out.trans (WStay.of_below hb)); clear q4 hy hu hb)
                  | (at_builtin; (refine wpList_append_bytes rfl (.tmp 77) (.tmp 84) rfl rfl w.heap.size i0 hi hz0 hz1 hz2 _ rfl _ HRY.out.1 _ rfl _ _ HUY.out (by have h7 := HRL.out; have h8 := HLN.out; first | (simp only [List.length_append, leI_len, flat_len, List.length_take]; omega) | (simp only [List.length_append, leI_len, txt_len, flat_len, List.length_take]; omega)) HRY.out.2.size ?_); intro v9 wz n9 hn hown hg _; have HRZ := Lib.hid (RAt.app HRY.out hn.out hown hg); have HSZ := Lib.hid (HSY.out.trans (HRY.out.stay hg)); clear hn hown hg))
                go_roundw
                case rel => exact ⟨m + 1, HLM.out, by go_num, by rw [HFL.out, ← List.append_assoc]; exact HRZ.out, HSZ.out⟩
                case measure => have := HLM.out; simp [intOf]; omega
              · obtain rfl : m = x.nums.length := by omega
                have HMJ := Lib.hid hM
                obtain ⟨⟨_, _, _, _, q4⟩, _⟩ := HS8.out _ hS
                clear hM hS hm
                go_wp2
                go_roundw
                case rel => exact ⟨j + 1, HLT.out, by go_num, by
                  have h9 := HMJ.out
                  rw [List.take_length] at h9
                  rw [HROW.out, HACT.out]
                  simpa [actB, List.append_assoc] using h9, fun i hi => by
                  by_cases h9 : i < j
                  · exact HR.out i h9
                  · obtain rfl : i = j := by omega
                    rw [HX.out]; exact HRX.out⟩
                case measure => have := HLT.out; simp [intOf]; omega
          · rw [f1, f2, f3] at HH
            have HACT : Hid (actS x = actB false false true false x) := by unfold Hid actS; rw [f1, f2, f3, f4]
            clear f1 f2 f3 f4
            go_upto_region 11 with (first
              | (go_at_call 13; (with_reducible refine HRT.out.mono ?_); rintro e w7 ⟨rfl, hb⟩; have HR7 := Lib.hid (HR6.out.behind hb); have hg7 := (hb.block _ (blk_lt HG6.out)).trans HG6.out; have HG7 := Lib.hid hg7; clear c0 c1 c2 c3' c4; have c0 : w7.cell? ⟨wr.heap.size, 0, none⟩ = some (.int .i64 x.kind) := blk_cell hg7 0; clear hb hg7)
              | (go_at_call 28; (with_reducible refine (HH.out _).mono ?_); rintro e w5 ⟨rfl, hb⟩; have HR5 := Lib.hid (HR7.out.behind hb); have HG5 := Lib.hid ((hb.block _ (blk_lt HG7.out)).trans HG7.out); clear c0 hb))
            obtain ⟨w8, hw8⟩ : ∃ w8, w5.alloc (.cells #[.bool false, .bool false, .bool true] 65) = w8 := ⟨_, rfl⟩
            change Code.wp _ _ _ _ (w5.alloc (.cells #[.bool false, .bool false, .bool true] 65))
            rw [hw8]
            have hb8 : Below w5.heap.size w5 w8 := by rw [← hw8]; exact (Below.refl _ _).alloc (Nat.le_refl _) _
            have hg8 : w8.heap[w5.heap.size]? = some (.cells #[.bool false, .bool false, .bool true] 65 (0, 0)) := by rw [← hw8]; exact heap_alloc_new _ _
            have hga := (hb8.block _ (blk_lt HG5.out)).trans HG5.out
            have HR8 := Lib.hid (HR5.out.behind hb8)
            have HZ5 : Hid (w5.heap.size ≠ 0) := by have := blk_lt HG5.out; unfold Hid; omega
            have HS8 : Hid (∀ W, WStay 0 w8 W → (W.cell? ⟨wr.heap.size, 0, none⟩ = some (.int .i64 x.kind) ∧ W.cell? ⟨wr.heap.size, 1, none⟩ = some (.string (strB x.key)) ∧ W.cell? ⟨wr.heap.size, 2, none⟩ = some (.string (strB x.val)) ∧ W.cell? ⟨wr.heap.size, 3, none⟩ = some (.int .i64 x.num) ∧ W.cell? ⟨wr.heap.size, 4, none⟩ = some (.slice a3 x.nums.length c3)) ∧ (W.cell? ⟨w5.heap.size, 0, none⟩ = some (.bool false) ∧ W.cell? ⟨w5.heap.size, 1, none⟩ = some (.bool false) ∧ W.cell? ⟨w5.heap.size, 2, none⟩ = some (.bool true))) := fun W hs => by
              have h1 := hs.blk hga HZ0.out (by decide)
              have h2 := hs.blk hg8 HZ5.out (by decide)
              exact ⟨⟨blk_cell h1 0, blk_cell h1 1, blk_cell h1 2, blk_cell h1 3, blk_cell h1 4⟩, ⟨blk_cell h2 0, blk_cell h2 1, blk_cell h2 2⟩⟩
            obtain ⟨⟨q0, q1, q2, q3, q4⟩, ⟨z0, z1, z2⟩⟩ := HS8.out _ (WStay.refl _ _)
            have HA8 : Hid (WStay 0 w8 w8) := WStay.refl _ _
            clear hw8 hb8 hg8 hga
            go_wp2_with (first
              | (at_builtin; (refine wpList_append_bytes rfl (.tmp 54) (.tmp 58) rfl rfl w.heap.size i0 hi hz0 hz1 hz2 _ rfl _ HRb10.out.1 _ rfl _ _ HUb10.out (by have h7 := HRL.out; have h8 := HLN.out; first | (simp only [leI_len]; omega) | (simp only [txt_len]; omega) | (simp only [List.length_append, leI_len]; omega) | (simp only [List.length_append, leI_len, txt_len]; omega)) HRb10.out.2.size ?_); intro v10 w10 n10 hn hown hg _; have HR10 := Lib.hid (RAt.app HRb10.out hn.out hown hg); have HA10 := Lib.hid (HAb10.out.trans (HRb10.out.stay hg)); clear q0 q1 q2 q3 q4 z0 z1 z2; obtain ⟨⟨q0, q1, q2, q3, q4⟩, ⟨z0, z1, z2⟩⟩ := HS8.out _ HA10.out; clear hn hown hg)
              | (go_at_call 27; (with_reducible refine (HNU.out _).mono ?_); rintro e wc10 ⟨u10, rfl, hu, hb⟩; have HUb10 := Lib.hid hu; have HRb10 := Lib.hid (HR9.out.behind hb); have HAb10 := Lib.hid (HA9.out.trans (WStay.of_below hb)); clear q0 q1 q2 q3 q4 z0 z1 z2; obtain ⟨⟨q0, q1, q2, q3, q4⟩, ⟨z0, z1, z2⟩⟩ := HS8.out _ HAb10.out; clear hu hb)
              | (at_builtin; (have hb9 := (Below.refl w8.heap.size w8).alloc (Nat.le_refl _) (.cells #[.int .u8 x.kind] 5)); (have HRb9 := Lib.hid (HR8.out.behind hb9)); (have HAb9 := Lib.hid (HA8.out.trans (WStay.of_below hb9))); (have HUb9 := Lib.hid (one_bytes (d := x.kind) w8 HKD.out.1 HKD.out.2)); (refine wpList_append_bytes rfl (.tmp 32) (.tmp 36) rfl rfl w.heap.size i0 hi hz0 hz1 hz2 _ rfl _ HRb9.out.1 _ rfl _ _ HUb9.out (by have h7 := HRL.out; have h8 := HLN.out; first | (simp only [leI_len]; omega) | (simp only [txt_len]; omega) | (simp only [List.length_append, leI_len]; omega) | (simp only [List.length_append, leI_len, txt_len]; omega)) HRb9.out.2.size ?_); intro v9 w9 n9 hn hown hg _; have HR9 := Lib.hid (RAt.app HRb9.out hn.out hown hg); have HA9 := Lib.hid (HAb9.out.trans (HRb9.out.stay hg)); clear q0 q1 q2 q3 q4 z0 z1 z2; obtain ⟨⟨q0, q1, q2, q3, q4⟩, ⟨z0, z1, z2⟩⟩ := HS8.out _ HA9.out; clear hn hown hg hb9))
            clear q0 q1 q2 q3 q4 z0 z1 z2
            go_loopw [4, 8] (fun v i wq => ∃ m : Nat, m ≤ x.nums.length ∧ i = .int .i64 m ∧ RAt w v (((row ++ leI 1 x.kind) ++ leI 8 x.num) ++ (x.nums.take m).flatMap (leI 8)) wq ∧ WStay 0 w8 wq) (fun _ i _ => x.nums.length - (intOf i).toNat)
            case atStart => exact ⟨0, Nat.zero_le _, rfl, by simpa using HR10.out, HA10.out⟩
            case round =>
              obtain ⟨m, hm, rfl, hM, hS⟩ := hrel
              by_cases hlt : m < x.nums.length
              · obtain ⟨g2, off2, rfl, hg2, hy⟩ := (HN3.out.below hM.2).get hlt
                have m1 : (m : Int) < x.nums.length := by omega
                have m2 : (x.nums.length : Int) ≤ 100 := by have := HLN.out; omega
                have HFL := Lib.hid (flat_take x.nums m hlt)
                have HLM := Lib.hid hlt
                generalize x.nums[m]?.getD 0 = y at hy HFL
                have uy : IntKind.u64.wrap y = U (BitVec.ofInt 64 y) := wrapU64_any _
                have HNY := Lib.hid (fun W => refNumW y W)
                have HMJ := Lib.hid hM
                have HSJ := Lib.hid hS
                obtain ⟨⟨_, _, _, _, q4⟩, _⟩ := HS8.out _ hS
                clear hM hS hlt hg2 hm
                go_wp2_with (first
                  | (go_at_call 27; (with_reducible refine (HNY.out _).mono ?_); rintro e wy ⟨uy9, rfl, hu, hb⟩; have HUY := Lib.hid hu; have HRY := Lib.hid (HMJ.out.behind hb); have HSY := Lib.hid (HSJ.out.trans (WStay.of_below hb)); clear q4 hy hu hb)
                  | (at_builtin; (refine wpList_append_bytes rfl (.tmp 77) (.tmp 84) rfl rfl w.heap.size i0 hi hz0 hz1 hz2 _ rfl _ HRY.out.1 _ rfl _ _ HUY.out (by have h7 := HRL.out; have h8 := HLN.out; first | (simp only [List.length_append, leI_len, flat_len, List.length_take]; omega) | (simp only [List.length_append, leI_len, txt_len, flat_len, List.length_take]; omega)) HRY.out.2.size ?_); intro v9 wz n9 hn hown hg _; have HRZ := Lib.hid (RAt.app HRY.out hn.out hown hg); have HSZ := Lib.hid (HSY.out.trans (HRY.out.stay hg)); clear hn hown hg))
                go_roundw
                case rel => exact ⟨m + 1, HLM.out, by go_num, by rw [HFL.out, ← List.append_assoc]; exact HRZ.out, HSZ.out⟩
                case measure => have := HLM.out; simp [intOf]; omega
              · obtain rfl : m = x.nums.length := by omega
                have HMJ := Lib.hid hM
                obtain ⟨⟨_, _, _, _, q4⟩, _⟩ := HS8.out _ hS
                clear hM hS hm
                go_wp2
                go_roundw
                case rel => exact ⟨j + 1, HLT.out, by go_num, by
                  have h9 := HMJ.out
                  rw [List.take_length] at h9
                  rw [HROW.out, HACT.out]
                  simpa [actB, List.append_assoc] using h9, fun i hi => by
                  by_cases h9 : i < j
                  · exact HR.out i h9
                  · obtain rfl : i = j := by omega
                    rw [HX.out]; exact HRX.out⟩
                case measure => have := HLT.out; simp [intOf]; omega
          · rw [f1, f2, f3] at HH
            have HACT : Hid (actS x = actB false false false true x) := by unfold Hid actS; rw [f1, f2, f3, f4]
            clear f1 f2 f3 f4
            go_upto_region 11 with (first
              | (go_at_call 13; (with_reducible refine HRT.out.mono ?_); rintro e w7 ⟨rfl, hb⟩; have HR7 := Lib.hid (HR6.out.behind hb); have hg7 := (hb.block _ (blk_lt HG6.out)).trans HG6.out; have HG7 := Lib.hid hg7; clear c0 c1 c2 c3' c4; have c0 : w7.cell? ⟨wr.heap.size, 0, none⟩ = some (.int .i64 x.kind) := blk_cell hg7 0; clear hb hg7)
              | (go_at_call 28; (with_reducible refine (HH.out _).mono ?_); rintro e w5 ⟨rfl, hb⟩; have HR5 := Lib.hid (HR7.out.behind hb); have HG5 := Lib.hid ((hb.block _ (blk_lt HG7.out)).trans HG7.out); clear c0 hb))
            obtain ⟨w8, hw8⟩ : ∃ w8, w5.alloc (.cells #[.bool false, .bool false, .bool false] 65) = w8 := ⟨_, rfl⟩
            change Code.wp _ _ _ _ (w5.alloc (.cells #[.bool false, .bool false, .bool false] 65))
            rw [hw8]
            have hb8 : Below w5.heap.size w5 w8 := by rw [← hw8]; exact (Below.refl _ _).alloc (Nat.le_refl _) _
            have hg8 : w8.heap[w5.heap.size]? = some (.cells #[.bool false, .bool false, .bool false] 65 (0, 0)) := by rw [← hw8]; exact heap_alloc_new _ _
            have hga := (hb8.block _ (blk_lt HG5.out)).trans HG5.out
            have HR8 := Lib.hid (HR5.out.behind hb8)
            have HZ5 : Hid (w5.heap.size ≠ 0) := by have := blk_lt HG5.out; unfold Hid; omega
            have HS8 : Hid (∀ W, WStay 0 w8 W → (W.cell? ⟨wr.heap.size, 0, none⟩ = some (.int .i64 x.kind) ∧ W.cell? ⟨wr.heap.size, 1, none⟩ = some (.string (strB x.key)) ∧ W.cell? ⟨wr.heap.size, 2, none⟩ = some (.string (strB x.val)) ∧ W.cell? ⟨wr.heap.size, 3, none⟩ = some (.int .i64 x.num) ∧ W.cell? ⟨wr.heap.size, 4, none⟩ = some (.slice a3 x.nums.length c3)) ∧ (W.cell? ⟨w5.heap.size, 0, none⟩ = some (.bool false) ∧ W.cell? ⟨w5.heap.size, 1, none⟩ = some (.bool false) ∧ W.cell? ⟨w5.heap.size, 2, none⟩ = some (.bool false))) := fun W hs => by
              have h1 := hs.blk hga HZ0.out (by decide)
              have h2 := hs.blk hg8 HZ5.out (by decide)
              exact ⟨⟨blk_cell h1 0, blk_cell h1 1, blk_cell h1 2, blk_cell h1 3, blk_cell h1 4⟩, ⟨blk_cell h2 0, blk_cell h2 1, blk_cell h2 2⟩⟩
            obtain ⟨⟨q0, q1, q2, q3, q4⟩, ⟨z0, z1, z2⟩⟩ := HS8.out _ (WStay.refl _ _)
            have HA8 : Hid (WStay 0 w8 w8) := WStay.refl _ _
            clear hw8 hb8 hg8 hga
            go_wp2_with (first
              | (at_builtin; (have hb9 := (Below.refl w9.heap.size w9).alloc (Nat.le_refl _) (.cells #[.int .u8 x.nums.length] 5)); (have HRb10 := Lib.hid (HR9.out.behind hb9)); (have HAb10 := Lib.hid (HA9.out.trans (WStay.of_below hb9))); (have HUb10 := Lib.hid (one_bytes (d := x.nums.length) w9 (by omega) (by have := HLN.out; omega))); (refine wpList_append_bytes rfl (.tmp 63) (.tmp 68) rfl rfl w.heap.size i0 hi hz0 hz1 hz2 _ rfl _ HRb10.out.1 _ rfl _ _ HUb10.out (by have h7 := HRL.out; have h8 := HLN.out; first | (simp only [leI_len]; omega) | (simp only [txt_len]; omega) | (simp only [List.length_append, leI_len]; omega) | (simp only [List.length_append, leI_len, txt_len]; omega)) HRb10.out.2.size ?_); intro v10 w10 n10 hn hown hg _; have HR10 := Lib.hid (RAt.app HRb10.out hn.out hown hg); have HA10 := Lib.hid (HAb10.out.trans (HRb10.out.stay hg)); clear q0 q1 q2 q3 q4 z0 z1 z2; obtain ⟨⟨q0, q1, q2, q3, q4⟩, ⟨z0, z1, z2⟩⟩ := HS8.out _ HA10.out; clear hn hown hg hb9)
              | (at_builtin; (have hb9 := (Below.refl w8.heap.size w8).alloc (Nat.le_refl _) (.cells #[.int .u8 x.kind] 5)); (have HRb9 := Lib.hid (HR8.out.behind hb9)); (have HAb9 := Lib.hid (HA8.out.trans (WStay.of_below hb9))); (have HUb9 := Lib.hid (one_bytes (d := x.kind) w8 HKD.out.1 HKD.out.2)); (refine wpList_append_bytes rfl (.tmp 32) (.tmp 36) rfl rfl w.heap.size i0 hi hz0 hz1 hz2 _ rfl _ HRb9.out.1 _ rfl _ _ HUb9.out (by have h7 := HRL.out; have h8 := HLN.out; first | (simp only [leI_len]; omega) | (simp only [txt_len]; omega) | (simp only [List.length_append, leI_len]; omega) | (simp only [List.length_append, leI_len, txt_len]; omega)) HRb9.out.2.size ?_); intro v9 w9 n9 hn hown hg _; have HR9 := Lib.hid (RAt.app HRb9.out hn.out hown hg); have HA9 := Lib.hid (HAb9.out.trans (HRb9.out.stay hg)); clear q0 q1 q2 q3 q4 z0 z1 z2; obtain ⟨⟨q0, q1, q2, q3, q4⟩, ⟨z0, z1, z2⟩⟩ := HS8.out _ HA9.out; clear hn hown hg hb9))
            clear q0 q1 q2 q3 q4 z0 z1 z2
            go_loopw [4, 8] (fun v i wq => ∃ m : Nat, m ≤ x.nums.length ∧ i = .int .i64 m ∧ RAt w v (((row ++ leI 1 x.kind) ++ leI 1 x.nums.length) ++ (x.nums.take m).flatMap (leI 8)) wq ∧ WStay 0 w8 wq) (fun _ i _ => x.nums.length - (intOf i).toNat)
            case atStart => exact ⟨0, Nat.zero_le _, rfl, by simpa using HR10.out, HA10.out⟩
            case round =>
              obtain ⟨m, hm, rfl, hM, hS⟩ := hrel
              by_cases hlt : m < x.nums.length
              · obtain ⟨g2, off2, rfl, hg2, hy⟩ := (HN3.out.below hM.2).get hlt
                have m1 : (m : Int) < x.nums.length := by omega
                have m2 : (x.nums.length : Int) ≤ 100 := by have := HLN.out; omega
                have HFL := Lib.hid (flat_take x.nums m hlt)
                have HLM := Lib.hid hlt
                generalize x.nums[m]?.getD 0 = y at hy HFL
                have uy : IntKind.u64.wrap y = U (BitVec.ofInt 64 y) := wrapU64_any _
                have HNY := Lib.hid (fun W => refNumW y W)
                have HMJ := Lib.hid hM
                have HSJ := Lib.hid hS
                obtain ⟨⟨_, _, _, _, q4⟩, _⟩ := HS8.out _ hS
                clear hM hS hlt hg2 hm
                go_wp2_with (first
                  | (go_at_call 27; (with_reducible refine (HNY.out _).mono ?_); rintro e wy ⟨uy9, rfl, hu, hb⟩; have HUY := Lib.hid hu; have HRY := Lib.hid (HMJ.out.behind hb); have HSY := Lib.hid (HSJ.out.trans (WStay.of_below hb)); clear q4 hy hu hb)
                  | (at_builtin; (refine wpList_append_bytes rfl (.tmp 77) (.tmp 84) rfl rfl w.heap.size i0 hi hz0 hz1 hz2 _ rfl _ HRY.out.1 _ rfl _ _ HUY.out (by have h7 := HRL.out; have h8 := HLN.out; first | (simp only [List.length_append, leI_len, flat_len, List.length_take]; omega) | (simp only [List.length_append, leI_len, txt_len, flat_len, List.length_take]; omega)) HRY.out.2.size ?_); intro v9 wz n9 hn hown hg _; have HRZ := Lib.hid (RAt.app HRY.out hn.out hown hg); have HSZ := Lib.hid (HSY.out.trans (HRY.out.stay hg)); clear hn hown hg))
                go_roundw
                case rel => exact ⟨m + 1, HLM.out, by go_num, by rw [HFL.out, ← List.append_assoc]; exact HRZ.out, HSZ.out⟩
                case measure => have := HLM.out; simp [intOf]; omega
              · obtain rfl : m = x.nums.length := by omega
                have HMJ := Lib.hid hM
                obtain ⟨⟨_, _, _, _, q4⟩, _⟩ := HS8.out _ hS
                clear hM hS hm
                go_wp2
                go_roundw
                case rel => exact ⟨j + 1, HLT.out, by go_num, by
                  have h9 := HMJ.out
                  rw [List.take_length] at h9
                  rw [HROW.out, HACT.out]
                  simpa [actB, List.append_assoc] using h9, fun i hi => by
                  by_cases h9 : i < j
                  · exact HR.out i h9
                  · obtain rfl : i = j := by omega
                    rw [HX.out]; exact HRX.out⟩
                case measure => have := HLT.out; simp [intOf]; omega
      · obtain rfl : j = l.length := by omega
        have hall := all_of hR
        have HP : Hid (packE l = 0) := by unfold Hid packE; rw [if_neg (by have := HL.out; omega), if_pos hall]
        have HMJ := Lib.hid hM
        clear hR hall hM hlt hj
        go_wp2
        go_ret2
        have h9 := HMJ.out
        rw [List.take_length] at h9
        refine ⟨_, by rw [HP.out]; try rfl, ?_, h9.2⟩
        unfold packS
        rw [HP.out, if_pos rfl]
        exact BytesAt.of_owns h9.1
end Go.Proofs.Ytkpaienlfieglaa

/-
  LeafKeeps: what is put on a device is got there, by its kind and place, and nothing else; foul is what no write gave.
  Conditions: none.
-/
import Derived.Test.YtiibpkncdflfcaaKeepHelp
import Derived.Test.YtiibpkncdflfcaaRefRead
import Derived.BigQuiet
import Derived.Deep.RegionHeld3
namespace Go.Proofs.Ytiibpkncdflfcaa
open Go.ChangeShapes Go.WideShapes Go.ChangeAt Go.RowKit

theorem puts_addr {n₀ : Nat} {w : World} {a : Option Addr} {c : Nat} {l : List PutP} (h : PutsAt n₀ w (.slice a l.length c) l) {i : Nat} (hi : i < l.length) : ∃ g off, a = some ⟨g, off, none⟩ ∧ g < n₀ ∧ PutAt7 n₀ w g (off + i * 7) (l[i]?.getD default) ∧ (l[i]?.getD default).wf := by
  obtain ⟨a', c', e, hl, hwf, h⟩ := h
  cases e
  rcases h with h | ⟨g, off, rfl, hg, hc⟩
  · subst h; simp at hi
  · exact ⟨g, off, rfl, hg, hc i hi, hwf _ (by simp [hi])⟩
theorem ints_arg {n₀ : Nat} {w : World} {v : Value} {l : List Int} (h : IntsIn n₀ w v l) : ∃ a c, v = .slice a l.length c := by
  obtain ⟨a, c, rfl, _⟩ := h
  exact ⟨a, c, rfl⟩
theorem bytes_of_owns {w : World} {b n : Nat} {v : Value} {bs : List (BitVec 8)} (h : w.ownsRow b 5 1 v n (cellsOf bs)) (hn : n = bs.length) : BytesAt w.heap.size w v bs := by subst hn; exact BytesAt.of_owns h
theorem pad96_len {bs : List (BitVec 8)} (h : bs.length ≤ 96) : 96 = (bs ++ (zeros 96).drop bs.length).length := by rw [List.length_append, List.length_drop, zeros_len]; omega
theorem keep_drewN {n : Nat} {a b : World} (h : Below n a b) (k : Nat) : Below n a (b.drewN k) := ⟨h.os, h.tape, h.output, h.size, h.block⟩
set_option maxRecDepth 100000 in
set_option maxHeartbeats 16000000 in
theorem leafKeeps_walk (q : KeptV) (w : World) (hq : q.At w) : Calls Try.prog 3 #[.agg q.cells] w (Good w) := by
  obtain ⟨v0, v1, kind, place, ps, fs⟩ := q
  obtain ⟨h0, n0, h1, n1⟩ := hq
  dsimp only at h0 n0 h1 n1
  change Calls _ _ #[.agg #[v0, v1, .int .i64 kind, .int .i64 place]] _ _
  have hX : (w.alloc (.cells #[v0, v1, .int .i64 kind, .int .i64 place] 25)).heap[w.heap.size]? = some (.cells #[v0, v1, .int .i64 kind, .int .i64 place] 25 (0, 0)) := heap_alloc_new _ _
  have hB : Below w.heap.size w (w.alloc (.cells #[v0, v1, .int .i64 kind, .int .i64 place] 25)) := (Below.refl _ _).alloc (Nat.le_refl _) _
  have H0 := Lib.hid h0
  have H1 := Lib.hid h1
  obtain ⟨a0, p0, rfl, _, _, _⟩ := id h0
  obtain ⟨a1, p1, rfl⟩ := ints_arg h1
  obtain ⟨w1, hW1⟩ : ∃ w1, w.alloc (.cells #[.slice a0 ps.length p0, .slice a1 fs.length p1, .int .i64 kind, .int .i64 place] 25) = w1 := ⟨_, rfl⟩
  rw [hW1] at hX hB
  have HX := Lib.hid hX
  have HB := Lib.hid hB
  have HW1 := Lib.hid hW1
  have c0 : w1.cell? ⟨w.heap.size, 0, none⟩ = some (.slice a0 ps.length p0) := blk_cell hX 0
  have c1 : w1.cell? ⟨w.heap.size, 1, none⟩ = some (.slice a1 fs.length p1) := blk_cell hX 1
  have c2 : w1.cell? ⟨w.heap.size, 2, none⟩ = some (.int .i64 kind) := blk_cell hX 2
  have c3 : w1.cell? ⟨w.heap.size, 3, none⟩ = some (.int .i64 place) := blk_cell hX 3
  unfold maxLen at n0 n1
  have HAW := Lib.hid (fun W => awake05 W)
  clear hX hB h0 h1 hW1
  go_enter Try.func3, Try.ntmps3
  go_upto_region 1 with (fail)
  rw [HW1.out]
  go_quiet (fail)
  by_cases hbig : 20 < ps.length
  · have b1 : (20 : Int) < ps.length := by omega
    clear hbig
    go_wp2
    go_ret
    exact ⟨rfl, keep_drewN HB.out _⟩
  by_cases hbig2 : 20 < fs.length
  · have b0 : (ps.length : Int) ≤ 20 := by omega
    have b1 : (20 : Int) < fs.length := by omega
    clear hbig hbig2
    go_wp2
    go_ret
    exact ⟨rfl, keep_drewN HB.out _⟩
  have b0 : (ps.length : Int) ≤ 20 := by omega
  have b1 : (fs.length : Int) ≤ 20 := by omega
  clear hbig hbig2
  have hmk : ∀ W : World, (Instr.makeSlice 30 (.int .i64 96) (.int .i64 96)).run Try.prog W = .ok (.slice (some ⟨W.heap.size, 0, none⟩) 96 96) (W.alloc (.cells (madeCells #[.int .u8 0] 96) 5)) := makeBytes 96 (by decide)
  have HNEW := Lib.hid (fun W (hb : Below w.heap.size w W) => (show Calls Try.prog 4 #[.int .i64 8, .int .i64 96] W (fun e W' => ∃ D, e = .returned (.pointer (some ⟨D, 0, none⟩)) ∧ DevHere w D (Dev.new 8 96) W' ∧ Below W.heap.size W W') from here_new 8 96 (by decide) hb))
  go_wp2_with (go_at_call 4; (with_reducible refine (HNEW.out _ (keep_drewN HB.out _)).mono ?_); rintro e w2 ⟨D, rfl, hd, hb⟩; have HD := Lib.hid hd; clear hd hb)
  go_loopw [8] (fun iv wr => ∃ (i : Nat) (d : Dev), i ≤ ps.length ∧ iv = .int .i64 i ∧ DevHere w D d wr ∧ KeepDev d i) (fun iv _ => ps.length - (intOf iv).toNat)
  case atStart => exact ⟨0, Dev.new 8 96, Nat.zero_le _, rfl, HD.out, keep_new⟩
  case round =>
    obtain ⟨i, d, hi, rfl, hd, hkd⟩ := hrel
    have hbel := hd.below
    by_cases hlt : i < ps.length
    · obtain ⟨g, off, rfl, hg, hp7, hwf⟩ := puts_addr H0.out hlt
      have hp8 := hp7.below hbel hg
      obtain ⟨x, hx⟩ : ∃ x, ps[i]?.getD default = x := ⟨_, rfl⟩
      rw [hx] at hp8 hwf
      obtain ⟨x0, x1, x2, x3, x4, x5, u, x6, hu⟩ := hp8
      have i0 : (0 : Int) ≤ i := by omega
      have i1 : (i : Int) < ps.length := by omega
      have hsz := strB_size x.leaf.load
      have hll : x.leaf.load.length ≤ 9223372036854775807 := hwf.1.load
      have hbl : x.bs.length ≤ 9223372036854775807 := hwf.2
      have HWF := Lib.hid hwf
      have HU := Lib.hid hu
      have HDR := Lib.hid hd
      have HKD := Lib.hid hkd
      have HLT := Lib.hid hlt
      have HBE := Lib.hid hbel
      obtain ⟨au, cu, rfl, _⟩ := id hu
      have HP7 := Lib.hid hp7
      have HXX := Lib.hid hx
      clear hp7 hwf hx hu hd hkd hlt hbel hi
      by_cases hb3 : 100 < x.leaf.load.length
      · have b3 : (100 : Int) < x.leaf.load.length := by omega
        as_aux_lemma =>
          go_wp2
          go_ret
          exact ⟨rfl, HBE.out⟩
      by_cases hb4 : 96 < x.bs.length
      · have b3 : (x.leaf.load.length : Int) ≤ 100 := by omega
        have b4 : (96 : Int) < x.bs.length := by omega
        as_aux_lemma =>
          go_wp2
          go_ret
          exact ⟨rfl, HBE.out⟩
      have b3 : (x.leaf.load.length : Int) ≤ 100 := by omega
      have b4 : (x.bs.length : Int) ≤ 96 := by omega
      have HB4 : Hid (x.bs.length ≤ 96) := by unfold Hid; omega
      clear hb3 hb4
      cases hraw : x.raw with
      | true =>
        rw [hraw] at x5
        clear hraw
        have HWR := Lib.hid (fun W (hd : DevHere w D d W) (v : Value) (bs : List (BitVec 8)) (hu : BytesAt W.heap.size W v bs) => keep_write hd HKD.out (by omega : i ≤ 100) x.at_ v bs hu)
        have hoz := own_zeros wr wr.heap.size 96 (Nat.le_refl _) (by decide)
        have hb3 : Below wr.heap.size wr (wr.alloc (.cells (madeCells #[.int .u8 0] 96) 5)) := (Below.refl _ _).alloc (Nat.le_refl _) _
        have HOZ := Lib.hid hoz
        have HUZ := Lib.hid (HU.out.below (hb3.mono HBE.out.size))
        have HB3 := Lib.hid hb3
        have HCL : Hid (∀ w3, Below wr.heap.size wr w3 → w3.cell? ⟨g, off + i * 7, none⟩ = some (.int .i64 x.at_)) := fun w3 hb => (hb.cell (p := ⟨g, _, none⟩) (Nat.lt_of_lt_of_le hg HBE.out.size)).trans x0
        have y6 : (wr.alloc (.cells (madeCells #[.int .u8 0] 96) 5)).cell? ⟨g, off + i * 7 + 6, none⟩ = some (.slice au x.bs.length cu) := (hb3.cell (p := ⟨g, _, none⟩) (Nat.lt_of_lt_of_le hg HBE.out.size)).trans x6
        clear hoz hb3
        as_aux_lemma =>
          go_wp2_with (first
            | (refine wpList_copy_bytes (o := ⟨some 77, _, _, _, _, _⟩) rfl (.tmp 71) (.tmp 76) rfl rfl HOZ.out rfl HUZ.out HB4.out ?_; intro w3 hr3 hm3; have hb5 := HB3.out.trans (hm3.below (B := wr.heap.size) (fun j e => by omega) HB3.out.size); have HW3 := Lib.hid (HWR.out w3 (HDR.out.on hb5) _ _ (bytes_of_owns hr3 (pad96_len HB4.out))); have cc := HCL.out w3 hb5; clear hr3 hm3 hb5)
            | (go_at_call 5; (with_reducible refine HW3.out.mono ?_); rintro e w4 ⟨⟨n4, rfl⟩, d4, hd4, hk4⟩; have HD4 := Lib.hid (And.intro hd4 hk4); clear hd4 hk4))
          go_roundw
          case rel => exact ⟨i + 1, d4, by have := HLT.out; omega, by go_num, HD4.out.1, HD4.out.2⟩
          case measure => simp [intOf]; omega
      | false =>
        rw [hraw] at x5
        clear hraw
        have HRB := Lib.hid (fun W => (show Calls Try.prog 6 #[.int .i64 96, .agg #[.int .i64 x.leaf.kind, .int .i64 x.leaf.place, .int .i64 x.leaf.stamp, .string (strB x.leaf.load)]] W (Built (buildB 96 x.leaf.kind x.leaf.place x.leaf.stamp x.leaf.load) (buildErr 96 x.leaf.kind x.leaf.place x.leaf.stamp x.leaf.load.length) W) from refBuild_any 96 x.leaf W HWF.out.1.stamp.2 HWF.out.1.load))
        obtain ⟨er, her⟩ : ∃ er, buildErr 96 x.leaf.kind x.leaf.place x.leaf.stamp x.leaf.load.length = er := ⟨_, rfl⟩
        rw [her] at HRB
        have HER := Lib.hid her
        clear her
        have y2 : wr.cell? ⟨g, off + i * 7 + 1 + 1, none⟩ = some (.int .i64 x.leaf.place) := x2
        have y3 : wr.cell? ⟨g, off + i * 7 + 1 + 2, none⟩ = some (.int .i64 x.leaf.stamp) := x3
        have y4 : wr.cell? ⟨g, off + i * 7 + 1 + 3, none⟩ = some (.string (strB x.leaf.load)) := x4
        have HPT := Lib.hid (fun W (hd : DevHere w D d W) (v : Value) (hu : BytesAt W.heap.size W v x.leaf.load) => (show Calls Try.prog 7 #[.pointer (some ⟨D, 0, none⟩), .int .i64 x.at_, .agg (x.leaf.cells v)] W (fun e W' => e = .returned (.int .i64 (putF x.leaf x.at_)) ∧ ∃ d', DevHere w D d' W' ∧ KeepDev d' (i + 1)) from keep_put hd HKD.out (by omega : i ≤ 100) x.at_ x.leaf v hu HWF.out.1.stamp.2))
        have HOF := Lib.hid (fun W => (show Calls Try.prog 8 #[.agg #[.int .i64 x.leaf.kind, .int .i64 x.leaf.place, .int .i64 x.leaf.stamp, .string (strB x.leaf.load)]] W (LeafRet x.leaf W) from of05_any x.leaf W))
        have HCL : Hid (∀ W, Below wr.heap.size wr W → W.cell? ⟨g, off + i * 7, none⟩ = some (.int .i64 x.at_) ∧ W.cell? ⟨g, off + i * 7 + 1, none⟩ = some (.int .i64 x.leaf.kind) ∧ W.cell? ⟨g, off + i * 7 + 1 + 1, none⟩ = some (.int .i64 x.leaf.place) ∧ W.cell? ⟨g, off + i * 7 + 1 + 2, none⟩ = some (.int .i64 x.leaf.stamp) ∧ W.cell? ⟨g, off + i * 7 + 1 + 3, none⟩ = some (.string (strB x.leaf.load))) := fun W hb => by
          have hgl := Nat.lt_of_lt_of_le hg HBE.out.size
          exact ⟨(hb.cell (p := ⟨g, _, none⟩) hgl).trans x0, (hb.cell (p := ⟨g, _, none⟩) hgl).trans x1, (hb.cell (p := ⟨g, _, none⟩) hgl).trans y2, (hb.cell (p := ⟨g, _, none⟩) hgl).trans y3, (hb.cell (p := ⟨g, _, none⟩) hgl).trans y4⟩
        go_upto_region 15 with (go_at_call 6; (with_reducible refine (HRB.out _).mono ?_); rintro e w3 ⟨ub, rfl, _, hb⟩; have HB3 := Lib.hid hb; clear hb)
        obtain ⟨z0, z1, z2, z3, z4⟩ := HCL.out _ HB3.out
        clear x0 x1 x2 x3 x4 x5 x6 y2 y3 y4
        have HCW : Hid (∀ W, Below w.heap.size w W → W.cell? ⟨g, off + i * 7, none⟩ = some (.int .i64 x.at_) ∧ W.cell? ⟨g, off + i * 7 + 1, none⟩ = some (.int .i64 x.leaf.kind) ∧ W.cell? ⟨g, off + i * 7 + 1 + 1, none⟩ = some (.int .i64 x.leaf.place) ∧ W.cell? ⟨g, off + i * 7 + 1 + 2, none⟩ = some (.int .i64 x.leaf.stamp) ∧ W.cell? ⟨g, off + i * 7 + 1 + 3, none⟩ = some (.string (strB x.leaf.load))) := fun W hb => by
          obtain ⟨q0, q1, q2, q3, q4, _⟩ := HP7.out.below hb hg
          rw [HXX.out] at q0 q1 q2 q3 q4
          exact ⟨q0, q1, q2, q3, q4⟩
        have hcase : (er ≠ 0 ∧ putF x.leaf x.at_ = er) ∨ (er = 0 ∧ x.at_ < 0 ∧ putF x.leaf x.at_ = 2) ∨ (er = 0 ∧ 8 ≤ x.at_ ∧ putF x.leaf x.at_ = 2) ∨ (er = 0 ∧ 0 ≤ x.at_ ∧ x.at_ < 8 ∧ putF x.leaf x.at_ = 0) := by
          unfold putF
          rw [HER.out]
          by_cases he : er = 0
          · rw [if_pos he]
            by_cases h1 : x.at_ < 0
            · exact .inr (.inl ⟨he, h1, by rw [if_neg (by omega)]⟩)
            by_cases h2 : 8 ≤ x.at_
            · exact .inr (.inr (.inl ⟨he, h2, by rw [if_neg (by omega)]⟩))
            · exact .inr (.inr (.inr ⟨he, by omega, by omega, by rw [if_pos (by omega)]⟩))
          · exact .inl ⟨he, by rw [if_neg he]⟩
        rcases hcase with ⟨he, hf⟩ | ⟨rfl, hat, hf⟩ | ⟨rfl, hat, hf⟩ | ⟨rfl, hat0, hat, hf⟩
        · skip
          as_aux_lemma =>
            have k1 : (er == 0) = false := by simpa using he
            have k2 : (er != er) = false := bne_self_eq_false er
            rw [hf] at HPT
            clear he hf
            go_upto_region 17 with (fail)
            go_cut [12] (fun s12 wx => s12 = .int .i64 er ∧ ∃ d', DevHere w D d' wx ∧ KeepDev d' (i + 1))
            case first =>
              have hbd := HB3.out.drew
              have HBD := Lib.hid hbd
              clear z0 z1 z2 z3 z4 hbd
              go_region_held3 (fun W => W.cell? ⟨g, off + i * 7, none⟩ = some (.int .i64 x.at_) ∧ W.cell? ⟨g, off + i * 7 + 1, none⟩ = some (.int .i64 x.leaf.kind) ∧ W.cell? ⟨g, off + i * 7 + 1 + 1, none⟩ = some (.int .i64 x.leaf.place) ∧ W.cell? ⟨g, off + i * 7 + 1 + 2, none⟩ = some (.int .i64 x.leaf.stamp) ∧ W.cell? ⟨g, off + i * 7 + 1 + 3, none⟩ = some (.string (strB x.leaf.load)))
                (first | exact HCL.out _ HBD.out | exact HCE.out)
                (first
                  | (go_at_call 8; (with_reducible refine (HOF.out _).mono ?_); rintro e w5 ⟨uo, rfl, huo, hbo⟩; have hbn := HBD.out.trans (hbo.mono HBD.out.size); clear HBD; have HBD := Lib.hid hbn; have HPP := Lib.hid (HPT.out _ (HDR.out.on hbn) _ huo); clear hbn huo hbo)
                  | (go_at_call 7; (with_reducible refine HPP.out.mono ?_); rintro e w6 ⟨rfl, d6, hd6, hk6⟩; have HD6 := Lib.hid (And.intro hd6 hk6); have HCE := Lib.hid (HCW.out _ hd6.below); clear hd6 hk6))
              all_goals (go_wp2_with fail)
              all_goals go_meet
              all_goals exact ⟨rfl, _, HD6.out.1, HD6.out.2⟩
            case rest =>
              obtain ⟨rfl, d6, hd6, hk6⟩ := hcut
              have HD6 := Lib.hid (And.intro hd6 hk6)
              clear hd6 hk6 z0 z1 z2 z3 z4
              go_wp2
              go_roundw
              case rel => exact ⟨i + 1, d6, by have := HLT.out; omega, by go_num, HD6.out.1, HD6.out.2⟩
              case measure => simp [intOf]; omega
        · skip
          as_aux_lemma =>
            rw [hf] at HPT
            clear hf
            go_upto_region 17 with (fail)
            go_cut [12] (fun s12 wx => s12 = .int .i64 2 ∧ ∃ d', DevHere w D d' wx ∧ KeepDev d' (i + 1))
            case first =>
              have hbd := HB3.out.drew
              have HBD := Lib.hid hbd
              clear z0 z1 z2 z3 z4 hbd
              go_region_held3 (fun W => W.cell? ⟨g, off + i * 7, none⟩ = some (.int .i64 x.at_) ∧ W.cell? ⟨g, off + i * 7 + 1, none⟩ = some (.int .i64 x.leaf.kind) ∧ W.cell? ⟨g, off + i * 7 + 1 + 1, none⟩ = some (.int .i64 x.leaf.place) ∧ W.cell? ⟨g, off + i * 7 + 1 + 2, none⟩ = some (.int .i64 x.leaf.stamp) ∧ W.cell? ⟨g, off + i * 7 + 1 + 3, none⟩ = some (.string (strB x.leaf.load)))
                (first | exact HCL.out _ HBD.out | exact HCE.out)
                (first
                  | (go_at_call 8; (with_reducible refine (HOF.out _).mono ?_); rintro e w5 ⟨uo, rfl, huo, hbo⟩; have hbn := HBD.out.trans (hbo.mono HBD.out.size); clear HBD; have HBD := Lib.hid hbn; have HPP := Lib.hid (HPT.out _ (HDR.out.on hbn) _ huo); clear hbn huo hbo)
                  | (go_at_call 7; (with_reducible refine HPP.out.mono ?_); rintro e w6 ⟨rfl, d6, hd6, hk6⟩; have HD6 := Lib.hid (And.intro hd6 hk6); have HCE := Lib.hid (HCW.out _ hd6.below); clear hd6 hk6))
              all_goals (go_wp2_with fail)
              all_goals go_meet
              all_goals exact ⟨rfl, _, HD6.out.1, HD6.out.2⟩
            case rest =>
              obtain ⟨rfl, d6, hd6, hk6⟩ := hcut
              have HD6 := Lib.hid (And.intro hd6 hk6)
              clear hd6 hk6 z0 z1 z2 z3 z4
              go_wp2
              go_roundw
              case rel => exact ⟨i + 1, d6, by have := HLT.out; omega, by go_num, HD6.out.1, HD6.out.2⟩
              case measure => simp [intOf]; omega
        · skip
          as_aux_lemma =>
            have hat0 : ¬ x.at_ < 0 := by omega
            rw [hf] at HPT
            clear hf
            go_upto_region 17 with (fail)
            go_cut [12] (fun s12 wx => s12 = .int .i64 2 ∧ ∃ d', DevHere w D d' wx ∧ KeepDev d' (i + 1))
            case first =>
              have hbd := HB3.out.drew
              have HBD := Lib.hid hbd
              clear z0 z1 z2 z3 z4 hbd
              go_region_held3 (fun W => W.cell? ⟨g, off + i * 7, none⟩ = some (.int .i64 x.at_) ∧ W.cell? ⟨g, off + i * 7 + 1, none⟩ = some (.int .i64 x.leaf.kind) ∧ W.cell? ⟨g, off + i * 7 + 1 + 1, none⟩ = some (.int .i64 x.leaf.place) ∧ W.cell? ⟨g, off + i * 7 + 1 + 2, none⟩ = some (.int .i64 x.leaf.stamp) ∧ W.cell? ⟨g, off + i * 7 + 1 + 3, none⟩ = some (.string (strB x.leaf.load)))
                (first | exact HCL.out _ HBD.out | exact HCE.out)
                (first
                  | (go_at_call 8; (with_reducible refine (HOF.out _).mono ?_); rintro e w5 ⟨uo, rfl, huo, hbo⟩; have hbn := HBD.out.trans (hbo.mono HBD.out.size); clear HBD; have HBD := Lib.hid hbn; have HPP := Lib.hid (HPT.out _ (HDR.out.on hbn) _ huo); clear hbn huo hbo)
                  | (go_at_call 7; (with_reducible refine HPP.out.mono ?_); rintro e w6 ⟨rfl, d6, hd6, hk6⟩; have HD6 := Lib.hid (And.intro hd6 hk6); have HCE := Lib.hid (HCW.out _ hd6.below); clear hd6 hk6))
              all_goals (go_wp2_with fail)
              all_goals go_meet
              all_goals exact ⟨rfl, _, HD6.out.1, HD6.out.2⟩
            case rest =>
              obtain ⟨rfl, d6, hd6, hk6⟩ := hcut
              have HD6 := Lib.hid (And.intro hd6 hk6)
              clear hd6 hk6 z0 z1 z2 z3 z4
              go_wp2
              go_roundw
              case rel => exact ⟨i + 1, d6, by have := HLT.out; omega, by go_num, HD6.out.1, HD6.out.2⟩
              case measure => simp [intOf]; omega
        · skip
          as_aux_lemma =>
            have hat1 : ¬ x.at_ < 0 := by omega
            have hat2 : ¬ 8 ≤ x.at_ := by omega
            rw [hf] at HPT
            clear hf
            go_upto_region 17 with (fail)
            go_cut [12] (fun s12 wx => s12 = .int .i64 0 ∧ ∃ d', DevHere w D d' wx ∧ KeepDev d' (i + 1))
            case first =>
              have hbd := HB3.out.drew
              have HBD := Lib.hid hbd
              clear z0 z1 z2 z3 z4 hbd
              go_region_held3 (fun W => W.cell? ⟨g, off + i * 7, none⟩ = some (.int .i64 x.at_) ∧ W.cell? ⟨g, off + i * 7 + 1, none⟩ = some (.int .i64 x.leaf.kind) ∧ W.cell? ⟨g, off + i * 7 + 1 + 1, none⟩ = some (.int .i64 x.leaf.place) ∧ W.cell? ⟨g, off + i * 7 + 1 + 2, none⟩ = some (.int .i64 x.leaf.stamp) ∧ W.cell? ⟨g, off + i * 7 + 1 + 3, none⟩ = some (.string (strB x.leaf.load)))
                (first | exact HCL.out _ HBD.out | exact HCE.out)
                (first
                  | (go_at_call 8; (with_reducible refine (HOF.out _).mono ?_); rintro e w5 ⟨uo, rfl, huo, hbo⟩; have hbn := HBD.out.trans (hbo.mono HBD.out.size); clear HBD; have HBD := Lib.hid hbn; have HPP := Lib.hid (HPT.out _ (HDR.out.on hbn) _ huo); clear hbn huo hbo)
                  | (go_at_call 7; (with_reducible refine HPP.out.mono ?_); rintro e w6 ⟨rfl, d6, hd6, hk6⟩; have HD6 := Lib.hid (And.intro hd6 hk6); have HCE := Lib.hid (HCW.out _ hd6.below); clear hd6 hk6))
              all_goals (go_wp2_with fail)
              all_goals go_meet
              all_goals exact ⟨rfl, _, HD6.out.1, HD6.out.2⟩
            case rest =>
              obtain ⟨rfl, d6, hd6, hk6⟩ := hcut
              have HD6 := Lib.hid (And.intro hd6 hk6)
              clear hd6 hk6 z0 z1 z2 z3 z4
              go_wp2
              go_roundw
              case rel => exact ⟨i + 1, d6, by have := HLT.out; omega, by go_num, HD6.out.1, HD6.out.2⟩
              case measure => simp [intOf]; omega
    · obtain rfl : i = ps.length := by omega
      have HKC := Lib.hid (hkd.crash fs)
      have hcr := here_crash hd (H1.out.below hbel) hkd.small (by omega) (by omega)
      have HCR := Lib.hid hcr
      clear hcr hbel hlt hd hkd hi hmk c0 c1 c2 c3 HNEW HW1 HX n0 n1
      go_upto_region 21 with (go_at_call 9; (with_reducible refine HCR.out.mono ?_); rintro e w3 ⟨rfl, hd3⟩; have HD3 := Lib.hid hd3; clear hd3)
      have hfo := foul_here HD3.out HKC.out.down (by rw [HKC.out.sectors]; decide) (fun j => by have := HKC.out.small.past j; omega)
      rw [HKC.out.sectors] at hfo
      obtain ⟨dc, hdc⟩ : ∃ dc, d.crash fs = dc := ⟨_, rfl⟩
      rw [hdc] at HKC HD3 hfo
      have HFO := Lib.hid hfo
      clear hdc hfo
      go_wp2_with (go_at_call 10; (with_reducible refine HFO.out.mono ?_); rintro e w5 ⟨fv, rfl, hfi, hb5⟩; obtain ⟨fa, fc, rfl⟩ := hfi.slice; have HFI := Lib.hid hfi; have HD5 := Lib.hid (HD3.out.on hb5); clear hfi hb5)
      have f8 : ((dc.fouls 8).length : Int) ≤ 8 := by have := fouls_len dc 8; omega
      go_loopw [14, 15] (fun nv iv wr => ∃ k : Nat, k ≤ 8 ∧ iv = .int .i64 k ∧ nv = .int .i64 (dc.fouls k).length ∧ Below w5.heap.size w5 wr) (fun _ iv _ => 8 - (intOf iv).toNat)
      case atStart => exact ⟨0, by decide, rfl, rfl, Below.refl _ _⟩
      case round =>
        obtain ⟨k, hk, rfl, rfl, hb⟩ := hrel
        by_cases hlt : k < 8
        · have hks : k < dc.sectors := by rw [HKC.out.sectors]; exact hlt
          have i0 : (0 : Int) ≤ k := by omega
          have i1 : (k : Int) < 8 := by omega
          have HB := Lib.hid hb
          have HRD := Lib.hid (here_read_ok (HD5.out.on hb) HKC.out.down k hks)
          obtain ⟨y, hy⟩ : ∃ y, readL (dc.cur k) = y := ⟨_, rfl⟩
          obtain ⟨er, her⟩ : ∃ er, readErr (dc.cur k) = er := ⟨_, rfl⟩
          obtain ⟨gl, hgl⟩ : ∃ gl, gotL dc k kind place = gl := ⟨_, rfl⟩
          obtain ⟨ge, hge⟩ : ∃ ge, gotErr dc k kind place = ge := ⟨_, rfl⟩
          have hgq : ge = if er = 0 ∧ y.kind = kind ∧ y.place = place then 0 else 5 := by
            rw [← hge, ← her, ← hy]
            have ha := HKC.out.ask (k : Int)
            rw [if_pos ⟨i0, i1⟩] at ha
            unfold gotErr
            rw [ha, if_pos rfl, Int.toNat_natCast]
          have hlq : gl = if ge = 0 then y else LeafP.zero := by rw [← hgl, ← hge, ← hy]; unfold gotL; rw [Int.toNat_natCast]
          have HGE := Lib.hid (fun W (hd : DevHere w D dc W) => (show Calls Try.prog 12 #[.pointer (some ⟨D, 0, none⟩), .int .i64 k, .int .i64 kind, .int .i64 place] W (GetAt w D dc gl ge W) from by have := get_here hd (k : Int) kind place; rw [hgl, hge] at this; exact this))
          have HRR := Lib.hid (fun W v (hv : BytesAt W.heap.size W v (dc.cur k)) (hl : (dc.cur k).length = dc.size) => (show Calls Try.prog 13 #[v] W (RefLeafRet y er W) from by
            have := refRead_any W.heap.size v (dc.cur k) W hv (Nat.le_refl _) (by rw [hl, HKC.out.size]; decide)
            rw [hy, her] at this
            exact this))
          have HTO := Lib.hid (fun (u : Value) n W (h : BytesAt n W u y.load) => (show Calls Try.prog 14 #[.agg #[.int .i64 y.kind, .int .i64 y.place, .int .i64 y.stamp, u], .agg #[.int .i64 y.kind, .int .i64 y.place, .int .i64 y.stamp, .string (strB y.load)]] W (fun e w' => e = .returned (.bool true) ∧ Below W.heap.size W w') from told05_yes y u n W h))
          have HPA := Lib.hid (fun W (hd : DevHere w D dc W) => here_past hd k hks (by have := HKC.out.small.past k; omega))
          have HER := Lib.hid her
          have HKL := Lib.hid hlt
          have HGQ := Lib.hid hgq
          have HLQ := Lib.hid hlq
          clear hy her hgl hge hks hlt hk hb hgq hlq
          go_upto_region 27 with (go_at_call 11; (with_reducible refine HRD.out.mono ?_); rintro e w6 ⟨hd6, hb6, hl6, ra, rc, rfl, hv6⟩; have HD6 := Lib.hid hd6; have HB6 := Lib.hid (HB.out.trans (hb6.mono HB.out.size)); have HV6 := Lib.hid hv6; have HL6 := Lib.hid hl6; clear hd6 hb6 hl6 hv6)
          go_upto_region 28 with (go_at_call 12; (with_reducible refine (HGE.out _ HD6.out).mono ?_); rintro e w7 ⟨hd7, u7, rfl, hu7, hb7⟩; obtain ⟨ua, uc, rfl, _⟩ := id hu7; unfold LeafP.cells; have HD7 := Lib.hid hd7; have HU7 := Lib.hid hu7; have HB7 := Lib.hid (HB6.out.trans (hb7.mono HB6.out.size)); have HV7 := Lib.hid ((HV6.out.below hb7).mono hb7.size); clear hd7 hu7 hb7)
          obtain ⟨w8, hw8⟩ : ∃ w8, w7.alloc (.cells #[.int .i64 gl.kind, .int .i64 gl.place, .int .i64 gl.stamp, .slice ua gl.load.length uc] 39) = w8 := ⟨_, rfl⟩
          have hb8 : Below w7.heap.size w7 w8 := by rw [← hw8]; exact (Below.refl _ _).alloc (Nat.le_refl _) _
          have hg8 : w8.heap[w7.heap.size]? = some (.cells #[.int .i64 gl.kind, .int .i64 gl.place, .int .i64 gl.stamp, .slice ua gl.load.length uc] 39 (0, 0)) := by rw [← hw8]; exact heap_alloc_new _ _
          change Code.wp _ _ _ _ (w7.alloc (.cells #[.int .i64 gl.kind, .int .i64 gl.place, .int .i64 gl.stamp, .slice ua gl.load.length uc] 39))
          rw [hw8]
          have HG8 := Lib.hid hg8
          have HU8 := Lib.hid ((HU7.out.below hb8).mono hb8.size)
          have HV8 := Lib.hid ((HV7.out.below hb8).mono hb8.size)
          have HB8 := Lib.hid (HB7.out.trans (hb8.mono HB7.out.size))
          obtain ⟨P8, hP8⟩ : ∃ P8, w7.heap.size = P8 := ⟨_, rfl⟩
          rw [hP8] at HG8 ⊢
          clear hw8 hb8 hg8 hP8
          have hrr := HRR.out w8 _ HV8.out HL6.out
          have HRR8 := Lib.hid hrr
          clear hrr
          go_upto_region 29 with (go_at_call 13; (with_reducible refine HRR8.out.mono ?_); rintro e w9 ⟨rfl, hb9⟩; unfold LeafP.doc; have HB9 := Lib.hid hb9; clear hb9)
          obtain ⟨w10, hw10⟩ : ∃ w10, w9.alloc (.cells #[.int .i64 y.kind, .int .i64 y.place, .int .i64 y.stamp, .string (strB y.load)] 29) = w10 := ⟨_, rfl⟩
          have hb10 : Below w9.heap.size w9 w10 := by rw [← hw10]; exact (Below.refl _ _).alloc (Nat.le_refl _) _
          have hg10 : w10.heap[w9.heap.size]? = some (.cells #[.int .i64 y.kind, .int .i64 y.place, .int .i64 y.stamp, .string (strB y.load)] 29 (0, 0)) := by rw [← hw10]; exact heap_alloc_new _ _
          change Code.wp _ _ _ _ (w9.alloc (.cells #[.int .i64 y.kind, .int .i64 y.place, .int .i64 y.stamp, .string (strB y.load)] 29))
          rw [hw10]
          have hb8t := HB9.out.trans (hb10.mono HB9.out.size)
          have HU10 := Lib.hid (HU8.out.below hb8t)
          have HV10 := Lib.hid ((HV8.out.below hb8t).mono hb8t.size)
          have HB10 := Lib.hid (HB8.out.trans (hb8t.mono HB8.out.size))
          have p8 := (hb8t.block _ (blk_lt HG8.out)).trans HG8.out
          have p0 : w10.cell? ⟨P8, 0, none⟩ = some (.int .i64 gl.kind) := blk_cell p8 0
          have p1 : w10.cell? ⟨P8, 1, none⟩ = some (.int .i64 gl.place) := blk_cell p8 1
          have p2 : w10.cell? ⟨P8, 2, none⟩ = some (.int .i64 gl.stamp) := blk_cell p8 2
          have p3 : w10.cell? ⟨P8, 3, none⟩ = some (.slice ua gl.load.length uc) := blk_cell p8 3
          have q0 : w10.cell? ⟨w9.heap.size, 0, none⟩ = some (.int .i64 y.kind) := blk_cell hg10 0
          have q1 : w10.cell? ⟨w9.heap.size, 1, none⟩ = some (.int .i64 y.place) := blk_cell hg10 1
          have q2 : w10.cell? ⟨w9.heap.size, 2, none⟩ = some (.int .i64 y.stamp) := blk_cell hg10 2
          have q3 : w10.cell? ⟨w9.heap.size, 3, none⟩ = some (.string (strB y.load)) := blk_cell hg10 3
          obtain ⟨P9, hP9⟩ : ∃ P9, w9.heap.size = P9 := ⟨_, rfl⟩
          rw [hP9] at q0 q1 q2 q3 ⊢
          have HD10 := Lib.hid (HD5.out.on HB10.out)
          clear hw10 hb10 hg10 hP9 hb8t p8 HG8 HB9 HU8 HV8 HV7 HU7 HV6 HB6 HB7 HB8 HRR8 HRR HGE HRD HD6 HD7
          have hcase : (er = 0 ∧ y.kind = kind ∧ y.place = place ∧ ge = 0 ∧ gl = y) ∨ (er ≠ 0 ∧ ge = 5 ∧ gl.load.length = 0) ∨ (er = 0 ∧ y.kind ≠ kind ∧ ge = 5 ∧ gl.load.length = 0) ∨ (er = 0 ∧ y.kind = kind ∧ y.place ≠ place ∧ ge = 5 ∧ gl.load.length = 0) := by
            have h1 := HGQ.out
            have h2 := HLQ.out
            by_cases he : er = 0 ∧ y.kind = kind ∧ y.place = place
            · rw [if_pos he] at h1
              rw [if_pos h1] at h2
              exact .inl ⟨he.1, he.2.1, he.2.2, h1, h2⟩
            · rw [if_neg he] at h1
              rw [if_neg (by rw [h1]; decide)] at h2
              have h3 : gl.load.length = 0 := by rw [h2]; rfl
              by_cases e0 : er = 0
              · by_cases e1 : y.kind = kind
                · exact .inr (.inr (.inr ⟨e0, e1, fun e2 => he ⟨e0, e1, e2⟩, h1, h3⟩))
                · exact .inr (.inr (.inl ⟨e0, e1, h1, h3⟩))
              · exact .inr (.inl ⟨e0, h1, h3⟩)
          have HPL2 : Hid ((dc.pasts k).length ≤ 70000) := by
            have := HKC.out.small.past k
            unfold Hid
            simp [Dev.pasts]
            omega
          clear HGQ HLQ
          rcases hcase with ⟨rfl, hk1, hk2, rfl, rfl⟩ | ⟨he, rfl, hl0⟩ | ⟨rfl, hk1, rfl, hl0⟩ | ⟨rfl, hk1, hk2, rfl, hl0⟩
          · skip
            as_aux_lemma =>
              have k1 : (gl.kind == kind) = true := by simpa using hk1
              have k2 : (gl.place == place) = true := by simpa using hk2
              have HTT := Lib.hid (HTO.out _ _ w10 HU10.out)
              clear hk1 hk2
              go_upto_region 38 with (first
                | (go_at_call 14; (with_reducible refine HTT.out.mono ?_); rintro e w11 ⟨rfl, hb11⟩; have HB11 := Lib.hid (HB10.out.trans (hb11.mono HB10.out.size)); have HV11 := Lib.hid ((HV10.out.below hb11).mono hb11.size); have HPW := Lib.hid (HPA.out _ (HD10.out.on hb11)); clear hb11)
                | (go_at_call 15; (with_reducible refine HPW.out.mono ?_); rintro e w12 ⟨up, rfl, hpr, hb12⟩; have HPR := Lib.hid hpr; obtain ⟨usp, hrp, _⟩ := id hpr; obtain ⟨pa, pc, rfl⟩ := owns_slice hrp; have HB12 := Lib.hid (HB11.out.trans (hb12.mono HB11.out.size)); have HV12 := Lib.hid ((HV11.out.below hb12).mono hb12.size); clear hpr hrp hb12))
              clear p0 p1 p2 p3 q0 q1 q2 q3 k1 k2 HTT
              go_wp2
              go_loopw [22, 24] (fun gv jv wr2 => ∃ j : Nat, j ≤ (dc.pasts k).length ∧ jv = .int .i64 j ∧ gv = .bool (((dc.pasts k).take j).any (fun x => decide (x = dc.cur k))) ∧ Below w12.heap.size w12 wr2) (fun _ jv _ => (dc.pasts k).length - (intOf jv).toNat)
              case atStart => exact ⟨0, Nat.zero_le _, rfl, rfl, Below.refl _ _⟩
              case round =>
                obtain ⟨j, hj, rfl, rfl, hb⟩ := hrel
                have HBT := Lib.hid hb
                have m0 : ((dc.pasts k).length : Int) ≤ 70000 := by have := HPL2.out; omega
                by_cases hltj : j < (dc.pasts k).length
                · have j0 : (0 : Int) ≤ j := by omega
                  have j1 : (j : Int) < (dc.pasts k).length := by omega
                  obtain ⟨us, h1, h2⟩ := HPR.out.below hb
                  obtain ⟨u1, hu1, ho1⟩ := h2 j _ (List.getElem?_eq_getElem hltj)
                  obtain ⟨g, cp, e⟩ := ownsRow_posP h1 (by omega)
                  simp only [Value.slice.injEq] at e
                  obtain ⟨rfl, _, rfl⟩ := e
                  have hc := h1.cellAt j (by omega)
                  rw [hu1] at hc
                  have hx := strB_beq (dc.pasts k)[j] (dc.cur k)
                  have hcv1 := conv_str ((BytesAt.of_owns ho1).below (Below.refl _ _).drew)
                  have hcv2 := conv_str ((HV12.out.below hb).below (Below.refl _ _).drew)
                  have hc : wr.drew.cell? ⟨g, j, none⟩ = some u1 := hc
                  have HN : Hid (∀ b, ((dc.pasts k).take j).any (fun x => decide (x = dc.cur k)) = b → ((dc.pasts k).take (j + 1)).any (fun x => decide (x = dc.cur k)) = (b || decide ((dc.pasts k)[j] = dc.cur k))) := fun b hb => by
                    rw [List.take_add_one, List.getElem?_eq_getElem hltj, List.any_append, hb]
                    simp
                  obtain ⟨b, hbb⟩ : ∃ b, ((dc.pasts k).take j).any (fun x => decide (x = dc.cur k)) = b := ⟨_, rfl⟩
                  have hn := HN.out b hbb
                  rw [hbb]
                  obtain ⟨X, hX⟩ : ∃ X, (dc.pasts k)[j] = X := ⟨_, rfl⟩
                  rw [hX] at hx hcv1 hn ho1
                  obtain ⟨a1', c1', rfl⟩ := owns_slice ho1
                  have HNN := Lib.hid hn
                  have HLJ := Lib.hid hltj
                  have S0 := Lib.hid (And.intro hc (And.intro hcv1 hcv2))
                  clear hb hj hltj h1 h2 hu1 ho1 HN hbb hn hX hc hcv1 hcv2
                  cases b with
                  | true =>
                    clear S0 hx
                    go_wp2
                    go_quiet (fail)
                    go_wp2
                    go_roundw
                    case rel => exact ⟨j + 1, by have := HLJ.out; omega, by go_num, by rw [HNN.out]; rfl, keep_drewN HBT.out _⟩
                    case measure => simp [intOf]; omega
                  | false =>
                    go_upto_region 41 with (fail)
                    go_region_held3 (fun W => W.cell? ⟨g, j, none⟩ = some (.slice a1' X.length c1') ∧ (convert 30 9 (.slice a1' X.length c1')).run Try.prog W = .ok (.string (strB X)) W ∧ (convert 30 9 (.slice ra dc.size rc)).run Try.prog W = .ok (.string (strB (dc.cur k))) W)
                      (exact S0.out)
                      (fail)
                    all_goals
                      go_wp2
                      go_roundw
                      case rel => exact ⟨j + 1, by have := HLJ.out; omega, by go_num, by rw [HNN.out]; rfl, HBT.out.drew⟩
                      case measure => simp [intOf]; omega
                · obtain rfl : j = (dc.pasts k).length := by omega
                  rw [List.take_length]
                  obtain ⟨b, hbb⟩ : ∃ b, (dc.pasts k).any (fun x => decide (x = dc.cur k)) = b := ⟨_, rfl⟩
                  rw [hbb]
                  have HW12 := Lib.hid (HB12.out.trans (hb.mono HB12.out.size))
                  clear hb hj hltj
                  cases b with
                  | true =>
                    have HF : Hid (dc.foulAt k = false) := by
                      unfold Hid Dev.foulAt
                      rw [hbb]
                      simp
                    clear hbb
                    go_wp2
                    go_roundw
                    case rel => exact ⟨k + 1, by have := HKL.out; omega, by go_num, by rw [fouls_snoc, if_neg (by rw [HF.out]; simp)], HW12.out⟩
                    case measure => simp [intOf]; omega
                  | false =>
                    have hft : dc.foulAt k = true := by
                      unfold Dev.foulAt
                      rw [hbb, HER.out]
                      simp
                    obtain ⟨n1, n2⟩ := fouls_at dc HKL.out hft
                    obtain ⟨fg, fo, rfl, _, cf⟩ := (HFI.out.below HW12.out).get n1
                    rw [n2] at cf
                    have HF : Hid ((dc.fouls (k + 1)).length = (dc.fouls k).length + 1) := by
                      unfold Hid
                      rw [fouls_snoc, if_pos hft]
                      simp
                    have n3 : ((dc.fouls k).length : Int) < (dc.fouls 8).length := by omega
                    have n0 : (0 : Int) ≤ (dc.fouls k).length := by omega
                    clear hbb hft n2 n1
                    go_wp2
                    go_roundw
                    case rel => exact ⟨k + 1, by have := HKL.out; omega, by go_num, by rw [HF.out]; go_num, HW12.out⟩
                    case measure => simp [intOf]; omega
          · skip
            as_aux_lemma =>
              have k1 : (er == 0) = false := by simpa using he
              have HNE := Lib.hid he
              rw [hl0] at p3
              clear he
              have HPW := Lib.hid (HPA.out _ HD10.out)
              go_upto_region 38 with (go_at_call 15; (with_reducible refine HPW.out.mono ?_); rintro e w12 ⟨up, rfl, hpr, hb12⟩; have HPR := Lib.hid hpr; obtain ⟨usp, hrp, _⟩ := id hpr; obtain ⟨pa, pc, rfl⟩ := owns_slice hrp; have HB12 := Lib.hid (HB10.out.trans (hb12.mono HB10.out.size)); have HV12 := Lib.hid ((HV10.out.below hb12).mono hb12.size); clear hpr hrp hb12)
              clear p0 p1 p2 p3 q0 q1 q2 q3 
              go_wp2
              go_loopw [22, 24] (fun gv jv wr2 => ∃ j : Nat, j ≤ (dc.pasts k).length ∧ jv = .int .i64 j ∧ gv = .bool (((dc.pasts k).take j).any (fun x => decide (x = dc.cur k))) ∧ Below w12.heap.size w12 wr2) (fun _ jv _ => (dc.pasts k).length - (intOf jv).toNat)
              case atStart => exact ⟨0, Nat.zero_le _, rfl, rfl, Below.refl _ _⟩
              case round =>
                obtain ⟨j, hj, rfl, rfl, hb⟩ := hrel
                have HBT := Lib.hid hb
                have m0 : ((dc.pasts k).length : Int) ≤ 70000 := by have := HPL2.out; omega
                by_cases hltj : j < (dc.pasts k).length
                · have j0 : (0 : Int) ≤ j := by omega
                  have j1 : (j : Int) < (dc.pasts k).length := by omega
                  obtain ⟨us, h1, h2⟩ := HPR.out.below hb
                  obtain ⟨u1, hu1, ho1⟩ := h2 j _ (List.getElem?_eq_getElem hltj)
                  obtain ⟨g, cp, e⟩ := ownsRow_posP h1 (by omega)
                  simp only [Value.slice.injEq] at e
                  obtain ⟨rfl, _, rfl⟩ := e
                  have hc := h1.cellAt j (by omega)
                  rw [hu1] at hc
                  have hx := strB_beq (dc.pasts k)[j] (dc.cur k)
                  have hcv1 := conv_str ((BytesAt.of_owns ho1).below (Below.refl _ _).drew)
                  have hcv2 := conv_str ((HV12.out.below hb).below (Below.refl _ _).drew)
                  have hc : wr.drew.cell? ⟨g, j, none⟩ = some u1 := hc
                  have HN : Hid (∀ b, ((dc.pasts k).take j).any (fun x => decide (x = dc.cur k)) = b → ((dc.pasts k).take (j + 1)).any (fun x => decide (x = dc.cur k)) = (b || decide ((dc.pasts k)[j] = dc.cur k))) := fun b hb => by
                    rw [List.take_add_one, List.getElem?_eq_getElem hltj, List.any_append, hb]
                    simp
                  obtain ⟨b, hbb⟩ : ∃ b, ((dc.pasts k).take j).any (fun x => decide (x = dc.cur k)) = b := ⟨_, rfl⟩
                  have hn := HN.out b hbb
                  rw [hbb]
                  obtain ⟨X, hX⟩ : ∃ X, (dc.pasts k)[j] = X := ⟨_, rfl⟩
                  rw [hX] at hx hcv1 hn ho1
                  obtain ⟨a1', c1', rfl⟩ := owns_slice ho1
                  have HNN := Lib.hid hn
                  have HLJ := Lib.hid hltj
                  have S0 := Lib.hid (And.intro hc (And.intro hcv1 hcv2))
                  clear hb hj hltj h1 h2 hu1 ho1 HN hbb hn hX hc hcv1 hcv2
                  cases b with
                  | true =>
                    clear S0 hx
                    go_wp2
                    go_quiet (fail)
                    go_wp2
                    go_roundw
                    case rel => exact ⟨j + 1, by have := HLJ.out; omega, by go_num, by rw [HNN.out]; rfl, keep_drewN HBT.out _⟩
                    case measure => simp [intOf]; omega
                  | false =>
                    go_upto_region 41 with (fail)
                    go_region_held3 (fun W => W.cell? ⟨g, j, none⟩ = some (.slice a1' X.length c1') ∧ (convert 30 9 (.slice a1' X.length c1')).run Try.prog W = .ok (.string (strB X)) W ∧ (convert 30 9 (.slice ra dc.size rc)).run Try.prog W = .ok (.string (strB (dc.cur k))) W)
                      (exact S0.out)
                      (fail)
                    all_goals
                      go_wp2
                      go_roundw
                      case rel => exact ⟨j + 1, by have := HLJ.out; omega, by go_num, by rw [HNN.out]; rfl, HBT.out.drew⟩
                      case measure => simp [intOf]; omega
                · obtain rfl : j = (dc.pasts k).length := by omega
                  rw [List.take_length]
                  obtain ⟨b, hbb⟩ : ∃ b, (dc.pasts k).any (fun x => decide (x = dc.cur k)) = b := ⟨_, rfl⟩
                  rw [hbb]
                  have HW12 := Lib.hid (HB12.out.trans (hb.mono HB12.out.size))
                  clear hb hj hltj
                  cases b with
                  | true =>
                    have HF : Hid (dc.foulAt k = false) := by
                      unfold Hid Dev.foulAt
                      rw [hbb]
                      simp
                    clear hbb
                    go_wp2
                    go_roundw
                    case rel => exact ⟨k + 1, by have := HKL.out; omega, by go_num, by rw [fouls_snoc, if_neg (by rw [HF.out]; simp)], HW12.out⟩
                    case measure => simp [intOf]; omega
                  | false =>
                    have HF : Hid (dc.foulAt k = false) := by
                      unfold Hid Dev.foulAt
                      rw [HER.out, decide_eq_false HNE.out]
                      rfl
                    clear hbb
                    go_wp2
                    go_roundw
                    case rel => exact ⟨k + 1, by have := HKL.out; omega, by go_num, by rw [fouls_snoc, if_neg (by rw [HF.out]; simp)], HW12.out⟩
                    case measure => simp [intOf]; omega
          · skip
            as_aux_lemma =>
              have k1 : (y.kind == kind) = false := by simpa using hk1
              rw [hl0] at p3
              clear hk1
              have HPW := Lib.hid (HPA.out _ HD10.out)
              go_upto_region 38 with (go_at_call 15; (with_reducible refine HPW.out.mono ?_); rintro e w12 ⟨up, rfl, hpr, hb12⟩; have HPR := Lib.hid hpr; obtain ⟨usp, hrp, _⟩ := id hpr; obtain ⟨pa, pc, rfl⟩ := owns_slice hrp; have HB12 := Lib.hid (HB10.out.trans (hb12.mono HB10.out.size)); have HV12 := Lib.hid ((HV10.out.below hb12).mono hb12.size); clear hpr hrp hb12)
              clear p0 p1 p2 p3 q0 q1 q2 q3 k1
              go_wp2
              go_loopw [22, 24] (fun gv jv wr2 => ∃ j : Nat, j ≤ (dc.pasts k).length ∧ jv = .int .i64 j ∧ gv = .bool (((dc.pasts k).take j).any (fun x => decide (x = dc.cur k))) ∧ Below w12.heap.size w12 wr2) (fun _ jv _ => (dc.pasts k).length - (intOf jv).toNat)
              case atStart => exact ⟨0, Nat.zero_le _, rfl, rfl, Below.refl _ _⟩
              case round =>
                obtain ⟨j, hj, rfl, rfl, hb⟩ := hrel
                have HBT := Lib.hid hb
                have m0 : ((dc.pasts k).length : Int) ≤ 70000 := by have := HPL2.out; omega
                by_cases hltj : j < (dc.pasts k).length
                · have j0 : (0 : Int) ≤ j := by omega
                  have j1 : (j : Int) < (dc.pasts k).length := by omega
                  obtain ⟨us, h1, h2⟩ := HPR.out.below hb
                  obtain ⟨u1, hu1, ho1⟩ := h2 j _ (List.getElem?_eq_getElem hltj)
                  obtain ⟨g, cp, e⟩ := ownsRow_posP h1 (by omega)
                  simp only [Value.slice.injEq] at e
                  obtain ⟨rfl, _, rfl⟩ := e
                  have hc := h1.cellAt j (by omega)
                  rw [hu1] at hc
                  have hx := strB_beq (dc.pasts k)[j] (dc.cur k)
                  have hcv1 := conv_str ((BytesAt.of_owns ho1).below (Below.refl _ _).drew)
                  have hcv2 := conv_str ((HV12.out.below hb).below (Below.refl _ _).drew)
                  have hc : wr.drew.cell? ⟨g, j, none⟩ = some u1 := hc
                  have HN : Hid (∀ b, ((dc.pasts k).take j).any (fun x => decide (x = dc.cur k)) = b → ((dc.pasts k).take (j + 1)).any (fun x => decide (x = dc.cur k)) = (b || decide ((dc.pasts k)[j] = dc.cur k))) := fun b hb => by
                    rw [List.take_add_one, List.getElem?_eq_getElem hltj, List.any_append, hb]
                    simp
                  obtain ⟨b, hbb⟩ : ∃ b, ((dc.pasts k).take j).any (fun x => decide (x = dc.cur k)) = b := ⟨_, rfl⟩
                  have hn := HN.out b hbb
                  rw [hbb]
                  obtain ⟨X, hX⟩ : ∃ X, (dc.pasts k)[j] = X := ⟨_, rfl⟩
                  rw [hX] at hx hcv1 hn ho1
                  obtain ⟨a1', c1', rfl⟩ := owns_slice ho1
                  have HNN := Lib.hid hn
                  have HLJ := Lib.hid hltj
                  have S0 := Lib.hid (And.intro hc (And.intro hcv1 hcv2))
                  clear hb hj hltj h1 h2 hu1 ho1 HN hbb hn hX hc hcv1 hcv2
                  cases b with
                  | true =>
                    clear S0 hx
                    go_wp2
                    go_quiet (fail)
                    go_wp2
                    go_roundw
                    case rel => exact ⟨j + 1, by have := HLJ.out; omega, by go_num, by rw [HNN.out]; rfl, keep_drewN HBT.out _⟩
                    case measure => simp [intOf]; omega
                  | false =>
                    go_upto_region 41 with (fail)
                    go_region_held3 (fun W => W.cell? ⟨g, j, none⟩ = some (.slice a1' X.length c1') ∧ (convert 30 9 (.slice a1' X.length c1')).run Try.prog W = .ok (.string (strB X)) W ∧ (convert 30 9 (.slice ra dc.size rc)).run Try.prog W = .ok (.string (strB (dc.cur k))) W)
                      (exact S0.out)
                      (fail)
                    all_goals
                      go_wp2
                      go_roundw
                      case rel => exact ⟨j + 1, by have := HLJ.out; omega, by go_num, by rw [HNN.out]; rfl, HBT.out.drew⟩
                      case measure => simp [intOf]; omega
                · obtain rfl : j = (dc.pasts k).length := by omega
                  rw [List.take_length]
                  obtain ⟨b, hbb⟩ : ∃ b, (dc.pasts k).any (fun x => decide (x = dc.cur k)) = b := ⟨_, rfl⟩
                  rw [hbb]
                  have HW12 := Lib.hid (HB12.out.trans (hb.mono HB12.out.size))
                  clear hb hj hltj
                  cases b with
                  | true =>
                    have HF : Hid (dc.foulAt k = false) := by
                      unfold Hid Dev.foulAt
                      rw [hbb]
                      simp
                    clear hbb
                    go_wp2
                    go_roundw
                    case rel => exact ⟨k + 1, by have := HKL.out; omega, by go_num, by rw [fouls_snoc, if_neg (by rw [HF.out]; simp)], HW12.out⟩
                    case measure => simp [intOf]; omega
                  | false =>
                    have hft : dc.foulAt k = true := by
                      unfold Dev.foulAt
                      rw [hbb, HER.out]
                      simp
                    obtain ⟨n1, n2⟩ := fouls_at dc HKL.out hft
                    obtain ⟨fg, fo, rfl, _, cf⟩ := (HFI.out.below HW12.out).get n1
                    rw [n2] at cf
                    have HF : Hid ((dc.fouls (k + 1)).length = (dc.fouls k).length + 1) := by
                      unfold Hid
                      rw [fouls_snoc, if_pos hft]
                      simp
                    have n3 : ((dc.fouls k).length : Int) < (dc.fouls 8).length := by omega
                    have n0 : (0 : Int) ≤ (dc.fouls k).length := by omega
                    clear hbb hft n2 n1
                    go_wp2
                    go_roundw
                    case rel => exact ⟨k + 1, by have := HKL.out; omega, by go_num, by rw [HF.out]; go_num, HW12.out⟩
                    case measure => simp [intOf]; omega
          · skip
            as_aux_lemma =>
              have k1 : (y.kind == kind) = true := by simpa using hk1
              have k2 : (y.place == place) = false := by simpa using hk2
              rw [hl0] at p3
              clear hk1 hk2
              have HPW := Lib.hid (HPA.out _ HD10.out)
              go_upto_region 38 with (go_at_call 15; (with_reducible refine HPW.out.mono ?_); rintro e w12 ⟨up, rfl, hpr, hb12⟩; have HPR := Lib.hid hpr; obtain ⟨usp, hrp, _⟩ := id hpr; obtain ⟨pa, pc, rfl⟩ := owns_slice hrp; have HB12 := Lib.hid (HB10.out.trans (hb12.mono HB10.out.size)); have HV12 := Lib.hid ((HV10.out.below hb12).mono hb12.size); clear hpr hrp hb12)
              clear p0 p1 p2 p3 q0 q1 q2 q3 k1 k2
              go_wp2
              go_loopw [22, 24] (fun gv jv wr2 => ∃ j : Nat, j ≤ (dc.pasts k).length ∧ jv = .int .i64 j ∧ gv = .bool (((dc.pasts k).take j).any (fun x => decide (x = dc.cur k))) ∧ Below w12.heap.size w12 wr2) (fun _ jv _ => (dc.pasts k).length - (intOf jv).toNat)
              case atStart => exact ⟨0, Nat.zero_le _, rfl, rfl, Below.refl _ _⟩
              case round =>
                obtain ⟨j, hj, rfl, rfl, hb⟩ := hrel
                have HBT := Lib.hid hb
                have m0 : ((dc.pasts k).length : Int) ≤ 70000 := by have := HPL2.out; omega
                by_cases hltj : j < (dc.pasts k).length
                · have j0 : (0 : Int) ≤ j := by omega
                  have j1 : (j : Int) < (dc.pasts k).length := by omega
                  obtain ⟨us, h1, h2⟩ := HPR.out.below hb
                  obtain ⟨u1, hu1, ho1⟩ := h2 j _ (List.getElem?_eq_getElem hltj)
                  obtain ⟨g, cp, e⟩ := ownsRow_posP h1 (by omega)
                  simp only [Value.slice.injEq] at e
                  obtain ⟨rfl, _, rfl⟩ := e
                  have hc := h1.cellAt j (by omega)
                  rw [hu1] at hc
                  have hx := strB_beq (dc.pasts k)[j] (dc.cur k)
                  have hcv1 := conv_str ((BytesAt.of_owns ho1).below (Below.refl _ _).drew)
                  have hcv2 := conv_str ((HV12.out.below hb).below (Below.refl _ _).drew)
                  have hc : wr.drew.cell? ⟨g, j, none⟩ = some u1 := hc
                  have HN : Hid (∀ b, ((dc.pasts k).take j).any (fun x => decide (x = dc.cur k)) = b → ((dc.pasts k).take (j + 1)).any (fun x => decide (x = dc.cur k)) = (b || decide ((dc.pasts k)[j] = dc.cur k))) := fun b hb => by
                    rw [List.take_add_one, List.getElem?_eq_getElem hltj, List.any_append, hb]
                    simp
                  obtain ⟨b, hbb⟩ : ∃ b, ((dc.pasts k).take j).any (fun x => decide (x = dc.cur k)) = b := ⟨_, rfl⟩
                  have hn := HN.out b hbb
                  rw [hbb]
                  obtain ⟨X, hX⟩ : ∃ X, (dc.pasts k)[j] = X := ⟨_, rfl⟩
                  rw [hX] at hx hcv1 hn ho1
                  obtain ⟨a1', c1', rfl⟩ := owns_slice ho1
                  have HNN := Lib.hid hn
                  have HLJ := Lib.hid hltj
                  have S0 := Lib.hid (And.intro hc (And.intro hcv1 hcv2))
                  clear hb hj hltj h1 h2 hu1 ho1 HN hbb hn hX hc hcv1 hcv2
                  cases b with
                  | true =>
                    clear S0 hx
                    go_wp2
                    go_quiet (fail)
                    go_wp2
                    go_roundw
                    case rel => exact ⟨j + 1, by have := HLJ.out; omega, by go_num, by rw [HNN.out]; rfl, keep_drewN HBT.out _⟩
                    case measure => simp [intOf]; omega
                  | false =>
                    go_upto_region 41 with (fail)
                    go_region_held3 (fun W => W.cell? ⟨g, j, none⟩ = some (.slice a1' X.length c1') ∧ (convert 30 9 (.slice a1' X.length c1')).run Try.prog W = .ok (.string (strB X)) W ∧ (convert 30 9 (.slice ra dc.size rc)).run Try.prog W = .ok (.string (strB (dc.cur k))) W)
                      (exact S0.out)
                      (fail)
                    all_goals
                      go_wp2
                      go_roundw
                      case rel => exact ⟨j + 1, by have := HLJ.out; omega, by go_num, by rw [HNN.out]; rfl, HBT.out.drew⟩
                      case measure => simp [intOf]; omega
                · obtain rfl : j = (dc.pasts k).length := by omega
                  rw [List.take_length]
                  obtain ⟨b, hbb⟩ : ∃ b, (dc.pasts k).any (fun x => decide (x = dc.cur k)) = b := ⟨_, rfl⟩
                  rw [hbb]
                  have HW12 := Lib.hid (HB12.out.trans (hb.mono HB12.out.size))
                  clear hb hj hltj
                  cases b with
                  | true =>
                    have HF : Hid (dc.foulAt k = false) := by
                      unfold Hid Dev.foulAt
                      rw [hbb]
                      simp
                    clear hbb
                    go_wp2
                    go_roundw
                    case rel => exact ⟨k + 1, by have := HKL.out; omega, by go_num, by rw [fouls_snoc, if_neg (by rw [HF.out]; simp)], HW12.out⟩
                    case measure => simp [intOf]; omega
                  | false =>
                    have hft : dc.foulAt k = true := by
                      unfold Dev.foulAt
                      rw [hbb, HER.out]
                      simp
                    obtain ⟨n1, n2⟩ := fouls_at dc HKL.out hft
                    obtain ⟨fg, fo, rfl, _, cf⟩ := (HFI.out.below HW12.out).get n1
                    rw [n2] at cf
                    have HF : Hid ((dc.fouls (k + 1)).length = (dc.fouls k).length + 1) := by
                      unfold Hid
                      rw [fouls_snoc, if_pos hft]
                      simp
                    have n3 : ((dc.fouls k).length : Int) < (dc.fouls 8).length := by omega
                    have n0 : (0 : Int) ≤ (dc.fouls k).length := by omega
                    clear hbb hft n2 n1
                    go_wp2
                    go_roundw
                    case rel => exact ⟨k + 1, by have := HKL.out; omega, by go_num, by rw [HF.out]; go_num, HW12.out⟩
                    case measure => simp [intOf]; omega
        · obtain rfl : k = 8 := by omega
          as_aux_lemma =>
            have HB := Lib.hid hb
            have HBD := Lib.hid (HD5.out.on hb).below
            clear hb
            go_wp2_with (go_at_call 16; (with_reducible refine (HAW.out _).mono ?_); rintro e w6 ⟨rfl, hb⟩; have HB6 := Lib.hid hb; clear hb)
            go_ret
            exact ⟨rfl, HBD.out.trans (HB6.out.mono HBD.out.size)⟩
set_option maxRecDepth 100000 in
theorem leafKeeps_lifted (os : Os) (started : os.Started) (H : Type) (enc : TypeId × Value → H) :
    ReturnsInHanded {} Try.checked os 3 .any (Rows.leafKeepsSpec.pre6 enc Try.prog Try.f3 Rows.leafKeepsRow.domain false) (Rows.leafKeepsSpec.post enc Try.prog Try.f3 false true false false) :=
  law_lifted 3 Try.f3 Rows.leafKeepsSpec Try.func3 (by kernel_rfl) rfl rfl
    (fun ds h => by match ds, h with | [_], _ => rfl) (by kernel_rfl) os started
    (ChangeSpec.witness6 (enc := enc) (C := Try.checked) false ⟨#[], #[.agg #[.slice none 0 0, .slice none 0 0, .int .i64 0, .int .i64 0]], []⟩ 8 (by kernel_rfl) (by kernel_rfl) (by kernel_rfl) (by kernel_rfl))
    fun W args ds ps hval hA => by
      rw [Try.params3] at hA hval
      obtain ⟨v0, vs0, d0, ds0, p0, q0, hargs, rfl, rfl, h0, r0⟩ := trodAll_cons hA
      obtain ⟨rfl, rfl, rfl⟩ := trodAll_nil r0
      obtain rfl : args = #[v0] := by cases args; simp_all
      obtain ⟨b0, o0⟩ := hval 0 _ v0 rfl rfl
      obtain ⟨q0, rfl, hq0⟩ := open_kept o0 h0
      exact leafKeeps_walk q0 W hq0

/-- The statement. -/
theorem leafKeeps_holds : Rows.LeafKeepsSaid :=
  OpenClaim.holds_of_wide 3 Try.f3 rfl rfl rfl rfl rfl rfl rfl ⟨rfl, rfl, rfl, rfl, rfl⟩ rfl rfl rfl rfl rfl (by kernel_rfl) Try.func3 (by kernel_rfl)
    (of_decide_eq_true (by kernel_rfl)) (by unfold Func.isWrapper; first | (rw [if_pos (by decide +kernel)]; kernel_rfl) | (rw [if_neg (by decide +kernel)]; exact ⟨rfl, rfl⟩))
    (fun os started H enc _ => leafKeeps_lifted os started H enc)
#print axioms leafKeeps_holds
end Go.Proofs.Ytiibpkncdflfcaa

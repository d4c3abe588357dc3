/-
  leaf.Build of a leaf that may be.
  Conditions: none.
-/
import Derived.Test.YtopjadmjahpeoaaLeaf2
namespace Go.Proofs.Ytopjadmjahpeoaa
open Go.RowKit

theorem leafBytes (n : Nat) (hn : n ≤ 1000) (W : World) : (Instr.makeSlice 24 (.int .i64 n) (.int .i64 n)).run Try.prog W = .ok (.slice (some ⟨W.heap.size, 0, none⟩) n n) (W.alloc (.cells (madeCells #[.int .u8 0] n) 5)) := by
  obtain ⟨i0, hi, hz0, hz1, hz2⟩ := info_parts Try.infoU8
  have h := run_make (P := Try.prog) W 24 5 i0 (.int .u8 0) Try.underlying24 hi hz0 .i64 .i64 n n (by omega) (by omega) (by rw [hz2]; omega) (by omega)
  rw [hz1] at h
  simpa [Value.cells] using h
theorem leaf_zeros (n : Nat) : (madeCells #[Value.int .u8 0] n) = (cellsOf (List.replicate n 0#8)).toArray := by
  apply Array.ext
  · simp [madeCells, cellsOf]
  · intro i h1 h2
    simp [madeCells, cellsOf, Nat.mod_one]
    rfl
theorem pad_bytes (W : World) (n : Nat) : BytesAt (W.alloc (.cells (madeCells #[.int .u8 0] n) 5)).heap.size (W.alloc (.cells (madeCells #[.int .u8 0] n) 5)) (.slice (some ⟨W.heap.size, 0, none⟩) n n) (List.replicate n 0#8) := by
  have h := bytes_new W (List.replicate n 0#8) n (by simp) (madeCells #[.int .u8 0] n) (leaf_zeros n)
  simpa using h

set_option maxRecDepth 100000 in
set_option maxHeartbeats 8000000 in
theorem build_yes (size kd pl st : Int) (v : Value) (ld : List (BitVec 8)) (w : World) (hv : BytesAt w.heap.size w v ld) (hyes : buildErr size kd pl st ld.length = 0) (hst : st ≤ 9223372036854775807) :
    Calls Try.prog 8 #[.int .i64 size, .agg #[.int .i64 kd, .int .i64 pl, .int .i64 st, v]] w (Built (leafB size kd pl st ld) 0 w) := by
  have HS := Lib.hid (lsize_any size)
  have HK := Lib.hid (lkind_any kd)
  have HR := Lib.hid (room_any size)
  have hs : sizeB size = true := by
    cases hs : sizeB size with
    | true => rfl
    | false => exact absurd hyes (by unfold buildErr; rw [hs, if_neg (by decide)]; decide)
  have hp : kindB kd = true ∧ 0 ≤ pl ∧ pl ≤ 2147483647 ∧ 0 ≤ st := by
    by_cases hp : kindB kd = true ∧ 0 ≤ pl ∧ pl ≤ 2147483647 ∧ 0 ≤ st
    · exact hp
    · exact absurd hyes (by unfold buildErr; rw [hs, if_pos rfl, if_neg hp]; decide)
  have hm : (ld.length : Int) ≤ size - 19 := by
    by_cases hm : size - 19 < ld.length
    · exact absurd hyes (by unfold buildErr; rw [hs, if_pos rfl, if_pos hp, if_pos hm]; decide)
    · omega
  have hri : roomI size = size - 19 := by unfold roomI; rw [hs]; rfl
  obtain ⟨hk, p1, p2, p3⟩ := hp
  obtain ⟨s1, s2⟩ : 96 ≤ size ∧ size ≤ 512 := by simpa [sizeB] using hs
  obtain ⟨k1, k2⟩ : 1 ≤ kd ∧ kd ≤ 4 := by simpa [kindB] using hk
  rw [hs] at HS
  rw [hk] at HK
  rw [hri] at HR
  have HNW := Lib.hid (newWriter_any size)
  have hL1 : max size 0 = size := by omega
  rw [hL1] at HNW
  clear hs hk hri hL1 hyes
  have HB0 := Lib.hid ((Below.refl w.heap.size w).alloc (Nat.le_refl _) (.cells #[.int .i64 kd, .int .i64 pl, .int .i64 st, v] 29))
  have hX : (w.alloc (.cells #[.int .i64 kd, .int .i64 pl, .int .i64 st, v] 29)).heap[w.heap.size]? = some (.cells #[.int .i64 kd, .int .i64 pl, .int .i64 st, v] 29 (0, 0)) := heap_alloc_new _ _
  have HV := Lib.hid hv
  obtain ⟨a, cap, rfl, hcap, _⟩ := hv
  obtain ⟨w0, hw0⟩ : ∃ w0, w.alloc (.cells #[.int .i64 kd, .int .i64 pl, .int .i64 st, .slice a ld.length cap] 29) = w0 := ⟨_, rfl⟩
  obtain ⟨X, hXe⟩ : ∃ X, w.heap.size = X := ⟨_, rfl⟩
  rw [hw0, hXe] at hX
  rw [hw0] at HB0
  have HA := Lib.hid ((HV.out.below HB0.out).mono HB0.out.size)
  have HX := Lib.hid hX
  obtain ⟨c0, c1, c2, c3⟩ := leaf_cells hX (Below.refl w0.heap.size w0)
  have HXE := Lib.hid hXe
  clear hXe hX
  go_enter Try.func8, Try.ntmps8
  go_upto_region 1 with (fail)
  rw [HXE.out]
  clear hw0
  go_upto_region 5 with (first
    | (go_at_call 24; (with_reducible refine (HS.out _).mono ?_); rintro e w1 ⟨rfl, rfl⟩)
    | (go_at_call 25; (with_reducible refine (HK.out _).mono ?_); rintro e w1 ⟨rfl, rfl⟩))
  go_quiet ((go_at_call 11; exact Calls.quiet_of_same ((HR.out _).mono fun _ _ h => ⟨h.1, h.2.symm⟩)))
  generalize hw5 : w0.drewN _ = w5
  have hB5 : Below w.heap.size w w5 := by rw [← hw5]; exact ⟨HB0.out.os, HB0.out.tape, HB0.out.output, HB0.out.size, HB0.out.block⟩
  have hX5 : w5.heap[X]? = some (.cells #[.int .i64 kd, .int .i64 pl, .int .i64 st, .slice a ld.length cap] 29 (0, 0)) := by rw [← hw5]; exact HX.out
  have hA5 : BytesAt w5.heap.size w5 (.slice a ld.length cap) ld := by rw [← hw5]; exact HA.out
  clear HX HA HB0 c0 c1 c2 c3 hw5
  have HX := Lib.hid hX5
  have HA := Lib.hid hA5
  have HB0 := Lib.hid hB5
  have HNEW := Lib.hid (WrAt.new w5 size (by omega))
  obtain ⟨c0, c1, c2, c3⟩ := leaf_cells hX5 (Below.refl w5.heap.size w5)
  clear hX5 hA5 hB5 HS HK
  go_upto_region 13 with (first
    | (go_at_call 26; (with_reducible refine (HNW.out _).mono ?_); rintro e w1 ⟨rfl, hw1⟩; (have hn := HNEW.out; rw [← hw1] at hn; obtain ⟨c0, c1, c2, c3⟩ := leaf_cells HX.out hn.size; have HW1 := Lib.hid hn; clear hn hw1))
    | (go_at_call 28; (with_reducible refine (HW5.out.raw _ _ ((HA.out.below HW5.out.size).mono HW5.out.size.size) (by simp [leI_len]; omega) (by omega)).mono ?_); rintro e w2 ⟨rfl, hn⟩; obtain ⟨c0, c1, c2, c3⟩ := leaf_cells HX.out hn.size; have HW6 := Lib.hid hn; clear hn)
    | (go_at_call 27; (with_reducible refine (HW4.out.numI st 8 (by omega) (by omega) rfl (by simp [leI_len]; omega) (by omega)).mono ?_); rintro e w2 ⟨rfl, hn⟩; obtain ⟨c0, c1, c2, c3⟩ := leaf_cells HX.out hn.size; have HW5 := Lib.hid hn; clear hn)
    | (go_at_call 27; (with_reducible refine (HW3.out.numI pl 4 (by omega) (by omega) rfl (by simp [leI_len]; omega) (by omega)).mono ?_); rintro e w2 ⟨rfl, hn⟩; obtain ⟨c0, c1, c2, c3⟩ := leaf_cells HX.out hn.size; have HW4 := Lib.hid hn; clear hn)
    | (go_at_call 27; (with_reducible refine (HW2.out.numI ld.length 2 (by omega) (by omega) rfl (by simp [leI_len]; omega) (by omega)).mono ?_); rintro e w2 ⟨rfl, hn⟩; obtain ⟨c0, c1, c2, c3⟩ := leaf_cells HX.out hn.size; have HW3 := Lib.hid hn; clear hn)
    | (go_at_call 27; (with_reducible refine (HW1.out.numI kd 1 (by omega) (by omega) rfl (by simp; omega) (by omega)).mono ?_); rintro e w2 ⟨rfl, hn⟩; obtain ⟨c0, c1, c2, c3⟩ := leaf_cells HX.out hn.size; have HW2 := Lib.hid hn; clear hn))
  obtain ⟨pad, hpad⟩ : ∃ pad : Nat, size - 19 - ld.length = pad := ⟨(size - 19 - ld.length).toNat, by omega⟩
  have hpn : (size - 19 - ld.length).toNat = pad := by omega
  have hmk : ∀ W : World, (Instr.makeSlice 24 (.int .i64 pad) (.int .i64 pad)).run Try.prog W = .ok (.slice (some ⟨W.heap.size, 0, none⟩) pad pad) (W.alloc (.cells (madeCells #[.int .u8 0] pad) 5)) := leafBytes pad (by omega)
  have hpi : (pad : Int) ≤ 512 := by omega
  have hpw : IntKind.i64.wrap (pad : Int) = pad := IntWalk.i64_in _ (by omega)
  have HBODY : Hid ([] ++ leI 1 kd ++ leI 2 ld.length ++ leI 4 pl ++ leI 8 st ++ ld ++ List.replicate pad 0#8 = leafBody size kd pl st ld) := by unfold Hid leafBody; rw [hpn]
  have hbel : Below w2.heap.size w2 (w2.alloc (.cells (madeCells #[.int .u8 0] pad) 5)).drew := ((Below.refl w2.heap.size w2).alloc (Nat.le_refl _) _).drew
  have hraw := (HW6.out.behind hbel).raw (.slice (some ⟨w2.heap.size, 0, none⟩) pad pad) (List.replicate pad 0#8) (show BytesAt (w2.alloc (.cells (madeCells #[.int .u8 0] pad) 5)).drew.heap.size (w2.alloc (.cells (madeCells #[.int .u8 0] pad) 5)).drew _ _ from pad_bytes w2 pad) (by simp [leI_len]; omega) (by omega)
  rw [HBODY.out] at hraw
  have HRAW := Lib.hid hraw
  clear hraw hpn
  go_cut [] (fun wx => WrAt w5 (leafBody size kd pl st ld) size wx)
  case first =>
    go_region_with (first
      | (go_at_call 11; (with_reducible refine (HR.out _).mono ?_); rintro e w3 ⟨rfl, rfl⟩)
      | (go_at_call 28; (with_reducible refine HRAW.out.mono ?_); rintro e w3 ⟨rfl, hn⟩; have HW7 := Lib.hid hn; clear hn))
    all_goals (go_wp2_with fail)
    all_goals go_meet
    all_goals exact HW7.out
  case rest =>
    have hlen := leafBody_len kd pl st hm
    obtain ⟨body, hbody⟩ : ∃ body, leafBody size kd pl st ld = body := ⟨_, rfl⟩
    have HLB : Hid (leafB size kd pl st ld = body ++ leI 4 (U (Crc.crcAdd 0#32 body))) := by unfold Hid leafB; rw [hbody]
    rw [hbody] at hlen hcut
    have HBY := Lib.hid (hcut.take (by omega))
    have HS2 := Lib.hid (fun W u h => Crc.sum_any body u (by omega) W h)
    obtain ⟨s, hs⟩ : ∃ s, Crc.crcAdd 0#32 body = s := ⟨_, rfl⟩
    rw [hs] at HS2 HLB
    have hwr : IntKind.u64.wrap (U s) = U s := by
      have h1 := U_nonneg s
      have h2 := U_lt s
      simp [IntKind.wrap, IntKind.bits, IntKind.signed]; omega
    have HU : Hid (0 ≤ U s ∧ U s < 18446744073709551616) := ⟨U_nonneg s, by have := U_lt s; omega⟩
    have HLEN := Lib.hid hlen
    clear hs hlen hcut hbody HBODY HRAW HR HNW HA HW1 HW2 HW3 HW4 HW5 HW6 HNEW c0 c1 c2 c3
    go_wp2_with (first
      | (go_at_call 30; (with_reducible refine HBY2.out.mono ?_); rintro e w9 ⟨u2, rfl, hu2, hb2, hn2⟩; have HU2 := Lib.hid hu2; have HB2 := Lib.hid hb2; clear hu2 hb2 hn2)
      | (go_at_call 30; (with_reducible refine HBY.out.mono ?_); rintro e w9 ⟨u, rfl, hu, hb, hn⟩; have HSUM := Lib.hid (HS2.out _ u (crc_bytes (BytesAt.of_owns hu))); have HW8 := Lib.hid hn; clear hu hb hn)
      | (go_at_call 29; (with_reducible refine HSUM.out.mono ?_); rintro e w9 ⟨rfl, hb⟩; have HNUM := Lib.hid ((HW8.out.behind hb).numI (U s) 4 HU.out.1 HU.out.2 rfl (by have := HLEN.out; omega) (by omega)); clear hb)
      | (go_at_call 27; (with_reducible refine HNUM.out.mono ?_); rintro e w9 ⟨rfl, hn⟩; have HW9 := Lib.hid hn; have HBY2 := Lib.hid (hn.take (by omega)); clear hn))
    go_ret2
    rw [← HLB.out] at HU2
    refine ⟨_, rfl, base_own HU2.out (Nat.le_trans HB0.out.size HW9.out.size.size), HB0.out.trans ((HW9.out.size.trans (HB2.out.mono HW9.out.size.size)).mono HB0.out.size)⟩
end Go.Proofs.Ytopjadmjahpeoaa

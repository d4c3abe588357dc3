/-
  Joined: Leaf1, Leaf2, Leaf3, Leaf4.
  Conditions: none.
-/
import Derived.Test.YtiibpkncdflfcaaJW
import Derived.Test.YtiibpkncdflfcaaJC
import Derived.Deep.DeepCutAuto
import Derived.Deep.RegionHeld3
import Derived.Deep.RegionWith
import Derived.Outline
import Derived.Laws.Tables
import Derived.Laws.Rows
namespace Go.Proofs.Ytiibpkncdflfcaa
open Go.RowKit

def sizeB (n : Int) : Bool := decide (96 ≤ n ∧ n ≤ 512)
def kindB (n : Int) : Bool := decide (1 ≤ n ∧ n ≤ 4)
theorem lsize_any (n : Int) (w : World) : Calls Try.prog 38 #[.int .i64 n] w fun e w' => e = .returned (.bool (sizeB n)) ∧ w = w' := by
  by_cases h1 : 96 ≤ n <;> by_cases h2 : n ≤ 512 <;> (
    have HB : Hid (sizeB n = decide (96 ≤ n ∧ n ≤ 512)) := rfl
    simp [h1, h2] at HB
    go_enter Try.func38, Try.ntmps38
    go_wp2
    go_ret
    exact ⟨by rw [HB.out]; rfl, rfl⟩)
theorem lkind_any (n : Int) (w : World) : Calls Try.prog 39 #[.int .i64 n] w fun e w' => e = .returned (.bool (kindB n)) ∧ w = w' := by
  by_cases h : kindB n = true
  · have HB := Lib.hid h
    have h' : 1 ≤ n ∧ n ≤ 4 := by simpa [kindB] using h
    have h4 : n = 1 ∨ n = 2 ∨ n = 3 ∨ n = 4 := by omega
    clear h h'
    rcases h4 with rfl | rfl | rfl | rfl <;> (
      go_enter Try.func39, Try.ntmps39
      go_wp2
      go_ret
      exact ⟨by rw [HB.out]; rfl, rfl⟩)
  · have HB : Hid (kindB n = false) := by unfold Hid; simpa using h
    have h' : ¬ (1 ≤ n ∧ n ≤ 4) := by simpa [kindB] using h
    have n1 : (n == 1) = false := by simp; omega
    have n2 : (n == 2) = false := by simp; omega
    have n3 : (n == 3) = false := by simp; omega
    have n4 : (n == 4) = false := by simp; omega
    clear h h'
    go_enter Try.func39, Try.ntmps39
    go_wp2
    go_ret
    exact ⟨by rw [HB.out]; rfl, rfl⟩
/-- How long a load may be. -/
def roomI (n : Int) : Int := if sizeB n then n - 19 else 0
theorem room_any (n : Int) (w : World) : Calls Try.prog 34 #[.int .i64 n] w fun e w' => e = .returned (.int .i64 (roomI n)) ∧ w = w' := by
  have HS := Lib.hid (lsize_any n)
  cases hk : sizeB n with
  | false =>
    have HR : Hid (roomI n = 0) := by unfold Hid roomI; rw [hk]; rfl
    rw [hk] at HS
    go_enter Try.func34, Try.ntmps34
    go_wp2_with (go_at_call 38; (with_reducible refine (HS.out _).mono ?_); rintro e w1 ⟨rfl, rfl⟩)
    go_ret
    exact ⟨by rw [HR.out]; rfl, rfl⟩
  | true =>
    have HR : Hid (roomI n = n - 19) := by unfold Hid roomI; rw [hk]; rfl
    obtain ⟨k1, k2⟩ : 96 ≤ n ∧ n ≤ 512 := by simpa [sizeB] using hk
    rw [hk] at HS
    go_enter Try.func34, Try.ntmps34
    go_wp2_with (go_at_call 38; (with_reducible refine (HS.out _).mono ?_); rintro e w1 ⟨rfl, rfl⟩)
    go_ret
    exact ⟨by rw [HR.out]; rfl, rfl⟩

/-- The bytes of a leaf's sector but for its check, and all of them. -/
def leafBody (size kind place stamp : Int) (load : List (BitVec 8)) : List (BitVec 8) := [] ++ leI 1 kind ++ leI 2 load.length ++ leI 4 place ++ leI 8 stamp ++ load ++ List.replicate (size - 19 - load.length).toNat 0#8
def buildErr (size kind place stamp len : Int) : Int := if sizeB size then (if kindB kind ∧ 0 ≤ place ∧ place ≤ 2147483647 ∧ 0 ≤ stamp then (if size - 19 < len then 9 else 0) else 1) else 3
end Go.Proofs.Ytiibpkncdflfcaa
namespace Go.Proofs.Ytiibpkncdflfcaa
open Go.RowKit

theorem leaf_cells {w0 W : World} {X : Nat} {v1 v2 v3 v4 : Value} {t : TypeId} (h : w0.heap[X]? = some (.cells #[v1, v2, v3, v4] t (0, 0))) (hb : Below w0.heap.size w0 W) :
    W.cell? ⟨X, 0, none⟩ = some v1 ∧ W.cell? ⟨X, 1, none⟩ = some v2 ∧ W.cell? ⟨X, 2, none⟩ = some v3 ∧ W.cell? ⟨X, 3, none⟩ = some v4 :=
  ⟨(hb.cell (p := ⟨X, 0, none⟩) (blk_lt h)).trans (blk_cell h 0), (hb.cell (p := ⟨X, 1, none⟩) (blk_lt h)).trans (blk_cell h 1), (hb.cell (p := ⟨X, 2, none⟩) (blk_lt h)).trans (blk_cell h 2), (hb.cell (p := ⟨X, 3, none⟩) (blk_lt h)).trans (blk_cell h 3)⟩
/-- All bytes of a leaf's sector. -/
def leafB (size kind place stamp : Int) (load : List (BitVec 8)) : List (BitVec 8) := leafBody size kind place stamp load ++ leI 4 (U (Crc.crcAdd 0#32 (leafBody size kind place stamp load)))
theorem leafBody_len {size : Int} (kind place stamp : Int) {load : List (BitVec 8)} (h : (load.length : Int) ≤ size - 19) : ((leafBody size kind place stamp load).length : Int) = size - 4 := by
  simp [leafBody, leI_len]; omega
theorem leafB_len {size : Int} (kind place stamp : Int) {load : List (BitVec 8)} (h : (load.length : Int) ≤ size - 19) : ((leafB size kind place stamp load).length : Int) = size := by
  have := leafBody_len kind place stamp h
  simp only [leafB, List.length_append, leI_len, Int.natCast_add, this]
  simp
def buildB (size kind place stamp : Int) (load : List (BitVec 8)) : List (BitVec 8) := if buildErr size kind place stamp load.length = 0 then leafB size kind place stamp load else []
/-- What Build leaves. -/
def Built (bs : List (BitVec 8)) (er : Int) (w : World) (e : Ending) (w' : World) : Prop := ∃ u, e = .returned (.tuple #[u, .int .i64 er]) ∧ w'.ownsRow w.heap.size 5 1 u bs.length (cellsOf bs) ∧ Below w.heap.size w w'
theorem Built.drewN {bs : List (BitVec 8)} {er : Int} {w w' : World} {e : Ending} (h : Built bs er w e w') (n : Nat) : Built bs er w e (w'.drewN n) := by
  obtain ⟨u, h1, h2, h3⟩ := h
  exact ⟨u, h1, h2, ⟨h3.os, h3.tape, h3.output, h3.size, h3.block⟩⟩
theorem crc_bytes {n : Nat} {w : World} {v : Value} {bs : List (BitVec 8)} (h : BytesAt n w v bs) : Crc.BytesAt n w v bs := by
  obtain ⟨a, cap, rfl, _, h0, h⟩ := h
  exact ⟨a, cap, rfl, h0, h⟩

set_option maxRecDepth 100000 in
set_option maxHeartbeats 4000000 in
theorem build_no (size kd pl st : Int) (v : Value) (ld : List (BitVec 8)) (w : World) (hv : BytesAt w.heap.size w v ld) (hne : buildErr size kd pl st ld.length ≠ 0) :
    Calls Try.prog 22 #[.int .i64 size, .agg #[.int .i64 kd, .int .i64 pl, .int .i64 st, v]] w (Built [] (buildErr size kd pl st ld.length) w) := by
  have HS := Lib.hid (lsize_any size)
  have HK := Lib.hid (lkind_any kd)
  have HR := Lib.hid (room_any size)
  have HB0 := Lib.hid ((Below.refl w.heap.size w).alloc (Nat.le_refl _) (.cells #[.int .i64 kd, .int .i64 pl, .int .i64 st, v] 39))
  have HNO := Lib.hid (fun (er : Int) (h : buildErr size kd pl st ld.length = er) => (show Built [] (buildErr size kd pl st ld.length) w (.returned (.tuple #[.slice none 0 0, .int .i64 er])) (w.alloc (.cells #[.int .i64 kd, .int .i64 pl, .int .i64 st, v] 39)) from
    ⟨_, by rw [h], World.ownsRow_nil _ _ _ _, HB0.out⟩))
  obtain ⟨a, cap, rfl, hcap, _⟩ := hv
  cases hs : sizeB size with
  | false =>
    have HN := Lib.hid (HNO.out 3 (by unfold buildErr; rw [hs]; rfl))
    clear HNO hne
    rw [hs] at HS
    go_enter Try.func22, Try.ntmps22
    go_wp2_with (go_at_call 38; (with_reducible refine (HS.out _).mono ?_); rintro e w1 ⟨rfl, rfl⟩)
    go_ret2
    exact HN.out
  | true =>
    rw [hs] at HS
    by_cases hp : kindB kd = true ∧ 0 ≤ pl ∧ pl ≤ 2147483647 ∧ 0 ≤ st
    · obtain ⟨hk, p1, p2, p3⟩ := hp
      rw [hk] at HK
      have hm : size - 19 < ld.length := by
        by_cases hm : size - 19 < ld.length
        · exact hm
        · exact absurd (by unfold buildErr; rw [hs, if_pos rfl, if_pos ⟨hk, p1, p2, p3⟩, if_neg hm]) hne
      have HN := Lib.hid (HNO.out 9 (by unfold buildErr; rw [hs, if_pos rfl, if_pos ⟨hk, p1, p2, p3⟩, if_pos hm]))
      have hri : roomI size = size - 19 := by unfold roomI; rw [hs]; rfl
      rw [hri] at HR
      clear HNO hne hs hri hk
      go_enter Try.func22, Try.ntmps22
      go_upto_region 5 with (first
        | (go_at_call 38; (with_reducible refine (HS.out _).mono ?_); rintro e w1 ⟨rfl, rfl⟩)
        | (go_at_call 39; (with_reducible refine (HK.out _).mono ?_); rintro e w1 ⟨rfl, rfl⟩))
      go_quiet ((go_at_call 34; exact Calls.quiet_of_same ((HR.out _).mono fun _ _ h => ⟨h.1, h.2.symm⟩)))
      go_wp2
      go_ret2
      exact HN.out.drewN _
    · have HN := Lib.hid (HNO.out 1 (by unfold buildErr; rw [hs, if_pos rfl, if_neg hp]))
      clear HNO hne hs
      cases hk : kindB kd with
      | false =>
        rw [hk] at HK
        clear hp hk
        go_enter Try.func22, Try.ntmps22
        go_wp2_with (first
          | (go_at_call 38; (with_reducible refine (HS.out _).mono ?_); rintro e w1 ⟨rfl, rfl⟩)
          | (go_at_call 39; (with_reducible refine (HK.out _).mono ?_); rintro e w1 ⟨rfl, rfl⟩))
        go_ret2
        exact HN.out
      | true =>
        have hp' : ¬ (0 ≤ pl ∧ pl ≤ 2147483647 ∧ 0 ≤ st) := fun h => hp ⟨hk, h⟩
        rw [hk] at HK
        clear hp hk
        by_cases p1 : 0 ≤ pl
        · by_cases p2 : pl ≤ 2147483647
          · have p3 : st < 0 := by omega
            clear hp'
            go_enter Try.func22, Try.ntmps22
            go_wp2_with (first
              | (go_at_call 38; (with_reducible refine (HS.out _).mono ?_); rintro e w1 ⟨rfl, rfl⟩)
              | (go_at_call 39; (with_reducible refine (HK.out _).mono ?_); rintro e w1 ⟨rfl, rfl⟩))
            go_ret2
            exact HN.out
          · clear hp'
            go_enter Try.func22, Try.ntmps22
            go_wp2_with (first
              | (go_at_call 38; (with_reducible refine (HS.out _).mono ?_); rintro e w1 ⟨rfl, rfl⟩)
              | (go_at_call 39; (with_reducible refine (HK.out _).mono ?_); rintro e w1 ⟨rfl, rfl⟩))
            go_ret2
            exact HN.out
        · clear hp'
          go_enter Try.func22, Try.ntmps22
          go_wp2_with (first
            | (go_at_call 38; (with_reducible refine (HS.out _).mono ?_); rintro e w1 ⟨rfl, rfl⟩)
            | (go_at_call 39; (with_reducible refine (HK.out _).mono ?_); rintro e w1 ⟨rfl, rfl⟩))
          go_ret2
          exact HN.out
end Go.Proofs.Ytiibpkncdflfcaa
namespace Go.Proofs.Ytiibpkncdflfcaa
open Go.RowKit

theorem leafBytes (n : Nat) (hn : n ≤ 1000) (W : World) : (Instr.makeSlice 30 (.int .i64 n) (.int .i64 n)).run Try.prog W = .ok (.slice (some ⟨W.heap.size, 0, none⟩) n n) (W.alloc (.cells (madeCells #[.int .u8 0] n) 5)) := by
  obtain ⟨i0, hi, hz0, hz1, hz2⟩ := info_parts Try.infoU8
  have h := run_make (P := Try.prog) W 30 5 i0 (.int .u8 0) Try.underlying30 hi hz0 .i64 .i64 n n (by omega) (by omega) (by rw [hz2]; omega) (by omega)
  rw [hz1] at h
  simpa [Value.cells] using h
theorem leaf_zeros (n : Nat) : (madeCells #[Value.int .u8 0] n) = (cellsOf (List.replicate n 0#8)).toArray := by
  apply Array.ext
  · simp [madeCells, cellsOf]
  · intro i h1 h2
    simp [madeCells, cellsOf, Nat.mod_one]
    rfl
theorem pad_bytes (W : World) (n : Nat) : BytesAt (W.alloc (.cells (madeCells #[.int .u8 0] n) 5)).heap.size (W.alloc (.cells (madeCells #[.int .u8 0] n) 5)) (.slice (some ⟨W.heap.size, 0, none⟩) n n) (List.replicate n 0#8) := by
  have h := bytes_new W (List.replicate n 0#8) n (by simp) (madeCells #[.int .u8 0] n) (leaf_zeros n)
  simpa using h

set_option maxRecDepth 100000 in
set_option maxHeartbeats 8000000 in
theorem build_yes (size kd pl st : Int) (v : Value) (ld : List (BitVec 8)) (w : World) (hv : BytesAt w.heap.size w v ld) (hyes : buildErr size kd pl st ld.length = 0) (hst : st ≤ 9223372036854775807) :
    Calls Try.prog 22 #[.int .i64 size, .agg #[.int .i64 kd, .int .i64 pl, .int .i64 st, v]] w (Built (leafB size kd pl st ld) 0 w) := by
  have HS := Lib.hid (lsize_any size)
  have HK := Lib.hid (lkind_any kd)
  have HR := Lib.hid (room_any size)
  have hs : sizeB size = true := by
    cases hs : sizeB size with
    | true => rfl
    | false => exact absurd hyes (by unfold buildErr; rw [hs, if_neg (by decide)]; decide)
  have hp : kindB kd = true ∧ 0 ≤ pl ∧ pl ≤ 2147483647 ∧ 0 ≤ st := by
    by_cases hp : kindB kd = true ∧ 0 ≤ pl ∧ pl ≤ 2147483647 ∧ 0 ≤ st
    · exact hp
    · exact absurd hyes (by unfold buildErr; rw [hs, if_pos rfl, if_neg hp]; decide)
  have hm : (ld.length : Int) ≤ size - 19 := by
    by_cases hm : size - 19 < ld.length
    · exact absurd hyes (by unfold buildErr; rw [hs, if_pos rfl, if_pos hp, if_pos hm]; decide)
    · omega
  have hri : roomI size = size - 19 := by unfold roomI; rw [hs]; rfl
  obtain ⟨hk, p1, p2, p3⟩ := hp
  obtain ⟨s1, s2⟩ : 96 ≤ size ∧ size ≤ 512 := by simpa [sizeB] using hs
  obtain ⟨k1, k2⟩ : 1 ≤ kd ∧ kd ≤ 4 := by simpa [kindB] using hk
  rw [hs] at HS
  rw [hk] at HK
  rw [hri] at HR
  have HNW := Lib.hid (newWriter_any size)
  have hL1 : max size 0 = size := by omega
  rw [hL1] at HNW
  clear hs hk hri hL1 hyes
  have HB0 := Lib.hid ((Below.refl w.heap.size w).alloc (Nat.le_refl _) (.cells #[.int .i64 kd, .int .i64 pl, .int .i64 st, v] 39))
  have hX : (w.alloc (.cells #[.int .i64 kd, .int .i64 pl, .int .i64 st, v] 39)).heap[w.heap.size]? = some (.cells #[.int .i64 kd, .int .i64 pl, .int .i64 st, v] 39 (0, 0)) := heap_alloc_new _ _
  have HV := Lib.hid hv
  obtain ⟨a, cap, rfl, hcap, _⟩ := hv
  obtain ⟨w0, hw0⟩ : ∃ w0, w.alloc (.cells #[.int .i64 kd, .int .i64 pl, .int .i64 st, .slice a ld.length cap] 39) = w0 := ⟨_, rfl⟩
  obtain ⟨X, hXe⟩ : ∃ X, w.heap.size = X := ⟨_, rfl⟩
  rw [hw0, hXe] at hX
  rw [hw0] at HB0
  have HA := Lib.hid ((HV.out.below HB0.out).mono HB0.out.size)
  have HX := Lib.hid hX
  obtain ⟨c0, c1, c2, c3⟩ := leaf_cells hX (Below.refl w0.heap.size w0)
  have HXE := Lib.hid hXe
  clear hXe hX
  go_enter Try.func22, Try.ntmps22
  go_upto_region 1 with (fail)
  rw [HXE.out]
  clear hw0
  go_upto_region 5 with (first
    | (go_at_call 38; (with_reducible refine (HS.out _).mono ?_); rintro e w1 ⟨rfl, rfl⟩)
    | (go_at_call 39; (with_reducible refine (HK.out _).mono ?_); rintro e w1 ⟨rfl, rfl⟩))
  go_quiet ((go_at_call 34; exact Calls.quiet_of_same ((HR.out _).mono fun _ _ h => ⟨h.1, h.2.symm⟩)))
  generalize hw5 : w0.drewN _ = w5
  have hB5 : Below w.heap.size w w5 := by rw [← hw5]; exact ⟨HB0.out.os, HB0.out.tape, HB0.out.output, HB0.out.size, HB0.out.block⟩
  have hX5 : w5.heap[X]? = some (.cells #[.int .i64 kd, .int .i64 pl, .int .i64 st, .slice a ld.length cap] 39 (0, 0)) := by rw [← hw5]; exact HX.out
  have hA5 : BytesAt w5.heap.size w5 (.slice a ld.length cap) ld := by rw [← hw5]; exact HA.out
  clear HX HA HB0 c0 c1 c2 c3 hw5
  have HX := Lib.hid hX5
  have HA := Lib.hid hA5
  have HB0 := Lib.hid hB5
  have HNEW := Lib.hid (WrAt.new w5 size (by omega))
  obtain ⟨c0, c1, c2, c3⟩ := leaf_cells hX5 (Below.refl w5.heap.size w5)
  clear hX5 hA5 hB5 HS HK
  go_upto_region 13 with (first
    | (go_at_call 40; (with_reducible refine (HNW.out _).mono ?_); rintro e w1 ⟨rfl, hw1⟩; (have hn := HNEW.out; rw [← hw1] at hn; obtain ⟨c0, c1, c2, c3⟩ := leaf_cells HX.out hn.size; have HW1 := Lib.hid hn; clear hn hw1))
    | (go_at_call 42; (with_reducible refine (HW5.out.raw _ _ ((HA.out.below HW5.out.size).mono HW5.out.size.size) (by simp [leI_len]; omega) (by omega)).mono ?_); rintro e w2 ⟨rfl, hn⟩; obtain ⟨c0, c1, c2, c3⟩ := leaf_cells HX.out hn.size; have HW6 := Lib.hid hn; clear hn)
    | (go_at_call 41; (with_reducible refine (HW4.out.numI st 8 (by omega) (by omega) rfl (by simp [leI_len]; omega) (by omega)).mono ?_); rintro e w2 ⟨rfl, hn⟩; obtain ⟨c0, c1, c2, c3⟩ := leaf_cells HX.out hn.size; have HW5 := Lib.hid hn; clear hn)
    | (go_at_call 41; (with_reducible refine (HW3.out.numI pl 4 (by omega) (by omega) rfl (by simp [leI_len]; omega) (by omega)).mono ?_); rintro e w2 ⟨rfl, hn⟩; obtain ⟨c0, c1, c2, c3⟩ := leaf_cells HX.out hn.size; have HW4 := Lib.hid hn; clear hn)
    | (go_at_call 41; (with_reducible refine (HW2.out.numI ld.length 2 (by omega) (by omega) rfl (by simp [leI_len]; omega) (by omega)).mono ?_); rintro e w2 ⟨rfl, hn⟩; obtain ⟨c0, c1, c2, c3⟩ := leaf_cells HX.out hn.size; have HW3 := Lib.hid hn; clear hn)
    | (go_at_call 41; (with_reducible refine (HW1.out.numI kd 1 (by omega) (by omega) rfl (by simp; omega) (by omega)).mono ?_); rintro e w2 ⟨rfl, hn⟩; obtain ⟨c0, c1, c2, c3⟩ := leaf_cells HX.out hn.size; have HW2 := Lib.hid hn; clear hn))
  obtain ⟨pad, hpad⟩ : ∃ pad : Nat, size - 19 - ld.length = pad := ⟨(size - 19 - ld.length).toNat, by omega⟩
  have hpn : (size - 19 - ld.length).toNat = pad := by omega
  have hmk : ∀ W : World, (Instr.makeSlice 30 (.int .i64 pad) (.int .i64 pad)).run Try.prog W = .ok (.slice (some ⟨W.heap.size, 0, none⟩) pad pad) (W.alloc (.cells (madeCells #[.int .u8 0] pad) 5)) := leafBytes pad (by omega)
  have hpi : (pad : Int) ≤ 512 := by omega
  have hpw : IntKind.i64.wrap (pad : Int) = pad := IntWalk.i64_in _ (by omega)
  have HBODY : Hid ([] ++ leI 1 kd ++ leI 2 ld.length ++ leI 4 pl ++ leI 8 st ++ ld ++ List.replicate pad 0#8 = leafBody size kd pl st ld) := by unfold Hid leafBody; rw [hpn]
  have hbel : Below w2.heap.size w2 (w2.alloc (.cells (madeCells #[.int .u8 0] pad) 5)).drew := ((Below.refl w2.heap.size w2).alloc (Nat.le_refl _) _).drew
  have hraw := (HW6.out.behind hbel).raw (.slice (some ⟨w2.heap.size, 0, none⟩) pad pad) (List.replicate pad 0#8) (show BytesAt (w2.alloc (.cells (madeCells #[.int .u8 0] pad) 5)).drew.heap.size (w2.alloc (.cells (madeCells #[.int .u8 0] pad) 5)).drew _ _ from pad_bytes w2 pad) (by simp [leI_len]; omega) (by omega)
  rw [HBODY.out] at hraw
  have HRAW := Lib.hid hraw
  clear hraw hpn
  go_cut [] (fun wx => WrAt w5 (leafBody size kd pl st ld) size wx)
  case first =>
    go_region_with (first
      | (go_at_call 34; (with_reducible refine (HR.out _).mono ?_); rintro e w3 ⟨rfl, rfl⟩)
      | (go_at_call 42; (with_reducible refine HRAW.out.mono ?_); rintro e w3 ⟨rfl, hn⟩; have HW7 := Lib.hid hn; clear hn))
    all_goals (go_wp2_with fail)
    all_goals go_meet
    all_goals exact HW7.out
  case rest =>
    have hlen := leafBody_len kd pl st hm
    obtain ⟨body, hbody⟩ : ∃ body, leafBody size kd pl st ld = body := ⟨_, rfl⟩
    have HLB : Hid (leafB size kd pl st ld = body ++ leI 4 (U (Crc.crcAdd 0#32 body))) := by unfold Hid leafB; rw [hbody]
    rw [hbody] at hlen hcut
    have HBY := Lib.hid (hcut.take (by omega))
    have HS2 := Lib.hid (fun W u h => Crc.sum_any body u (by omega) W h)
    obtain ⟨s, hs⟩ : ∃ s, Crc.crcAdd 0#32 body = s := ⟨_, rfl⟩
    rw [hs] at HS2 HLB
    have hwr : IntKind.u64.wrap (U s) = U s := by
      have h1 := U_nonneg s
      have h2 := U_lt s
      simp [IntKind.wrap, IntKind.bits, IntKind.signed]; omega
    have HU : Hid (0 ≤ U s ∧ U s < 18446744073709551616) := ⟨U_nonneg s, by have := U_lt s; omega⟩
    have HLEN := Lib.hid hlen
    clear hs hlen hcut hbody HBODY HRAW HR HNW HA HW1 HW2 HW3 HW4 HW5 HW6 HNEW c0 c1 c2 c3
    go_wp2_with (first
      | (go_at_call 44; (with_reducible refine HBY2.out.mono ?_); rintro e w9 ⟨u2, rfl, hu2, hb2, hn2⟩; have HU2 := Lib.hid hu2; have HB2 := Lib.hid hb2; clear hu2 hb2 hn2)
      | (go_at_call 44; (with_reducible refine HBY.out.mono ?_); rintro e w9 ⟨u, rfl, hu, hb, hn⟩; have HSUM := Lib.hid (HS2.out _ u (crc_bytes (BytesAt.of_owns hu))); have HW8 := Lib.hid hn; clear hu hb hn)
      | (go_at_call 43; (with_reducible refine HSUM.out.mono ?_); rintro e w9 ⟨rfl, hb⟩; have HNUM := Lib.hid ((HW8.out.behind hb).numI (U s) 4 HU.out.1 HU.out.2 rfl (by have := HLEN.out; omega) (by omega)); clear hb)
      | (go_at_call 41; (with_reducible refine HNUM.out.mono ?_); rintro e w9 ⟨rfl, hn⟩; have HW9 := Lib.hid hn; have HBY2 := Lib.hid (hn.take (by omega)); clear hn))
    go_ret2
    rw [← HLB.out] at HU2
    refine ⟨_, rfl, base_own HU2.out (Nat.le_trans HB0.out.size HW9.out.size.size), HB0.out.trans ((HW9.out.size.trans (HB2.out.mono HW9.out.size.size)).mono HB0.out.size)⟩
end Go.Proofs.Ytiibpkncdflfcaa
namespace Go.Proofs.Ytiibpkncdflfcaa
open Go.RowKit

theorem build_any (size kd pl st : Int) (v : Value) (ld : List (BitVec 8)) (w : World) (hv : BytesAt w.heap.size w v ld) (hst : st ≤ 9223372036854775807) :
    Calls Try.prog 22 #[.int .i64 size, .agg #[.int .i64 kd, .int .i64 pl, .int .i64 st, v]] w (Built (buildB size kd pl st ld) (buildErr size kd pl st ld.length) w) := by
  by_cases h : buildErr size kd pl st ld.length = 0
  · unfold buildB
    rw [if_pos h, h]
    exact build_yes size kd pl st v ld w hv h hst
  · unfold buildB
    rw [if_neg h]
    exact build_no size kd pl st v ld w hv h

/-- A leaf: its numbers, its load. -/
structure LeafP where
  kind : Int
  place : Int
  stamp : Int
  load : List (BitVec 8)
def LeafP.cells (x : LeafP) (u : Value) : Array Value := #[.int .i64 x.kind, .int .i64 x.place, .int .i64 x.stamp, u]
def LeafP.zero : LeafP := ⟨0, 0, 0, []⟩
/-- What lies in a sector as a leaf. -/
def seem (bs : List (BitVec 8)) : LeafP :=
  ⟨wrap64 (U (leOf (bs.take 1))), wrap64 (U (leOf ((bs.drop 3).take 4))), wrap64 (U (leOf ((bs.drop 7).take 8))),
    takenB (bs.drop 15) (tookN (bs.drop 15) true (wrap64 (U (leOf ((bs.drop 1).take 2)))))⟩
theorem leaf_sz (x : LeafP) (u : Value) : (Try.prog.info? 39).map (·.size) = some (x.cells u).size := by show _ = some 4; kernel_rfl
theorem leaf_one (x : LeafP) {a : Option Addr} {n c : Nat} : (x.cells (.slice a n c)).all (·.oneCell') = true := by simp [LeafP.cells, Value.oneCell']
theorem leaf_one_by {x : LeafP} {n : Nat} {w : World} {u : Value} {bs : List (BitVec 8)} (h : BytesAt n w u bs) : (x.cells u).all (·.oneCell') = true := by
  obtain ⟨a, cap, rfl, _⟩ := h
  exact leaf_one x
theorem BytesAt.besideRow {n₀ P : Nat} {w : World} {u : Value} {bs : List (BitVec 8)} {cs : Array Value} {t : TypeId} (h : BytesAt n₀ w u bs) (hcs : ∀ (j : Nat) (v : Value), cs[j]? = some v → ∀ y : Int, v ≠ .int .u8 y) (hP : w.heap[P]? = some (.cells cs t (0, 0))) (cs' : Array Value) : BytesAt n₀ (w.setRow P cs') u bs := by
  obtain ⟨a', cap, rfl, hl, h0, h⟩ := h
  refine ⟨a', cap, rfl, hl, h0, ?_⟩
  rcases h with h | ⟨g, off, rfl, hg, hc⟩
  · exact .inl h
  · refine .inr ⟨g, off, rfl, hg, fun j hj => ?_⟩
    have hne : g ≠ P := by
      rintro rfl
      have h1 := hc j hj
      rw [blk_cell hP] at h1
      exact hcs _ _ h1 _ rfl
    exact (World.cell?_of_block (setRow_other w P g cs' hne)).trans (hc j hj)
theorem leaf_none (x : LeafP) (a : Option Addr) (n c : Nat) (j : Nat) (v : Value) (h : (x.cells (.slice a n c))[j]? = some v) (y : Int) : v ≠ .int .u8 y := by
  rintro rfl
  match j with
  | 0 => simp [LeafP.cells] at h
  | 1 => simp [LeafP.cells] at h
  | 2 => simp [LeafP.cells] at h
  | 3 => simp [LeafP.cells] at h
  | j + 4 => simp [LeafP.cells] at h
/-- A leaf that is answered. -/
def LeafRet (x : LeafP) (w : World) (e : Ending) (w' : World) : Prop := ∃ u, e = .returned (.agg (x.cells u)) ∧ BytesAt w'.heap.size w' u x.load ∧ Below w.heap.size w w'
theorem RdAt.numY {w W : World} {R : Nat} {left : List (BitVec 8)} {bad : Bool} (h : RdAt w R left bad W) (n : Nat) (k : Int) (hn : k = n) (hm : mayB k = true) (hk : n ≤ left.length) (hl : left.length ≤ 1099511627776) :
    Calls Try.prog 58 #[.pointer (some ⟨R, 0, none⟩), .int .i64 k] W (Rdn w R (leOf (left.take n)) (left.drop n) bad W) := by
  have := h.num k hl
  subst hn
  have ht : tookN left true n = some n := by simp [tookN]; omega
  unfold rdN rdL rdB at this
  rw [hm, ht] at this
  exact this

set_option maxRecDepth 100000 in
set_option maxHeartbeats 4000000 in
theorem seeming_any (v : Value) (bs : List (BitVec 8)) (w : World) (hv : BytesAt w.heap.size w v bs) (l1 : 96 ≤ bs.length) (l2 : bs.length ≤ 512) :
    Calls Try.prog 48 #[v] w (LeafRet (seem bs) w) := by
  have hB0 : Below w.heap.size w (w.alloc (.cells (LeafP.zero.cells (.slice none 0 0)) 39)) := (Below.refl _ _).alloc (Nat.le_refl _) _
  have HV := Lib.hid ((hv.below hB0).mono hB0.size)
  have hZ : (w.alloc (.cells (LeafP.zero.cells (.slice none 0 0)) 39)).heap[w.heap.size]? = some (.cells (LeafP.zero.cells (.slice none 0 0)) 39 (0, 0)) := heap_alloc_new _ _
  have HB0 := Lib.hid hB0
  have HL := Lib.hid (show 96 ≤ bs.length ∧ bs.length ≤ 512 from ⟨l1, l2⟩)
  have HZ := Lib.hid hZ
  have HX1 : Hid ((seem bs).kind = wrap64 (U (leOf (bs.take 1)))) := rfl
  have HX2 : Hid ((seem bs).place = wrap64 (U (leOf ((bs.drop 3).take 4)))) := rfl
  have HX3 : Hid ((seem bs).stamp = wrap64 (U (leOf ((bs.drop 7).take 8)))) := rfl
  have HX4 : Hid ((seem bs).load = takenB (bs.drop 15) (tookN (bs.drop 15) true (wrap64 (U (leOf ((bs.drop 1).take 2)))))) := rfl
  obtain ⟨y, hy⟩ : ∃ y, seem bs = y := ⟨_, rfl⟩
  rw [hy] at HX1 HX2 HX3 HX4 ⊢
  obtain ⟨a, cap, rfl, _⟩ := hv
  clear hB0 hZ l1 l2 hy
  go_enter Try.func48, Try.ntmps48
  go_upto_region 1 with (fail)
  change (Code.region _ _ _).wp _ _ _ (w.alloc (.cells (LeafP.zero.cells (.slice none 0 0)) 39))
  generalize w.alloc (.cells (LeafP.zero.cells (.slice none 0 0)) 39) = w0 at HV HZ HB0 ⊢
  have HN := Lib.hid (newRd_any _ bs w0 HV.out (by have := HL.out; omega))
  obtain ⟨x1, hx1⟩ : ∃ x, leOf (bs.take 1) = x := ⟨_, rfl⟩
  obtain ⟨x2, hx2⟩ : ∃ x, leOf ((bs.drop 1).take 2) = x := ⟨_, rfl⟩
  obtain ⟨x3, hx3⟩ : ∃ x, leOf ((bs.drop 3).take 4) = x := ⟨_, rfl⟩
  obtain ⟨x4, hx4⟩ : ∃ x, leOf ((bs.drop 7).take 8) = x := ⟨_, rfl⟩
  have H1 := Lib.hid (fun R W (h : RdAt w0 R bs false W) => (h.numY 1 1 rfl rfl (by have := HL.out; omega) (by have := HL.out; omega)))
  have H2 := Lib.hid (fun R W (h : RdAt w0 R (bs.drop 1) false W) => (h.numY 2 2 rfl rfl (by have := HL.out; simp; omega) (by have := HL.out; simp; omega)))
  have H3 := Lib.hid (fun R W (h : RdAt w0 R (bs.drop 3) false W) => (h.numY 4 4 rfl rfl (by have := HL.out; simp; omega) (by have := HL.out; simp; omega)))
  have H4 := Lib.hid (fun R W (h : RdAt w0 R (bs.drop 7) false W) => (h.numY 8 8 rfl rfl (by have := HL.out; simp; omega) (by have := HL.out; simp; omega)))
  have H5 := Lib.hid (fun R W (h : RdAt w0 R (bs.drop 15) false W) => (h.raw (wrap64 (U x2)) (by have := HL.out; simp; omega)))
  rw [hx1] at H1 HX1
  rw [hx2] at H2 HX4
  rw [hx3] at H3 HX2
  rw [hx4] at H4 HX3
  rw [List.drop_drop, show 1 + 2 = 3 from rfl] at H2
  rw [List.drop_drop, show 3 + 4 = 7 from rfl] at H3
  rw [List.drop_drop, show 7 + 8 = 15 from rfl] at H4
  rw [← HX4.out] at H5
  clear hx1 hx2 hx3 hx4
  go_upto_region 6 with (first
    | (go_at_call 57; (with_reducible refine HN.out.mono ?_); rintro e w1 ⟨R, rfl, hr⟩; have HR := Lib.hid (H1.out R _ hr); clear hr)
    | (go_at_call 58; (with_reducible refine HR4.out.mono ?_); rintro e w1 ⟨rfl, hr, _⟩; have HR5 := Lib.hid (H5.out R _ hr); clear hr)
    | (go_at_call 58; (with_reducible refine HR3.out.mono ?_); rintro e w1 ⟨rfl, hr, _⟩; have HR4 := Lib.hid (H4.out R _ hr); clear hr)
    | (go_at_call 58; (with_reducible refine HR2.out.mono ?_); rintro e w1 ⟨rfl, hr, _⟩; have HR3 := Lib.hid (H3.out R _ hr); clear hr)
    | (go_at_call 58; (with_reducible refine HR.out.mono ?_); rintro e w1 ⟨rfl, hr, _⟩; have HR2 := Lib.hid (H2.out R _ hr); clear hr))
  clear HR HR2 HR3 HR4 H1 H2 H3 H4 H5
  go_wp2_with (first
    | (go_at_call 59; (with_reducible refine HR5.out.mono ?_); rintro e w1 ⟨u, rfl, hu, hr, _⟩; obtain ⟨au, cu, rfl, _⟩ := id hu; have HU := Lib.hid hu; have HB := Lib.hid hr.size; clear hu hr; have HZ1 := Lib.hid ((HB.out.block _ (blk_lt HZ.out)).trans HZ.out))
    | (refine wpList_store_row (o := ⟨none, _, _, _, _, _⟩) rfl 39 (.tmp 2) (.tmp 28) rfl w.heap.size (y.cells (.slice au y.load.length cu)) rfl (by rw [LeafP.cells, HX1.out, HX2.out, HX3.out]; rfl) 39 (LeafP.zero.cells (.slice none 0 0)) HZ1.out (leaf_sz _ _) rfl ?_ ?_; exact leaf_one_by HU.out))
  have hend : (w1.setRow w.heap.size (y.cells (.slice au y.load.length cu))).heap[w.heap.size]? = some (.cells (y.cells (.slice au y.load.length cu)) 39 (0, 0)) := setRow_heap _ _ _ _ _ _ HZ1.out
  refine bodyPost_ret (results_cell_row rfl _ _ w.heap.size 39 (y.cells (.slice au y.load.length cu)) (0, 0) _ rfl hend Try.underlying39 rfl (leaf_sz _ _)) rfl ⟨_, rfl, ?_, below_setRow (HB0.out.trans (HB.out.mono HB0.out.size)) (Nat.le_refl _) _⟩
  exact (HU.out.besideRow (leaf_none _ _ _ _) HZ1.out _).mono (by rw [setRow_size]; exact Nat.le_refl _)
end Go.Proofs.Ytiibpkncdflfcaa

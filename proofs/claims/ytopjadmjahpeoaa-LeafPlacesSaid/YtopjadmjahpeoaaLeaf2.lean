/-
  leaf.Build: the sector of a leaf, or why there is none.
  Conditions: none.
-/
import Derived.Test.YtopjadmjahpeoaaLeaf1
import Derived.Test.YtopjadmjahpeoaaCrcSumL
import Derived.Deep.DeepCutAuto
import Derived.Deep.RegionHeld3
import Derived.Deep.RegionWith
import Derived.Outline
namespace Go.Proofs.Ytopjadmjahpeoaa
open Go.RowKit

theorem leaf_cells {w0 W : World} {X : Nat} {v1 v2 v3 v4 : Value} {t : TypeId} (h : w0.heap[X]? = some (.cells #[v1, v2, v3, v4] t (0, 0))) (hb : Below w0.heap.size w0 W) :
    W.cell? ⟨X, 0, none⟩ = some v1 ∧ W.cell? ⟨X, 1, none⟩ = some v2 ∧ W.cell? ⟨X, 2, none⟩ = some v3 ∧ W.cell? ⟨X, 3, none⟩ = some v4 :=
  ⟨(hb.cell (p := ⟨X, 0, none⟩) (blk_lt h)).trans (blk_cell h 0), (hb.cell (p := ⟨X, 1, none⟩) (blk_lt h)).trans (blk_cell h 1), (hb.cell (p := ⟨X, 2, none⟩) (blk_lt h)).trans (blk_cell h 2), (hb.cell (p := ⟨X, 3, none⟩) (blk_lt h)).trans (blk_cell h 3)⟩
/-- All bytes of a leaf's sector. -/
def leafB (size kind place stamp : Int) (load : List (BitVec 8)) : List (BitVec 8) := leafBody size kind place stamp load ++ leI 4 (U (Crc.crcAdd 0#32 (leafBody size kind place stamp load)))
theorem leafBody_len {size : Int} (kind place stamp : Int) {load : List (BitVec 8)} (h : (load.length : Int) ≤ size - 19) : ((leafBody size kind place stamp load).length : Int) = size - 4 := by
  simp [leafBody, leI_len]; omega
theorem leafB_len {size : Int} (kind place stamp : Int) {load : List (BitVec 8)} (h : (load.length : Int) ≤ size - 19) : ((leafB size kind place stamp load).length : Int) = size := by
  have := leafBody_len kind place stamp h
  simp only [leafB, List.length_append, leI_len, Int.natCast_add, this]
  simp
def buildB (size kind place stamp : Int) (load : List (BitVec 8)) : List (BitVec 8) := if buildErr size kind place stamp load.length = 0 then leafB size kind place stamp load else []
/-- What Build leaves. -/
def Built (bs : List (BitVec 8)) (er : Int) (w : World) (e : Ending) (w' : World) : Prop := ∃ u, e = .returned (.tuple #[u, .int .i64 er]) ∧ w'.ownsRow w.heap.size 5 1 u bs.length (cellsOf bs) ∧ Below w.heap.size w w'
theorem Built.drewN {bs : List (BitVec 8)} {er : Int} {w w' : World} {e : Ending} (h : Built bs er w e w') (n : Nat) : Built bs er w e (w'.drewN n) := by
  obtain ⟨u, h1, h2, h3⟩ := h
  exact ⟨u, h1, h2, ⟨h3.os, h3.tape, h3.output, h3.size, h3.block⟩⟩
theorem crc_bytes {n : Nat} {w : World} {v : Value} {bs : List (BitVec 8)} (h : BytesAt n w v bs) : Crc.BytesAt n w v bs := by
  obtain ⟨a, cap, rfl, _, h0, h⟩ := h
  exact ⟨a, cap, rfl, h0, h⟩

set_option maxRecDepth 100000 in
set_option maxHeartbeats 4000000 in
theorem build_no (size kd pl st : Int) (v : Value) (ld : List (BitVec 8)) (w : World) (hv : BytesAt w.heap.size w v ld) (hne : buildErr size kd pl st ld.length ≠ 0) :
    Calls Try.prog 8 #[.int .i64 size, .agg #[.int .i64 kd, .int .i64 pl, .int .i64 st, v]] w (Built [] (buildErr size kd pl st ld.length) w) := by
  have HS := Lib.hid (lsize_any size)
  have HK := Lib.hid (lkind_any kd)
  have HR := Lib.hid (room_any size)
  have HB0 := Lib.hid ((Below.refl w.heap.size w).alloc (Nat.le_refl _) (.cells #[.int .i64 kd, .int .i64 pl, .int .i64 st, v] 29))
  have HNO := Lib.hid (fun (er : Int) (h : buildErr size kd pl st ld.length = er) => (show Built [] (buildErr size kd pl st ld.length) w (.returned (.tuple #[.slice none 0 0, .int .i64 er])) (w.alloc (.cells #[.int .i64 kd, .int .i64 pl, .int .i64 st, v] 29)) from
    ⟨_, by rw [h], World.ownsRow_nil _ _ _ _, HB0.out⟩))
  obtain ⟨a, cap, rfl, hcap, _⟩ := hv
  cases hs : sizeB size with
  | false =>
    have HN := Lib.hid (HNO.out 3 (by unfold buildErr; rw [hs]; rfl))
    clear HNO hne
    rw [hs] at HS
    go_enter Try.func8, Try.ntmps8
    go_wp2_with (go_at_call 24; (with_reducible refine (HS.out _).mono ?_); rintro e w1 ⟨rfl, rfl⟩)
    go_ret2
    exact HN.out
  | true =>
    rw [hs] at HS
    by_cases hp : kindB kd = true ∧ 0 ≤ pl ∧ pl ≤ 2147483647 ∧ 0 ≤ st
    · obtain ⟨hk, p1, p2, p3⟩ := hp
      rw [hk] at HK
      have hm : size - 19 < ld.length := by
        by_cases hm : size - 19 < ld.length
        · exact hm
        · exact absurd (by unfold buildErr; rw [hs, if_pos rfl, if_pos ⟨hk, p1, p2, p3⟩, if_neg hm]) hne
      have HN := Lib.hid (HNO.out 9 (by unfold buildErr; rw [hs, if_pos rfl, if_pos ⟨hk, p1, p2, p3⟩, if_pos hm]))
      have hri : roomI size = size - 19 := by unfold roomI; rw [hs]; rfl
      rw [hri] at HR
      clear HNO hne hs hri hk
      go_enter Try.func8, Try.ntmps8
      go_upto_region 5 with (first
        | (go_at_call 24; (with_reducible refine (HS.out _).mono ?_); rintro e w1 ⟨rfl, rfl⟩)
        | (go_at_call 25; (with_reducible refine (HK.out _).mono ?_); rintro e w1 ⟨rfl, rfl⟩))
      go_quiet ((go_at_call 11; exact Calls.quiet_of_same ((HR.out _).mono fun _ _ h => ⟨h.1, h.2.symm⟩)))
      go_wp2
      go_ret2
      exact HN.out.drewN _
    · have HN := Lib.hid (HNO.out 1 (by unfold buildErr; rw [hs, if_pos rfl, if_neg hp]))
      clear HNO hne hs
      cases hk : kindB kd with
      | false =>
        rw [hk] at HK
        clear hp hk
        go_enter Try.func8, Try.ntmps8
        go_wp2_with (first
          | (go_at_call 24; (with_reducible refine (HS.out _).mono ?_); rintro e w1 ⟨rfl, rfl⟩)
          | (go_at_call 25; (with_reducible refine (HK.out _).mono ?_); rintro e w1 ⟨rfl, rfl⟩))
        go_ret2
        exact HN.out
      | true =>
        have hp' : ¬ (0 ≤ pl ∧ pl ≤ 2147483647 ∧ 0 ≤ st) := fun h => hp ⟨hk, h⟩
        rw [hk] at HK
        clear hp hk
        by_cases p1 : 0 ≤ pl
        · by_cases p2 : pl ≤ 2147483647
          · have p3 : st < 0 := by omega
            clear hp'
            go_enter Try.func8, Try.ntmps8
            go_wp2_with (first
              | (go_at_call 24; (with_reducible refine (HS.out _).mono ?_); rintro e w1 ⟨rfl, rfl⟩)
              | (go_at_call 25; (with_reducible refine (HK.out _).mono ?_); rintro e w1 ⟨rfl, rfl⟩))
            go_ret2
            exact HN.out
          · clear hp'
            go_enter Try.func8, Try.ntmps8
            go_wp2_with (first
              | (go_at_call 24; (with_reducible refine (HS.out _).mono ?_); rintro e w1 ⟨rfl, rfl⟩)
              | (go_at_call 25; (with_reducible refine (HK.out _).mono ?_); rintro e w1 ⟨rfl, rfl⟩))
            go_ret2
            exact HN.out
        · clear hp'
          go_enter Try.func8, Try.ntmps8
          go_wp2_with (first
            | (go_at_call 24; (with_reducible refine (HS.out _).mono ?_); rintro e w1 ⟨rfl, rfl⟩)
            | (go_at_call 25; (with_reducible refine (HK.out _).mono ?_); rintro e w1 ⟨rfl, rfl⟩))
          go_ret2
          exact HN.out
end Go.Proofs.Ytopjadmjahpeoaa

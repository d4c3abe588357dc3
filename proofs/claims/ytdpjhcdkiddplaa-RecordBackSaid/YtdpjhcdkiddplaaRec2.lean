/-
  record.Pack: the bytes of a record, or why it may not be.
  Conditions: none.
-/
import Derived.Test.YtdpjhcdkiddplaaRec1
import Derived.Deep.DeepCutAuto
namespace Go.Proofs.Ytdpjhcdkiddplaa
open Go.RowKit

/-- The bytes of a record. -/
def recB (ks vs : List (BitVec 8)) (e : Int) : List (BitVec 8) := [] ++ leI 1 165 ++ leI 1 ks.length ++ leI 2 vs.length ++ leI 8 e ++ ks ++ vs ++ leI 1 90
theorem recB_len (ks vs : List (BitVec 8)) (e : Int) : (recB ks vs e).length = 13 + ks.length + vs.length := by
  simp [recB, leI_len]; omega
def packErr (k v e : Int) : Int := if isKeyB k then if isValB v then if isEndB e then 0 else 2 else 11 else 10
def packB (ks vs : List (BitVec 8)) (e : Int) : List (BitVec 8) := if packErr ks.length vs.length e = 0 then recB ks vs e else []
theorem rec_cells {w0 W : World} {X : Nat} {v1 v2 v3 : Value} {t : TypeId} (h : w0.heap[X]? = some (.cells #[v1, v2, v3] t (0, 0))) (hb : Below w0.heap.size w0 W) :
    W.cell? ⟨X, 0, none⟩ = some v1 ∧ W.cell? ⟨X, 1, none⟩ = some v2 ∧ W.cell? ⟨X, 2, none⟩ = some v3 :=
  ⟨(hb.cell (p := ⟨X, 0, none⟩) (blk_lt h)).trans (blk_cell h 0), (hb.cell (p := ⟨X, 1, none⟩) (blk_lt h)).trans (blk_cell h 1), (hb.cell (p := ⟨X, 2, none⟩) (blk_lt h)).trans (blk_cell h 2)⟩
/-- What Pack leaves. -/
def Packed (bs : List (BitVec 8)) (er : Int) (w : World) (e : Ending) (w' : World) : Prop := ∃ u, e = .returned (.tuple #[u, .int .i64 er]) ∧ w'.ownsRow w.heap.size 5 1 u bs.length (cellsOf bs) ∧ Below w.heap.size w w'

set_option maxRecDepth 100000 in
set_option maxHeartbeats 4000000 in
theorem pack_any (v1 v2 : Value) (ks vs : List (BitVec 8)) (en : Int) (w : World) (h1 : BytesAt w.heap.size w v1 ks) (h2 : BytesAt w.heap.size w v2 vs) (l1 : ks.length ≤ 549755813888) (l2 : vs.length ≤ 549755813888) :
    Calls Try.prog 4 #[.agg #[v1, v2, .int .i64 en]] w (Packed (packB ks vs en) (packErr ks.length vs.length en) w) := by
  have HK := Lib.hid (isKey_any ks.length)
  have HV := Lib.hid (isVal_any vs.length)
  have HE := Lib.hid (isEnd_any en)
  have HB0 := Lib.hid ((Below.refl w.heap.size w).alloc (Nat.le_refl _) (.cells #[v1, v2, .int .i64 en] 30))
  have hX : (w.alloc (.cells #[v1, v2, .int .i64 en] 30)).heap[w.heap.size]? = some (.cells #[v1, v2, .int .i64 en] 30 (0, 0)) := heap_alloc_new _ _
  have HNO := Lib.hid (fun (er : Int) (h : packErr ks.length vs.length en = er) (h' : er ≠ 0) => (show Packed (packB ks vs en) (packErr ks.length vs.length en) w (.returned (.tuple #[.slice none 0 0, .int .i64 er])) (w.alloc (.cells #[v1, v2, .int .i64 en] 30)) from by
    refine ⟨_, by rw [h], ?_, HB0.out⟩
    unfold packB
    rw [h, if_neg h']
    exact World.ownsRow_nil _ _ _ _))
  have HU1 := Lib.hid h1
  have HU2 := Lib.hid h2
  have hua := h1
  have hub := h2
  obtain ⟨a1, cp1, rfl, _⟩ := hua
  obtain ⟨a2, cp2, rfl, _⟩ := hub
  clear h1 h2
  cases hk : isKeyB ks.length with
  | false =>
    have HN := Lib.hid (HNO.out 10 (by unfold packErr; rw [hk]; rfl) (by decide))
    clear HNO
    rw [hk] at HK
    go_enter Try.func4, Try.ntmps4
    go_wp2_with (go_at_call 10; (with_reducible refine (HK.out _).mono ?_); rintro e w1 ⟨rfl, rfl⟩)
    go_ret2
    exact HN.out
  | true =>
    rw [hk] at HK
    cases hv : isValB vs.length with
    | false =>
      have HN := Lib.hid (HNO.out 11 (by unfold packErr; rw [hk, hv]; rfl) (by decide))
      clear HNO
      rw [hv] at HV
      go_enter Try.func4, Try.ntmps4
      go_wp2_with (first
        | (go_at_call 10; (with_reducible refine (HK.out _).mono ?_); rintro e w1 ⟨rfl, rfl⟩)
        | (go_at_call 11; (with_reducible refine (HV.out _).mono ?_); rintro e w1 ⟨rfl, rfl⟩))
      go_ret2
      exact HN.out
    | true =>
      rw [hv] at HV
      cases he : isEndB en with
      | false =>
        have HN := Lib.hid (HNO.out 2 (by unfold packErr; rw [hk, hv, he]; rfl) (by decide))
        clear HNO
        rw [he] at HE
        go_enter Try.func4, Try.ntmps4
        go_wp2_with (first
          | (go_at_call 10; (with_reducible refine (HK.out _).mono ?_); rintro e w1 ⟨rfl, rfl⟩)
          | (go_at_call 11; (with_reducible refine (HV.out _).mono ?_); rintro e w1 ⟨rfl, rfl⟩)
          | (go_at_call 12; (with_reducible refine (HE.out _).mono ?_); rintro e w1 ⟨rfl, rfl⟩))
        go_ret2
        exact HN.out
      | true =>
        rw [he] at HE
        clear HNO
        obtain ⟨k1, k2⟩ : 1 ≤ (ks.length : Int) ∧ (ks.length : Int) ≤ 64 := by simpa [isKeyB] using hk
        obtain ⟨v1, v2⟩ : 0 ≤ (vs.length : Int) ∧ (vs.length : Int) ≤ 4096 := by simpa [isValB] using hv
        obtain ⟨e1, e2⟩ : 0 ≤ en ∧ en ≤ 281474976710656 := by simpa [isEndB] using he
        have HP : Hid (packErr ks.length vs.length en = 0) := by unfold Hid packErr; rw [hk, hv, he]; rfl
        have HS := Lib.hid (size_any ks.length vs.length)
        have hrs : recSize ks.length vs.length = 13 + ks.length + vs.length := by unfold recSize; rw [hk, hv]; rfl
        rw [hrs] at HS
        obtain ⟨L, hL⟩ : ∃ L : Int, 13 + (ks.length : Int) + vs.length = L := ⟨_, rfl⟩
        have hL1 : max L 0 = L := by omega
        have HL : Hid (L = 13 + (ks.length : Int) + vs.length) := hL.symm
        rw [hL] at HS
        have HNW := Lib.hid (newWriter_any L)
        rw [hL1] at HNW
        clear hk hv he hrs hL hL1
        obtain ⟨w0, hw0⟩ : ∃ w0, w.alloc (.cells #[.slice a1 ks.length cp1, .slice a2 vs.length cp2, .int .i64 en] 30) = w0 := ⟨_, rfl⟩
        obtain ⟨X, hXe⟩ : ∃ X, w.heap.size = X := ⟨_, rfl⟩
        rw [hw0, hXe] at hX
        rw [hw0] at HB0
        have HA1 := Lib.hid ((HU1.out.below HB0.out).mono HB0.out.size)
        have HA2 := Lib.hid ((HU2.out.below HB0.out).mono HB0.out.size)
        have HX := Lib.hid hX
        obtain ⟨c0, c1, c2⟩ := rec_cells hX (Below.refl w0.heap.size w0)
        have HNEW := Lib.hid (WrAt.new w0 L (by have := HL.out; omega))
        have HXE := Lib.hid hXe
        clear hXe hX
        go_enter Try.func4, Try.ntmps4
        go_upto_region 1 with (fail)
        rw [HXE.out]
        clear hw0
        go_wp2_with (first
          | (go_at_call 10; (with_reducible refine (HK.out _).mono ?_); rintro e w1 ⟨rfl, rfl⟩)
          | (go_at_call 11; (with_reducible refine (HV.out _).mono ?_); rintro e w1 ⟨rfl, rfl⟩)
          | (go_at_call 12; (with_reducible refine (HE.out _).mono ?_); rintro e w1 ⟨rfl, rfl⟩)
          | (go_at_call 14; (with_reducible refine (HS.out _).mono ?_); rintro e w1 ⟨rfl, rfl⟩)
          | (go_at_call 13; (with_reducible refine (HNW.out _).mono ?_); rintro e w1 ⟨rfl, hw1⟩; (have hn := HNEW.out; rw [← hw1] at hn; obtain ⟨c0, c1, c2⟩ := rec_cells HX.out hn.size; have HW1 := Lib.hid hn; clear hn hw1))
          | (go_at_call 17; (with_reducible refine (HW8.out.take (by have := HL.out; omega)).mono ?_); rintro e w2 ⟨u, rfl, hu, hb, _⟩; have HU := Lib.hid hu; have HB := Lib.hid hb; clear hu hb)
          | (go_at_call 15; (with_reducible refine (HW7.out.numI 90 1 (by decide) (by decide) rfl (by simp [leI_len]; have := HL.out; omega) (by have := HL.out; omega)).mono ?_); rintro e w2 ⟨rfl, hn⟩; obtain ⟨c0, c1, c2⟩ := rec_cells HX.out hn.size; have HW8 := Lib.hid hn; clear hn)
          | (go_at_call 16; (with_reducible refine (HW6.out.raw _ _ ((HA2.out.below HW6.out.size).mono HW6.out.size.size) (by simp [leI_len]; have := HL.out; omega) (by have := HL.out; omega)).mono ?_); rintro e w2 ⟨rfl, hn⟩; obtain ⟨c0, c1, c2⟩ := rec_cells HX.out hn.size; have HW7 := Lib.hid hn; clear hn)
          | (go_at_call 16; (with_reducible refine (HW5.out.raw _ _ ((HA1.out.below HW5.out.size).mono HW5.out.size.size) (by simp [leI_len]; have := HL.out; omega) (by have := HL.out; omega)).mono ?_); rintro e w2 ⟨rfl, hn⟩; obtain ⟨c0, c1, c2⟩ := rec_cells HX.out hn.size; have HW6 := Lib.hid hn; clear hn)
          | (go_at_call 15; (with_reducible refine (HW4.out.numI en 8 (by omega) (by omega) rfl (by simp [leI_len]; have := HL.out; omega) (by have := HL.out; omega)).mono ?_); rintro e w2 ⟨rfl, hn⟩; obtain ⟨c0, c1, c2⟩ := rec_cells HX.out hn.size; have HW5 := Lib.hid hn; clear hn)
          | (go_at_call 15; (with_reducible refine (HW3.out.numI vs.length 2 (by omega) (by omega) rfl (by simp [leI_len]; have := HL.out; omega) (by have := HL.out; omega)).mono ?_); rintro e w2 ⟨rfl, hn⟩; obtain ⟨c0, c1, c2⟩ := rec_cells HX.out hn.size; have HW4 := Lib.hid hn; clear hn)
          | (go_at_call 15; (with_reducible refine (HW2.out.numI ks.length 1 (by omega) (by omega) rfl (by simp [leI_len]; have := HL.out; omega) (by have := HL.out; omega)).mono ?_); rintro e w2 ⟨rfl, hn⟩; obtain ⟨c0, c1, c2⟩ := rec_cells HX.out hn.size; have HW3 := Lib.hid hn; clear hn)
          | (go_at_call 15; (with_reducible refine (HW1.out.numI 165 1 (by decide) (by decide) rfl (by simp; have := HL.out; omega) (by have := HL.out; omega)).mono ?_); rintro e w2 ⟨rfl, hn⟩; obtain ⟨c0, c1, c2⟩ := rec_cells HX.out hn.size; have HW2 := Lib.hid hn; clear hn))
        have hb1 : Below w.heap.size w w2 := HB0.out.trans ((HW8.out.size.trans (HB.out.mono HW8.out.size.size)).mono HB0.out.size)
        go_ret2
        refine ⟨_, by rw [HP.out]; rfl, ?_, hb1⟩
        unfold packB
        rw [HP.out, if_pos rfl]
        exact base_own HU.out (Nat.le_trans HB0.out.size HW8.out.size.size)
end Go.Proofs.Ytdpjhcdkiddplaa

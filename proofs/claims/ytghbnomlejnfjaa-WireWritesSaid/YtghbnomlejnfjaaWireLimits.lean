/-
  Proved: a writer never has more than its limit; once it is full it stays as it is. Whatever comes in, the law WireLimits answers true and the arguments read as they did.
  Conditions: none.
-/
import Derived.Test.YtghbnomlejnfjaaActs03
import Derived.Deep.RegionHeld3
import Derived.StillTailTactics
import Derived.Deep.DeepCutAuto
import Derived.Deep.RegionWith
import Derived.Lib.Strings
namespace Go.Proofs.Ytghbnomlejnfjaa
open Go.ChangeShapes Go.WideShapes Go.ChangeAt Go.RowKit

/-- What was asked for stands through what is new. -/
theorem bytes_steady {n₀ B : Nat} {v : Value} {row : List (BitVec 8)} {limit : Int} {full : Bool} {w : World} (h : WriterAt n₀ w B v row limit full) (hr : row.length ≤ 1099511627776) (W : World) (hW : Below w.heap.size w W) :
    Calls Try.prog 26 #[.pointer (some ⟨B, 0, none⟩)] W fun e W' => ∃ u, e = .returned u ∧ (convert 23 9 u).run Try.prog W' = .ok (.string (strB row)) W' ∧ Below w.heap.size w W' :=
  (bytes_any n₀ B v row limit full W (h.below hW) hr).mono fun _ _ ⟨u, he, hu, hb⟩ => ⟨u, he, conv_str (BytesAt.of_owns hu), hW.trans (hb.mono hW.size)⟩
theorem full_steady {n₀ B : Nat} {v : Value} {row : List (BitVec 8)} {limit : Int} {full : Bool} {w : World} (h : WriterAt n₀ w B v row limit full) (W : World) (hW : Below w.heap.size w W) :
    Calls Try.prog 25 #[.pointer (some ⟨B, 0, none⟩)] W fun e W' => e = .returned (.bool full) ∧ W = W' :=
  full_any n₀ B v row limit full W (h.below hW)

/-- Bytes that came in are no part of a writer. -/
theorem text_arg {n₀ n₁ B : Nat} {w : World} {v u : Value} {row bs : List (BitVec 8)} {limit : Int} {full : Bool} (h : WriterAt n₀ w B v row limit full) (hu : BytesAt n₁ w u bs) (hB : n₁ ≤ B) (hn : n₁ ≤ n₀) : bs ≠ [] → ∀ k, u.ownBlock = some k → ¬ wS B v k := by
  intro hne k e hk
  obtain ⟨a, cap, rfl, _, _, hu⟩ := hu
  rcases hu with hu | ⟨g, off, rfl, hg, _⟩
  · exact hne hu
  · obtain rfl : g = k := by simpa [Value.ownBlock] using e
    rcases hk with hk | hk
    · omega
    · have := (h.own.lt g hk).1; omega
theorem limS {n₀ : Nat} {w : World} {v : Value} {row : List (BitVec 8)} (h : w.ownsRow n₀ 5 1 v row.length (cellsOf row)) : ∀ i, wS n₀ v i → n₀ ≤ i := by
  intro i hi
  rcases hi with rfl | hi
  · exact Nat.le_refl _
  · exact (h.lt i hi).1
theorem wRow_ext (row : List (BitVec 8)) (limit : Int) (full : Bool) (x : Option (List (BitVec 8))) (h : row.length ≤ limit) : ∃ ext, wRow row limit full x = row ++ ext ∧ (row ++ ext).length ≤ limit ∧ (full = true → ext = [] ∧ wFull row limit full x = true) := by
  cases x with
  | none => exact ⟨[], by simp [wRow], by simpa using h, fun _ => ⟨rfl, rfl⟩⟩
  | some bs =>
    by_cases hc : full = true ∨ limit < row.length + bs.length
    · refine ⟨[], by simp [wRow, hc], by simpa using h, fun hf => ⟨rfl, by simp [wFull, hf]⟩⟩
    · refine ⟨bs, by simp [wRow, hc], by rw [List.length_append]; omega, fun hf => absurd (.inl hf) hc⟩
/-- What a call leaves. -/
def LimDid (w : World) (row : List (BitVec 8)) (limit : Int) (full : Bool) (e : Ending) (w2 : World) : Prop :=
  e = .returned (.tuple #[]) ∧ ∃ v2 ext full2, WriterAt w.heap.size w2 w.heap.size v2 (row ++ ext) limit full2 ∧ Below w.heap.size w w2 ∧ (row ++ ext).length ≤ limit ∧ (full = true → ext = [] ∧ full2 = true)
theorem limDid_of {w wc w2 : World} {v : Value} {row : List (BitVec 8)} {limit : Int} {full : Bool} {x : Option (List (BitVec 8))} {e : Ending} (h : Wrote w.heap.size w.heap.size v row limit full x wc e w2) (hA : WriterAt w.heap.size wc w.heap.size v row limit full) (hB : Below w.heap.size w wc) (hr : row.length ≤ limit) : LimDid w row limit full e w2 := by
  obtain ⟨he, v2, h1, h2⟩ := h
  obtain ⟨ext, hx1, hx2, hx3⟩ := wRow_ext row limit full x hr
  rw [hx1] at h1
  exact ⟨he, v2, ext, _, h1, hB.trans (h2.moves.below (limS hA.own) hB.size), hx2, hx3⟩
theorem str_le (xs ys : List (BitVec 8)) : (strB xs).size ≤ (strB (xs ++ ys)).size := by rw [strB_size, strB_size, List.length_append]; omega
theorem str_pre (xs ys : List (BitVec 8)) : ((strB (xs ++ ys)).extract 0 (strB xs).size).toList = (strB xs).toList := by
  rw [Lib.extract_toList, Lib.toList_data, strB_list, strB_list, strB_size]
  simp
/-- Between two rounds. -/
def LimAt (w : World) (limit : Int) (wr : World) : Prop := ∃ v row full, WriterAt w.heap.size wr w.heap.size v row limit full ∧ Below w.heap.size w wr ∧ row.length ≤ limit ∧ row.length ≤ 65535

set_option maxRecDepth 100000 in
set_option maxHeartbeats 1000000 in
theorem wireLimits_walk (lim : BitVec 16) (l : List Act3) (v : Value) (w : World) (hv : ActsAt w.heap.size w v l) (hm : l.length ≤ maxLen) : Calls Try.prog 10 #[.int .u16 (U lim), v] w (Good w) := by
  have HL := Lib.hid (light_any l v w hv hm)
  unfold maxLen at hm
  obtain ⟨a, cap, rfl, hcap, hwf, hv⟩ := hv
  cases hlight : lightB l with
  | false =>
    rw [hlight] at HL
    clear hlight hwf hv
    go_enter Try.func10, Try.ntmps10
    go_wp2_with (go_at_call 18; refine HL.out.mono ?_; rintro e w' ⟨rfl, rfl⟩)
    go_ret
    exact ⟨rfl, Below.refl _ _⟩
  | true =>
    rw [hlight] at HL
    have hl40 : l.length ≤ 40 := by simp [lightB] at hlight; exact hlight.1
    have b1 : (l.length : Int) ≤ 40 := by omega
    have hshort : ∀ i : Nat, (l[i]?.getD default).b.length ≤ 300 := fun i => by
      by_cases hi : i < l.length
      · simp [lightB] at hlight
        simpa [hi] using hlight.2 _ (List.getElem_mem hi)
      · rw [List.getElem?_eq_none (by omega)]; exact Nat.zero_le _
    have HS := Lib.hid hshort
    have x0 := U_nonneg lim
    have x1 : U lim ≤ 65535 := by have := U_lt lim; simp at this; omega
    have HW := Lib.hid hwf
    clear hlight hshort hwf
    have HNW := Lib.hid (newWriter_any (U lim) w)
    go_enter Try.func10, Try.ntmps10
    go_wp2_with (first
      | (go_at_call 18; refine HL.out.mono ?_; rintro e w' ⟨rfl, rfl⟩)
      | (go_at_call 19; refine HNW.out.mono ?_; rintro e w' ⟨rfl, rfl⟩))
    go_loopw [6] (fun iv wr => ∃ k : Nat, k ≤ l.length ∧ iv = .int .i64 k ∧ LimAt w (U lim) wr) (fun iv _ => l.length - (intOf iv).toNat)
    case atStart => 
      refine ⟨0, Nat.zero_le _, rfl, .slice none 0 0, [], false, ⟨?_, World.ownsRow_nil _ _ _ _⟩, (Below.refl _ _).alloc (Nat.le_refl _) _, by simpa using x0, by simp⟩
      rw [show max (U lim) 0 = U lim by omega]
      exact heap_alloc_new _ _
    case round =>
      obtain ⟨k, hk, rfl, v1, row, full, hA, hB, hr1, hr2⟩ := hrel
      by_cases hlt : k < l.length
      · rcases hv with h | ⟨g, off, rfl, hg, hc⟩
        · subst h; simp at hlt
        have HAct := Lib.hid (hc k hlt)
        have k0 : (0 : Int) ≤ k := by omega
        have k1 : (k : Int) < l.length := by omega
        have hbl := HS.out k
        generalize l[k]?.getD default = x at HAct hbl
        have hby := bytes_steady hA (by omega)
        have hfu := full_steady hA
        have HBY := Lib.hid hby
        have HFU := Lib.hid hfu
        have HA := Lib.hid hA
        have HB := Lib.hid hB
        clear hby hfu hA hB hc
        go_upto_region 7 with (fail)
        go_cut [7, 8] (fun s7 s8 wx => s7 = .string (strB row) ∧ s8 = .bool full ∧ Below wr.heap.size wr wx)
        case first =>
          go_region_with (first
            | (go_at_call 26; refine (HBY.out _ (by first | assumption | exact (Below.refl _ _).drew | exact Below.refl _ _)).mono ?_; rintro e w1 ⟨u1, rfl, hcv, hb1⟩)
            | (go_at_call 25; refine (HFU.out _ (by first | assumption | exact (Below.refl _ _).drew | exact Below.refl _ _)).mono ?_; rintro e w1 ⟨rfl, rfl⟩))
          all_goals (go_wp2_with fail; go_meet; exact ⟨rfl, rfl, by first | assumption | exact (Below.refl _ _).drew | exact Below.refl _ _⟩)
        case rest =>
          obtain ⟨rfl, rfl, hbc⟩ := hcut
          have hBc := HB.out.trans (hbc.mono HB.out.size)
          have hA2 := HA.out.below hbc
          obtain ⟨c0, c1, c2, u, c3, hu⟩ := HAct.out.below hBc hg
          have hus := hu.mono hBc.size
          have hap := text_arg hA2 hu (Nat.le_refl _) (Nat.le_refl _)
          obtain ⟨au, cu, rfl, _, _, _⟩ := hu
          have HT := Lib.hid ((text_any _ _ _ row _ full _ x.b wc hA2 hus hap x0 (by omega) (by omega) (by omega) hBc.size).mono fun _ _ h => limDid_of h hA2 hBc hr1)
          have HN := Lib.hid ((number_any _ _ _ row _ full x.n x.len wc.drew ⟨hA2.blk, hA2.own⟩ x0 (by omega) (by omega) hBc.size).mono fun _ _ h => limDid_of h ⟨hA2.blk, hA2.own⟩ hBc.drew hr1)
          have HBc := Lib.hid hBc
          clear hA2 hus hap hBc hbc
          cases hk2 : ((wrap64 (x.kind.tmod 2 + 2)).tmod 2 == 0) with
          | true =>
            cases full with
            | true =>
              go_wp2_with (first
                | (go_at_call 23; refine HT.out.mono ?_; rintro e w2 ⟨rfl, v2, ext, full2, hA2, hB2, hx2, hx3⟩; obtain ⟨rfl, rfl⟩ := hx3 rfl; rw [List.append_nil] at hA2; have HA2 := Lib.hid hA2; have HB2 := Lib.hid hB2; have HBY2 := Lib.hid (bytes_steady hA2 (by omega)); have p1 : ((strB row).size : Int) ≤ U lim := (strB_size row).symm ▸ hr1; clear hx2 hx3 hA2 hB2)
                | (go_at_call 26; refine (HBY2.out _ (Below.refl _ _)).mono ?_; rintro e w3 ⟨u3, rfl, hcv, hb3⟩; have HF3 := Lib.hid (full_any _ _ _ _ _ _ _ (HA2.out.below hb3)))
                | (go_at_call 25; refine HF3.out.mono ?_; rintro e w3 ⟨rfl, rfl⟩))
              go_roundw
              case rel => exact ⟨k + 1, by omega, by go_num, v2, row, true, HA2.out.below hb3, HB2.out.trans (hb3.mono HB2.out.size), hr1, hr2⟩
              case measure => simp [intOf]; omega
            | false =>
              go_wp2_with (first
                | (go_at_call 23; refine HT.out.mono ?_; rintro e w2 ⟨rfl, v2, ext, full2, hA2, hB2, hx2, hx3⟩; have HA2 := Lib.hid hA2; have HB2 := Lib.hid hB2; have HX2 := Lib.hid hx2; have HBY2 := Lib.hid (bytes_steady hA2 (by omega)); have p1 : ((strB (row ++ ext)).size : Int) ≤ U lim := (strB_size (row ++ ext)).symm ▸ hx2; have p2 : (strB row).size ≤ (strB (row ++ ext)).size := (str_le row ext); have p3 := str_pre row ext; clear hx2 hx3 hA2 hB2)
                | (go_at_call 26; refine (HBY2.out _ (Below.refl _ _)).mono ?_; rintro e w3 ⟨u3, rfl, hcv, hb3⟩))
              go_roundw
              case rel => exact ⟨k + 1, by omega, by go_num, v2, row ++ ext, full2, HA2.out.below hb3, HB2.out.trans (hb3.mono HB2.out.size), HX2.out, by have := HX2.out; omega⟩
              case measure => simp [intOf]; omega
          | false =>
            go_upto_region 10 with (fail)
            go_still_tail 11, (by kernel_rfl)
            change wpList _ _ _ _ _ wc.drew
            cases full with
            | true =>
              go_wp2_with (first
                | (go_at_call 20; refine HN.out.mono ?_; rintro e w2 ⟨rfl, v2, ext, full2, hA2, hB2, hx2, hx3⟩; obtain ⟨rfl, rfl⟩ := hx3 rfl; rw [List.append_nil] at hA2; have HA2 := Lib.hid hA2; have HB2 := Lib.hid hB2; have HBY2 := Lib.hid (bytes_steady hA2 (by omega)); have p1 : ((strB row).size : Int) ≤ U lim := (strB_size row).symm ▸ hr1; clear hx2 hx3 hA2 hB2)
                | (go_at_call 26; refine (HBY2.out _ (Below.refl _ _)).mono ?_; rintro e w3 ⟨u3, rfl, hcv, hb3⟩; have HF3 := Lib.hid (full_any _ _ _ _ _ _ _ (HA2.out.below hb3)))
                | (go_at_call 25; refine HF3.out.mono ?_; rintro e w3 ⟨rfl, rfl⟩))
              go_roundw
              case rel => exact ⟨k + 1, by omega, by go_num, v2, row, true, HA2.out.below hb3, HB2.out.trans (hb3.mono HB2.out.size), hr1, hr2⟩
              case measure => simp [intOf]; omega
            | false =>
              go_wp2_with (first
                | (go_at_call 20; refine HN.out.mono ?_; rintro e w2 ⟨rfl, v2, ext, full2, hA2, hB2, hx2, hx3⟩; have HA2 := Lib.hid hA2; have HB2 := Lib.hid hB2; have HX2 := Lib.hid hx2; have HBY2 := Lib.hid (bytes_steady hA2 (by omega)); have p1 : ((strB (row ++ ext)).size : Int) ≤ U lim := (strB_size (row ++ ext)).symm ▸ hx2; have p2 : (strB row).size ≤ (strB (row ++ ext)).size := (str_le row ext); have p3 := str_pre row ext; clear hx2 hx3 hA2 hB2)
                | (go_at_call 26; refine (HBY2.out _ (Below.refl _ _)).mono ?_; rintro e w3 ⟨u3, rfl, hcv, hb3⟩))
              go_roundw
              case rel => exact ⟨k + 1, by omega, by go_num, v2, row ++ ext, full2, HA2.out.below hb3, HB2.out.trans (hb3.mono HB2.out.size), HX2.out, by have := HX2.out; omega⟩
              case measure => simp [intOf]; omega
      · obtain rfl : k = l.length := by omega
        go_wp2_with (go_at_call 27; refine (awake03 _).mono ?_; rintro e w4 ⟨rfl, hb4⟩)
        go_ret
        exact ⟨rfl, hB.trans (hb4.mono hB.size)⟩

set_option maxRecDepth 100000 in
theorem wireLimits_lifted (os : Os) (started : os.Started) (H : Type) (enc : TypeId × Value → H) :
    ReturnsInHanded {} Try.checked os 10 .any (Rows.wireLimitsSpec.pre6 enc Try.prog Try.f10 Rows.wireLimitsRow.domain false) (Rows.wireLimitsSpec.post enc Try.prog Try.f10 false true false false) :=
  law_lifted 10 Try.f10 Rows.wireLimitsSpec Try.func10 (by kernel_rfl) rfl rfl
    (fun ds h => by match ds, h with | [_, _], _ => rfl) (by kernel_rfl) os started
    (ChangeSpec.witness6 (enc := enc) (C := Try.checked) false ⟨#[], #[.int .u16 0, .slice none 0 0], []⟩ 8 (by kernel_rfl) (by kernel_rfl) (by kernel_rfl) (by kernel_rfl))
    fun W args ds ps hval hA => by
      rw [Try.params10] at hA hval
      obtain ⟨v0, vs0, d0, ds0, p0, q0, hargs, rfl, rfl, h0, r0⟩ := trodAll_cons hA
      obtain ⟨v1, vs1, d1, ds1, p1, q1, rfl, rfl, rfl, h1, r1⟩ := trodAll_cons r0
      obtain ⟨rfl, rfl, rfl⟩ := trodAll_nil r1
      obtain rfl : args = #[v0, v1] := by cases args; simp_all
      obtain ⟨b0, o0⟩ := hval 0 _ v0 rfl rfl
      obtain ⟨b1, o1⟩ := hval 1 _ v1 rfl rfl
      obtain ⟨a0, rfl, rfl, rfl, w0⟩ := open_int Try.underlying60 o0 h0
      obtain ⟨x0, rfl⟩ := wf_u16 w0
      obtain ⟨l1, hb1, hm1⟩ := open_acts o1 h1
      exact wireLimits_walk x0 l1 v1 W hb1 hm1

/-- The statement. -/
theorem wireLimits_holds : Rows.WireLimitsSaid :=
  OpenClaim.holds_of_wide 10 Try.f10 rfl rfl rfl rfl rfl rfl rfl ⟨rfl, rfl, rfl, rfl, rfl⟩ rfl rfl rfl rfl rfl (by kernel_rfl) Try.func10 (by kernel_rfl)
    (of_decide_eq_true (by kernel_rfl)) (by unfold Func.isWrapper; first | (rw [if_pos (by decide +kernel)]; kernel_rfl) | (rw [if_neg (by decide +kernel)]; exact ⟨rfl, rfl⟩))
    (fun os started H enc _ => wireLimits_lifted os started H enc)
#print axioms wireLimits_holds
end Go.Proofs.Ytghbnomlejnfjaa

/-
  The document's answer which records bytes are: sgraffitoref09.All.
  Conditions: none.
-/
import Derived.Test.YtakipdfmlolgfaaRefRec
import Derived.Maps.AppendAt
namespace Go.Proofs.Ytakipdfmlolgfaa
open Go.RowKit

/-- A row of records of the document. -/
def docRows (rs : List RecP) : List Value := rs.flatMap fun x => x.doc.toList
theorem docRows_snoc (rs : List RecP) (x : RecP) : docRows (rs ++ [x]) = docRows rs ++ x.doc.toList := by
  rw [docRows, List.flatMap_append, List.flatMap_cons, List.flatMap_nil, List.append_nil]; rfl
theorem RecP.docOne (x : RecP) : ∀ u ∈ x.doc.toList, u.oneCell' = true := by
  intro u hu
  have : u = .string (strB x.key) ∨ u = .string (strB x.val) ∨ u = .int .i64 x.fin := by simpa [RecP.doc] using hu
  rcases this with rfl | rfl | rfl <;> rfl
theorem infoDoc : (Try.prog.info? 29).map (fun i => (i.zero, i.size, i.bytes)) = some (some (.agg #[.string ⟨#[]⟩, .string ⟨#[]⟩, .int .i64 0]), 3, 40) := by kernel_rfl
theorem info_partsD {i : Option TypeInfo} {z : Value} {s b : Nat} (h : i.map (fun i => (i.zero, i.size, i.bytes)) = some (some z, s, b)) : ∃ i0, i = some i0 ∧ i0.zero = some z ∧ i0.size = s ∧ i0.bytes = b := by
  cases i with
  | none => cases h
  | some i0 => simp at h; exact ⟨i0, rfl, h.1, h.2.1, h.2.2⟩
/-- What the loop keeps. -/
def RAllAt (w : World) (bs : List (BitVec 8)) (m : Nat) (rs : List RecP) (v : Value) (W : World) : Prop :=
  recs bs = rs ++ recs (bs.drop m) ∧ rs.length ≤ m ∧ W.ownsRow w.heap.size 29 3 v rs.length (docRows rs) ∧ Below w.heap.size w W

set_option maxRecDepth 100000 in
set_option maxHeartbeats 4000000 in
theorem refAll_any (v : Value) (bs : List (BitVec 8)) (w : World) (hv : BytesAt w.heap.size w v bs) (hl : bs.length ≤ 1073741824) :
    Calls Try.prog 9 #[v] w fun e w' => ∃ u, e = .returned u ∧ w'.ownsRow w.heap.size 29 3 u (recs bs).length (docRows (recs bs)) ∧ Below w.heap.size w w' := by
  obtain ⟨i0, hi, hz0, hz1, hz2⟩ := info_partsD infoDoc
  have HV := Lib.hid hv
  have HL := Lib.hid hl
  have HU := Lib.hid (fun n v l W h hn hl => refUnp_any n v l W h hn hl)
  have HA0 : Hid (RAllAt w bs 0 [] (.slice none 0 0) w) := ⟨by rw [List.drop_zero]; rfl, Nat.le_refl _, World.ownsRow_nil _ _ _ _, Below.refl _ _⟩
  have hl1 : (bs.length : Int) ≤ 1073741824 := by omega
  obtain ⟨a, cap, rfl, hcap, _⟩ := id hv
  have hc1 : (bs.length : Int) ≤ cap := by omega
  clear hv hl
  go_enter Try.func9, Try.ntmps9
  go_wp2
  go_loopw [3, 4] (fun sv av wr => ∃ (m : Nat) (rs : List RecP) (v : Value), sv = v ∧ av = .int .i64 m ∧ m ≤ bs.length ∧ RAllAt w bs m rs v wr) (fun _ av _ => bs.length - (intOf av).toNat)
  case atStart => exact ⟨0, [], _, rfl, rfl, Nat.zero_le _, HA0.out⟩
  case round =>
    obtain ⟨m, rs, v, hsv, rfl, hm, hA⟩ := hrel
    replace hsv := hsv.symm
    subst hsv
    have HA := Lib.hid hA
    clear hA HA0
    by_cases hlt : m < bs.length
    · have m1 : (m : Int) < bs.length := by omega
      have hvw := HV.out.below HA.out.2.2.2
      have hne : bs ≠ [] := fun h => by rw [h] at hlt; simp at hlt
      obtain ⟨_, _, e1, _, _, hv2⟩ := id hvw
      cases e1
      obtain ⟨g, off, rfl, hg, hc⟩ := hv2.resolve_left hne
      have cb := hc m hlt
      have HVW := Lib.hid hvw
      clear hv2 hne hc hg hvw
      by_cases hb : bs[m]?.getD 0 = 0
      · have HA2 : Hid (RAllAt w bs (m + 1) rs v wr) := ⟨HA.out.1.trans (by rw [recs_drop_zero bs m hlt hb]), Nat.le_succ_of_le HA.out.2.1, HA.out.2.2⟩
        have hz : (U (bs[m]?.getD 0) == 0) = true := by rw [hb]; rfl
        generalize bs[m]?.getD 0 = y at cb hz
        clear hb
        go_wp2
        go_roundw
        case rel => exact ⟨m + 1, rs, v, rfl, by go_num, by omega, HA2.out⟩
        case measure => simp [intOf]; omega
      · have hz : (U (bs[m]?.getD 0) == 0) = false := by
          rw [beq_eq_false_iff_ne]
          exact fun h => hb (U_inj.1 (h.trans rfl))
        have hsuf := HVW.out.suf m hm
        rw [add_plain] at hsuf
        have HUW := Lib.hid (HU.out _ _ _ wr hsuf HA.out.2.2.2.size (by rw [List.length_drop]; have := HL.out; omega))
        have k1 : ¬ (cap = m) := by omega
        have hbad := recs_bad bs m hlt hb
        have hgd := recs_good bs m hlt hb
        generalize bs[m]?.getD 0 = y at cb hz
        clear hb hsuf
        by_cases hgood : recGood (bs.drop m)
        · have hp := recN_pos hgood
          have h1 : unpRec (bs.drop m) = recOf (bs.drop m) := by unfold unpRec; rw [if_pos hgood]
          have h2 : unpN (bs.drop m) = recN (bs.drop m) := by unfold unpN; rw [if_pos hgood]
          have h3 : unpErr (bs.drop m) = 0 := by unfold unpErr; rw [if_pos hgood]
          have h4 := hgd hgood
          rw [h1, h2, h3] at HUW
          obtain ⟨K, hK⟩ := Int.eq_ofNat_of_zero_le (show 0 ≤ recN (bs.drop m) by omega)
          rw [hK] at HUW hp h4
          rw [Int.toNat_natCast] at h4
          rw [List.length_drop] at hp
          generalize recOf (bs.drop m) = x at HUW h4
          have HREC := Lib.hid h4
          have HK := Lib.hid (show 13 ≤ K ∧ m + K ≤ bs.length from by omega)
          have mk : (m : Int) + K ≤ 1073741824 := by omega
          have HD : Hid (x.doc = #[.string (strB x.key), .string (strB x.val), .int .i64 x.fin]) := rfl
          unfold RefUnp at HUW
          rw [HD.out] at HUW
          clear hgood hp h1 h2 h3 h4 hK hgd hbad
          go_upto_region 7 with (go_at_call 6; (with_reducible refine HUW.out.mono ?_); rintro e w1 ⟨rfl, hb1⟩; have HB1 := Lib.hid hb1; clear hb1)
          change (Code.region _ _ _).wp _ _ _ (w1.alloc (.cells #[.string (strB x.key), .string (strB x.val), .int .i64 x.fin] 29))
          have hp2 : (w1.alloc (.cells #[.string (strB x.key), .string (strB x.val), .int .i64 x.fin] 29)).heap[w1.heap.size]? = some (.cells #[.string (strB x.key), .string (strB x.val), .int .i64 x.fin] 29 (0, 0)) := heap_alloc_new _ _
          have hb2 : Below wr.heap.size wr (w1.alloc (.cells #[.string (strB x.key), .string (strB x.val), .int .i64 x.fin] 29)) := HB1.out.alloc HB1.out.size _
          generalize w1.alloc (.cells #[.string (strB x.key), .string (strB x.val), .int .i64 x.fin] 29) = w2 at hp2 hb2 ⊢
          have d0 := blk_cell hp2 0
          have d1 := blk_cell hp2 1
          have d2 := blk_cell hp2 2
          simp only [List.getElem?_toArray, List.getElem?_cons_zero, List.getElem?_cons_succ] at d0 d1 d2
          have hrow2 : w2.ownsRow w.heap.size 29 3 v rs.length (docRows rs) := (Moves.of_below (S := fun _ => False) hb2).row HA.out.2.2.1 (fun _ _ h => h)
          have hbw := HA.out.2.2.2.trans (hb2.mono HA.out.2.2.2.size)
          have HROW := Lib.hid (hrow2.alloc (.cells #[.string (strB x.key), .string (strB x.val), .int .i64 x.fin] 29))
          have HBW := Lib.hid (hbw.alloc hbw.size (.cells #[.string (strB x.key), .string (strB x.val), .int .i64 x.fin] 29))
          have HNEW : Hid (∀ (j : Nat) (u : Value), x.doc.toList[j]? = some u → (w2.alloc (.cells #[.string (strB x.key), .string (strB x.val), .int .i64 x.fin] 29)).cell? ((⟨w2.heap.size, 0, none⟩ : Addr).add j) = some u) := by
            intro j u hj
            rw [add_plain, Nat.zero_add, blk_cell (heap_alloc_new _ _)]
            rw [Array.getElem?_toList] at hj
            exact hj
          have HRL := Lib.hid (show rs.length ≤ 1073741824 from by have := HA.out.2.1; have := HL.out; omega)
          clear hp2 hb2 hrow2 hbw HB1 HUW
          go_wp2_with (at_builtin; (refine wpList_append_own _ rfl _ _ 35 rfl w.heap.size 29 i0 _ 3 40 Try.underlying35 hi hz0 hz1 hz2 rfl (by decide) v rs.length (docRows rs) rfl HROW.out ⟨w2.heap.size, 0, none⟩ 1 1 x.doc.toList rfl rfl HNEW.out x.docOne (by have := HRL.out; unfold maxLen; omega) (by have := HRL.out; omega) HBW.out.size ?_); intro v' w4 hown hgrow hnil; have HR4 := Lib.hid hown; have HB4 := Lib.hid (HBW.out.grown hgrow HBW.out.size (fun k e => (HROW.out.lt k e).1)); clear hown hgrow hnil)
          go_roundw
          case rel => exact ⟨m + K, rs ++ [x], v', rfl, by go_num, HK.out.2, by rw [HA.out.1, HREC.out, List.append_assoc]; rfl, by rw [List.length_append, List.length_singleton]; have := HA.out.2.1; have := HK.out; omega, by rw [docRows_snoc, List.length_append, List.length_singleton]; exact HR4.out, HB4.out⟩
          case measure => have := HK.out; simp [intOf]; omega
        · have h1 : unpRec (bs.drop m) = RecP.zero := by unfold unpRec; rw [if_neg hgood]
          have h2 : unpN (bs.drop m) = 0 := by unfold unpN; rw [if_neg hgood]
          have h3 : unpErr (bs.drop m) = 5 := by unfold unpErr; rw [if_neg hgood]
          have h4 := hbad hgood
          rw [h1, h2, h3] at HUW
          have he := HA.out.1
          rw [h4, List.append_nil] at he
          have HE4 := Lib.hid he
          have HD : Hid (RecP.zero.doc = #[.string ⟨#[]⟩, .string ⟨#[]⟩, .int .i64 0]) := rfl
          unfold RefUnp at HUW
          rw [HD.out] at HUW
          clear hgood h1 h2 h3 h4 hgd hbad he
          go_wp2_with (go_at_call 6; (with_reducible refine HUW.out.mono ?_); rintro e w1 ⟨rfl, hb1⟩; have HB1 := Lib.hid hb1; have HB2 := Lib.hid (hb1.alloc hb1.size (.cells #[.string ⟨#[]⟩, .string ⟨#[]⟩, .int .i64 0] 29)); clear hb1)
          go_ret
          refine ⟨_, rfl, ?_, HA.out.2.2.2.trans (HB2.out.mono HA.out.2.2.2.size)⟩
          rw [HE4.out]
          exact (Moves.of_below (S := fun _ => False) HB2.out).row HA.out.2.2.1 (fun _ _ h => h)
    · obtain rfl : m = bs.length := by omega
      have he := HA.out.1
      rw [recs_end, List.append_nil] at he
      have HE4 := Lib.hid he
      clear he hlt
      go_wp2
      go_ret
      refine ⟨_, rfl, ?_, HA.out.2.2.2⟩
      rw [HE4.out]
      exact HA.out.2.2.1
end Go.Proofs.Ytakipdfmlolgfaa

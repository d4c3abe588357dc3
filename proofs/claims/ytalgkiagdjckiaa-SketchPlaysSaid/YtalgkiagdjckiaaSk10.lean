/-
  sketch: Pack.
  Conditions: none.
-/
import Derived.Test.YtalgkiagdjckiaaSk9
import Derived.Deep.RegionHeld3
import Derived.Deep.RegionHeldLaw
namespace Go.Proofs.Ytalgkiagdjckiaa
open Go.RowKit

/-- A byte of two counts. -/
def pkB (C : Nat → Nat → Nat) (r j : Nat) : BitVec 8 := BitVec.ofNat 8 (C r (2 * j) + 16 * C r (2 * j + 1))
/-- The first bytes of a row. -/
def pkRow (C : Nat → Nat → Nat) (r k : Nat) : List (BitVec 8) := (List.range k).map (pkB C r)
/-- The bytes of the first rows, so many bytes a row. -/
def pkTo (C : Nat → Nat → Nat) (M : Nat) : Nat → List (BitVec 8)
  | 0 => []
  | r + 1 => pkTo C M r ++ pkRow C r M
theorem pkRow_succ (C : Nat → Nat → Nat) (r k : Nat) : pkRow C r (k + 1) = pkRow C r k ++ [pkB C r k] := by simp [pkRow, List.range_succ]
theorem pkRow_len (C : Nat → Nat → Nat) (r k : Nat) : (pkRow C r k).length = k := by simp [pkRow]
theorem pkTo_len (C : Nat → Nat → Nat) (M r : Nat) : (pkTo C M r).length = r * M := by
  induction r with
  | zero => simp [pkTo]
  | succ r ih => rw [pkTo, List.length_append, ih, pkRow_len, Nat.succ_mul]
/-- The bytes ahead of the counts. -/
def pkHead (N age : Nat) : List (BitVec 8) := leB 2 (BitVec.ofNat 64 N) ++ leB 4 (BitVec.ofNat 64 age)
/-- A sketch's bytes. -/
def packS (N age : Nat) (C : Nat → Nat → Nat) : List (BitVec 8) := pkHead N age ++ pkTo C (N / 2) 4
theorem pkHead_len (N age : Nat) : (pkHead N age).length = 6 := by simp [pkHead, leB_len]
theorem packS_len (N age : Nat) (C : Nat → Nat → Nat) : (packS N age C).length = 6 + 4 * (N / 2) := by rw [packS, List.length_append, pkHead_len, pkTo_len]
/-- The bytes of the first rows, and of the next one's first counts. -/
def pkSo (N age : Nat) (C : Nat → Nat → Nat) (M r k : Nat) : List (BitVec 8) := pkHead N age ++ pkTo C M r ++ pkRow C r k
theorem pkSo_next (N age : Nat) (C : Nat → Nat → Nat) (M r : Nat) : pkSo N age C M (r + 1) 0 = pkSo N age C M r M := by simp [pkSo, pkTo, pkRow]
theorem pkSo_none (N age : Nat) (C : Nat → Nat → Nat) (M : Nat) : pkSo N age C M 0 0 = pkHead N age := by simp [pkSo, pkTo, pkRow]
theorem pkSo_step (N age : Nat) (C : Nat → Nat → Nat) (M r k : Nat) : pkSo N age C M r (k + 1) = pkSo N age C M r k ++ [pkB C r k] := by simp only [pkSo, pkRow_succ, List.append_assoc]
theorem pkSo_all (N age : Nat) (C : Nat → Nat → Nat) (M : Nat) : pkSo N age C M 4 0 = pkHead N age ++ pkTo C M 4 := by simp [pkSo, pkRow]
theorem WideOk.even {N : Nat} (h : WideOk N) : ∃ M, N = 2 * M ∧ 1 ≤ M ∧ M ≤ 2048 := by
  have hl := h.le
  obtain ⟨k, h1, h2, rfl⟩ := h
  refine ⟨2 ^ (k - 1), ?_, Nat.one_le_two_pow, ?_⟩
  · rw [← Nat.pow_succ']; congr 1; omega
  · have := Nat.pow_le_pow_right (n := 2) (by decide) (show k - 1 ≤ 11 by omega)
    simpa using this
theorem pk_byte (c d : Nat) (hc : c ≤ 15) (hd : d ≤ 15) : bits .or .u8 (c : Int) (IntKind.u8.wrap ((d : Int) * 16)) = U (BitVec.ofNat 8 (c + 16 * d)) := by
  have h : ∀ c d : Fin 16, bits .or .u8 ((c.val : Nat) : Int) (IntKind.u8.wrap (((d.val : Nat) : Int) * 16)) = U (BitVec.ofNat 8 (c.val + 16 * d.val)) := by decide +kernel
  exact h ⟨c, by omega⟩ ⟨d, by omega⟩
theorem idx_facts {K N : Nat} (h : K + 1 < N) (hN : N ≤ 4096) : IntKind.i64.wrap ((K : Int) + 1) = (K : Int) + 1 ∧ wrap64 ((K : Int) + 1) = (K : Int) + 1 ∧ ((K : Int) + 1).toNat = K + 1 ∧ (0 : Int) ≤ (K : Int) + 1 ∧ (K : Int) + 1 < (N : Int) := by
  have f1 : wrap64 ((K : Int) + 1) = (K : Int) + 1 := IntWalk.wrap64_in _ ⟨by omega, by omega⟩
  exact ⟨by rw [IntKind.wrap_i64]; omega, f1, by omega, by omega, by omega⟩
theorem U_ofNat_small {n : Nat} (h : n < 4294967296) : U (BitVec.ofNat 64 n) = (n : Int) := by
  unfold U; simp; omega
section
attribute [local go_sem] index4_0 index4_1 index4_2 index4_3
set_option maxRecDepth 100000 in
set_option maxHeartbeats 4000000 in
theorem pack_any {w : World} {G : Nat} {b : Nat → Nat} {N age : Nat} {C : Nat → Nat → Nat} (hS : SkAt w G b N age C) :
    Calls Try.prog 15 #[.pointer (some ⟨G, 0, none⟩)] w fun e w' => ∃ u, e = .returned u ∧ w'.ownsRow w.heap.size 5 1 u (packS N age C).length (cellsOf (packS N age C)) ∧ Below w.heap.size w w' := by
  obtain ⟨i0, hi, hz0, hz1, hz2⟩ := info_parts Try.infoU8
  have hN := hS.wide.le
  have hA := hS.age_le
  obtain ⟨M, hM, hM1, hM2⟩ := hS.wide.even
  have HSM := Lib.hid (fun (V : World) (hb : Below w.heap.size w V) => hS.same hb)
  have HW := Lib.hid (width_any hS)
  have HAG := Lib.hid (fun (V : World) (hb : Below w.heap.size w V) => age_any (hS.same hb))
  have n1 : ((N : Int) == 0) = false := beq_eq_false_iff_ne.2 (by omega)
  have HA1 : Hid (Calls Try.prog 25 #[.slice none 0 0, .int .i64 (N : Int), .int .i64 2] w fun e w' => ∃ u, e = .returned u ∧ w'.ownsRow w.heap.size 5 1 u (leB 2 (BitVec.ofNat 64 N)).length (cellsOf (leB 2 (BitVec.ofNat 64 N))) ∧ Below w.heap.size w w') := by
    have := appendNumber_any (BitVec.ofNat 64 N) (by rw [U_ofNat_small (by omega)]; omega) 2 (by decide) w.heap.size (.slice none 0 0) [] w (World.ownsRow_nil _ _ _ _) (Nat.le_refl _) (by simp)
    rw [U_ofNat_small (by omega)] at this
    exact this
  have HA2 : Hid (∀ (V : World) (u : Value), V.ownsRow w.heap.size 5 1 u (leB 2 (BitVec.ofNat 64 N)).length (cellsOf (leB 2 (BitVec.ofNat 64 N))) → w.heap.size ≤ V.heap.size → Calls Try.prog 25 #[u, .int .i64 (age : Int), .int .i64 4] V fun e w' => ∃ u, e = .returned u ∧ w'.ownsRow w.heap.size 5 1 u (pkHead N age).length (cellsOf (pkHead N age)) ∧ Below w.heap.size V w') := by
    intro V u hu hb
    have := appendNumber_any (BitVec.ofNat 64 age) (by rw [U_ofNat_small (by omega)]; omega) 4 (by decide) w.heap.size u _ V hu hb (by rw [leB_len]; decide)
    rw [U_ofNat_small (by omega)] at this
    exact this
  have HC := Lib.hid hS.small
  have HN := Lib.hid hN
  have HM := Lib.hid (And.intro hM (And.intro hM1 hM2))
  unfold packS
  have eM : N / 2 = M := by omega
  rw [eM]
  clear hS hN hA hM hM1 hM2 eM
  go_enter Try.func15, Try.ntmps15
  go_upto_region 5 with (first
    | (go_at_call 10; (with_reducible refine HW.out.mono ?_); rintro e w' ⟨rfl, rfl⟩)
    | (go_at_call 25; (with_reducible refine HA1.out.mono ?_); rintro e w1 ⟨u1, rfl, ho1, hb1⟩; obtain ⟨a1, c1, rfl⟩ := owns_slice ho1; have HA3 := Lib.hid (HA2.out _ _ ho1 hb1.size); have HG3 := Lib.hid (HAG.out _ hb1); have HB1 := Lib.hid hb1; clear HA1 HA2 ho1 hb1)
    | (go_at_call 21; (with_reducible refine HG3.out.mono ?_); rintro e w' ⟨rfl, rfl⟩)
    | (go_at_call 25; (with_reducible refine HA3.out.mono ?_); rintro e w2 ⟨u2, rfl, ho2, hb2⟩; obtain ⟨a2, c2, rfl⟩ := owns_slice ho2; have HO2 := Lib.hid ho2; have HB2 := Lib.hid (HB1.out.trans hb2); clear HA3 ho2 hb2))
  have hs2 := HSM.out _ HB2.out
  have d0 : w2.cell? ⟨G, 0, none⟩ = some (.slice (some ⟨b 0, 0, none⟩) N N) := hs2.slot (r := 0) (by decide)
  have d1 : w2.cell? ⟨G, 1, none⟩ = some (.slice (some ⟨b 1, 0, none⟩) N N) := hs2.slot (r := 1) (by decide)
  have d2 : w2.cell? ⟨G, 2, none⟩ = some (.slice (some ⟨b 2, 0, none⟩) N N) := hs2.slot (r := 2) (by decide)
  have d3 : w2.cell? ⟨G, 3, none⟩ = some (.slice (some ⟨b 3, 0, none⟩) N N) := hs2.slot (r := 3) (by decide)
  clear hs2 HW HG3 HAG
  go_wp2
  go_loopw [3, 5, 6, 21] (fun v3 _ _ i W => ∃ r : Nat, r ≤ 4 ∧ i = .int .i64 r ∧ W.ownsRow w.heap.size 5 1 v3 (pkSo N age C M r 0).length (cellsOf (pkSo N age C M r 0)) ∧ Below w.heap.size w W) (fun _ _ _ i _ => 4 - (intOf i).toNat)
  case atStart => exact ⟨0, Nat.zero_le _, rfl, by rw [pkSo_none]; exact HO2.out, HB2.out⟩
  case round =>
    obtain ⟨r, hr, rfl, hor, hBr⟩ := hrel
    obtain ⟨wo, rfl⟩ : ∃ wo, wo = wr := ⟨_, rfl⟩
    obtain ⟨ar, cr, rfl⟩ := owns_slice hor
    have HOR := Lib.hid hor
    have HBR := Lib.hid hBr
    by_cases h4 : r < 4
    · have hcs : r = 0 ∨ r = 1 ∨ r = 2 ∨ r = 3 := by omega
      clear hor hBr hr d0 d1 d2 d3
      rcases hcs with rfl | rfl | rfl | rfl
      · go_wp2
        go_loopw [3, 6] (fun v3 i W => ∃ k : Nat, k ≤ M ∧ i = .int .i64 ((2 * k : Nat) : Int) ∧ W.ownsRow w.heap.size 5 1 v3 (pkSo N age C M 0 k).length (cellsOf (pkSo N age C M 0 k)) ∧ Below w.heap.size w W) (fun _ i _ => 2 * M - (intOf i).toNat)
        case atStart => exact ⟨0, Nat.zero_le _, rfl, HOR.out, HBR.out⟩
        case round =>
          obtain ⟨k, hk, rfl, hok, hBk⟩ := hrel
          by_cases hkM : k < M
          · have hsk := HSM.out _ hBk
            have q1 : wr.drew.cell? ⟨b 0, 2 * k, none⟩ = some (.int .u8 ((C 0 (2 * k) : Nat) : Int)) := hsk.count (by decide) (by have := HM.out; omega)
            have q2 : wr.drew.cell? ⟨b 0, 2 * k + 1, none⟩ = some (.int .u8 ((C 0 (2 * k + 1) : Nat) : Int)) := hsk.count (by decide) (by have := HM.out; omega)
            have p1 : ((2 * k : Nat) : Int) < (N : Int) := by have := HM.out; omega
            have p2 : ((2 * k + 1 : Nat) : Int) < (N : Int) := by have := HM.out; omega
            have pB : (N : Int) ≤ 4096 := by have := HN.out; omega
            have HP := Lib.hid (pkSo_step N age C M 0 k)
            have HPB := Lib.hid (pk_byte (C 0 (2 * k)) (C 0 (2 * k + 1)) (HC.out _ _) (HC.out _ _))
            have hpb : pkB C 0 k = BitVec.ofNat 8 (C 0 (2 * k) + 16 * C 0 (2 * k + 1)) := rfl
            rw [hpb] at HP
            obtain ⟨y, hy⟩ : ∃ y, BitVec.ofNat 8 (C 0 (2 * k) + 16 * C 0 (2 * k + 1)) = y := ⟨_, rfl⟩
            rw [hy] at HP HPB
            obtain ⟨x1, hx1⟩ : ∃ x, C 0 (2 * k) = x := ⟨_, rfl⟩
            obtain ⟨x2, hx2⟩ : ∃ x, C 0 (2 * k + 1) = x := ⟨_, rfl⟩
            rw [hx1] at q1 HPB
            rw [hx2] at q2 HPB
            have hpb1 := HPB.out
            obtain ⟨rr, hrr⟩ : ∃ rr, pkSo N age C M 0 k = rr := ⟨_, rfl⟩
            rw [hrr] at hok HP
            have HRR := Lib.hid hrr
            have HRL : Hid (rr.length ≤ 10000) := by
              unfold Hid
              rw [← hrr]
              simp only [pkSo, List.length_append, pkHead_len, pkTo_len, pkRow_len]
              have := HM.out
              omega
            have HOK := Lib.hid hok
            have HBK := Lib.hid hBk
            have HKM := Lib.hid hkM
            obtain ⟨av, cv, rfl⟩ := owns_slice hok
            have HXX : ∀ V, Below w.heap.size w V → V.cell? ⟨b 0, 2 * k, none⟩ = some (.int .u8 (x1 : Int)) ∧ V.cell? ⟨b 0, 2 * k + 1, none⟩ = some (.int .u8 (x2 : Int)) := fun V hb => ⟨by rw [← hx1]; exact (HSM.out V hb).count (by decide) (by have := HM.out; omega), by rw [← hx2]; exact (HSM.out V hb).count (by decide) (by have := HM.out; omega)⟩
            clear hy hx1 hx2 hrr hok hBk hsk hpb hk hkM HPB
            obtain ⟨K2, hK2⟩ : ∃ K2, 2 * k = K2 := ⟨_, rfl⟩
            rw [hK2] at q1 q2 p1 p2 HXX ⊢
            have HK2 := Lib.hid hK2
            clear hK2
            obtain ⟨f0, f1, f2, f3, f4⟩ := idx_facts (K := K2) (N := N) (by omega) HN.out.2
            have HX : Hid (∀ V, Below w.heap.size w V → V.cell? ⟨b 0, K2, none⟩ = some (.int .u8 (x1 : Int)) ∧ V.cell? ⟨b 0, K2 + 1, none⟩ = some (.int .u8 (x2 : Int))) := HXX
            have HB0 := Lib.hid (HBK.out.drew)
            have HBA := Lib.hid (HB0.out.alloc HBK.out.size (.cells #[.int .u8 (U y)] 5))
            have HOA := Lib.hid ((show wr.drew.ownsRow w.heap.size 5 1 (.slice av rr.length cv) rr.length (cellsOf rr) from HOK.out).alloc (.cells #[.int .u8 (U y)] 5))
            have HYE := Lib.hid (bytes_one wr.drew y)
            clear q1 q2 HXX
            go_wp2
            go_region_held3 (fun (W : World) => W.cell? ⟨b 0, K2, none⟩ = some (.int .u8 (x1 : Int)) ∧ W.cell? ⟨b 0, K2 + 1, none⟩ = some (.int .u8 (x2 : Int)))
              (first | exact HX.out _ HB0.out | exact HX.out _ HBA.out | exact HX.out _ HB9.out)
              (first | (refine step_append_bytes rfl (.tmp 30) (.tmp 42) rfl rfl w.heap.size i0 hi hz0 hz1 hz2 _ rfl rr HOA.out _ rfl _ [y] HYE.out (by have := HRL.out; simp; omega) HBA.out.size ?_; intro v9 w9 n9 hn hown hg9 _; have HB9 := Lib.hid (HBA.out.grown hg9 HBA.out.size (fun k e => (HOA.out.lt k e).1)); have HN9 := Lib.hid hn; have HO9 := Lib.hid hown; clear hn hown hg9))
            all_goals
              have HER := HP
              have kk := HK2.out
              have kM := HKM.out
              obtain ⟨a9, c9, rfl⟩ := owns_slice HO9.out
              go_wp2
              go_roundw
              case rel =>
                have en := HN9.out
                clear HN9
                subst en
                repeat apply Exists.intro
                exact ⟨⟨k + 1, by omega, by rw [← kk]; go_num, by rw [HER.out]; exact HO9.out, HB9.out⟩, rfl⟩
              case measure => simp [intOf]; omega
          · obtain rfl : k = M := by omega
            have p1 : ((2 * k : Nat) : Int) = (N : Int) := by have := HM.out; omega
            rw [p1]
            have HOK := Lib.hid hok
            obtain ⟨av, cv, rfl⟩ := owns_slice hok
            have HBK := Lib.hid hBk
            clear hok hBk
            go_wp2
            go_roundw
            case rel => exact ⟨1, by decide, by go_num, by rw [pkSo_next]; exact HOK.out, HBK.out⟩
            case measure => simp [intOf]
      · go_wp2
        go_loopw [3, 6] (fun v3 i W => ∃ k : Nat, k ≤ M ∧ i = .int .i64 ((2 * k : Nat) : Int) ∧ W.ownsRow w.heap.size 5 1 v3 (pkSo N age C M 1 k).length (cellsOf (pkSo N age C M 1 k)) ∧ Below w.heap.size w W) (fun _ i _ => 2 * M - (intOf i).toNat)
        case atStart => exact ⟨0, Nat.zero_le _, rfl, HOR.out, HBR.out⟩
        case round =>
          obtain ⟨k, hk, rfl, hok, hBk⟩ := hrel
          by_cases hkM : k < M
          · have hsk := HSM.out _ hBk
            have q1 : wr.drew.cell? ⟨b 1, 2 * k, none⟩ = some (.int .u8 ((C 1 (2 * k) : Nat) : Int)) := hsk.count (by decide) (by have := HM.out; omega)
            have q2 : wr.drew.cell? ⟨b 1, 2 * k + 1, none⟩ = some (.int .u8 ((C 1 (2 * k + 1) : Nat) : Int)) := hsk.count (by decide) (by have := HM.out; omega)
            have p1 : ((2 * k : Nat) : Int) < (N : Int) := by have := HM.out; omega
            have p2 : ((2 * k + 1 : Nat) : Int) < (N : Int) := by have := HM.out; omega
            have pB : (N : Int) ≤ 4096 := by have := HN.out; omega
            have HP := Lib.hid (pkSo_step N age C M 1 k)
            have HPB := Lib.hid (pk_byte (C 1 (2 * k)) (C 1 (2 * k + 1)) (HC.out _ _) (HC.out _ _))
            have hpb : pkB C 1 k = BitVec.ofNat 8 (C 1 (2 * k) + 16 * C 1 (2 * k + 1)) := rfl
            rw [hpb] at HP
            obtain ⟨y, hy⟩ : ∃ y, BitVec.ofNat 8 (C 1 (2 * k) + 16 * C 1 (2 * k + 1)) = y := ⟨_, rfl⟩
            rw [hy] at HP HPB
            obtain ⟨x1, hx1⟩ : ∃ x, C 1 (2 * k) = x := ⟨_, rfl⟩
            obtain ⟨x2, hx2⟩ : ∃ x, C 1 (2 * k + 1) = x := ⟨_, rfl⟩
            rw [hx1] at q1 HPB
            rw [hx2] at q2 HPB
            have hpb1 := HPB.out
            obtain ⟨rr, hrr⟩ : ∃ rr, pkSo N age C M 1 k = rr := ⟨_, rfl⟩
            rw [hrr] at hok HP
            have HRR := Lib.hid hrr
            have HRL : Hid (rr.length ≤ 10000) := by
              unfold Hid
              rw [← hrr]
              simp only [pkSo, List.length_append, pkHead_len, pkTo_len, pkRow_len]
              have := HM.out
              omega
            have HOK := Lib.hid hok
            have HBK := Lib.hid hBk
            have HKM := Lib.hid hkM
            obtain ⟨av, cv, rfl⟩ := owns_slice hok
            have HXX : ∀ V, Below w.heap.size w V → V.cell? ⟨b 1, 2 * k, none⟩ = some (.int .u8 (x1 : Int)) ∧ V.cell? ⟨b 1, 2 * k + 1, none⟩ = some (.int .u8 (x2 : Int)) := fun V hb => ⟨by rw [← hx1]; exact (HSM.out V hb).count (by decide) (by have := HM.out; omega), by rw [← hx2]; exact (HSM.out V hb).count (by decide) (by have := HM.out; omega)⟩
            clear hy hx1 hx2 hrr hok hBk hsk hpb hk hkM HPB
            obtain ⟨K2, hK2⟩ : ∃ K2, 2 * k = K2 := ⟨_, rfl⟩
            rw [hK2] at q1 q2 p1 p2 HXX ⊢
            have HK2 := Lib.hid hK2
            clear hK2
            obtain ⟨f0, f1, f2, f3, f4⟩ := idx_facts (K := K2) (N := N) (by omega) HN.out.2
            have HX : Hid (∀ V, Below w.heap.size w V → V.cell? ⟨b 1, K2, none⟩ = some (.int .u8 (x1 : Int)) ∧ V.cell? ⟨b 1, K2 + 1, none⟩ = some (.int .u8 (x2 : Int))) := HXX
            have HB0 := Lib.hid (HBK.out.drew)
            have HBA := Lib.hid (HB0.out.alloc HBK.out.size (.cells #[.int .u8 (U y)] 5))
            have HOA := Lib.hid ((show wr.drew.ownsRow w.heap.size 5 1 (.slice av rr.length cv) rr.length (cellsOf rr) from HOK.out).alloc (.cells #[.int .u8 (U y)] 5))
            have HYE := Lib.hid (bytes_one wr.drew y)
            clear q1 q2 HXX
            go_wp2
            go_region_held3 (fun (W : World) => W.cell? ⟨b 1, K2, none⟩ = some (.int .u8 (x1 : Int)) ∧ W.cell? ⟨b 1, K2 + 1, none⟩ = some (.int .u8 (x2 : Int)))
              (first | exact HX.out _ HB0.out | exact HX.out _ HBA.out | exact HX.out _ HB9.out)
              (first | (refine step_append_bytes rfl (.tmp 30) (.tmp 42) rfl rfl w.heap.size i0 hi hz0 hz1 hz2 _ rfl rr HOA.out _ rfl _ [y] HYE.out (by have := HRL.out; simp; omega) HBA.out.size ?_; intro v9 w9 n9 hn hown hg9 _; have HB9 := Lib.hid (HBA.out.grown hg9 HBA.out.size (fun k e => (HOA.out.lt k e).1)); have HN9 := Lib.hid hn; have HO9 := Lib.hid hown; clear hn hown hg9))
            all_goals
              have HER := HP
              have kk := HK2.out
              have kM := HKM.out
              obtain ⟨a9, c9, rfl⟩ := owns_slice HO9.out
              go_wp2
              go_roundw
              case rel =>
                have en := HN9.out
                clear HN9
                subst en
                repeat apply Exists.intro
                exact ⟨⟨k + 1, by omega, by rw [← kk]; go_num, by rw [HER.out]; exact HO9.out, HB9.out⟩, rfl⟩
              case measure => simp [intOf]; omega
          · obtain rfl : k = M := by omega
            have p1 : ((2 * k : Nat) : Int) = (N : Int) := by have := HM.out; omega
            rw [p1]
            have HOK := Lib.hid hok
            obtain ⟨av, cv, rfl⟩ := owns_slice hok
            have HBK := Lib.hid hBk
            clear hok hBk
            go_wp2
            go_roundw
            case rel => exact ⟨2, by decide, by go_num, by rw [pkSo_next]; exact HOK.out, HBK.out⟩
            case measure => simp [intOf]
      · go_wp2
        go_loopw [3, 6] (fun v3 i W => ∃ k : Nat, k ≤ M ∧ i = .int .i64 ((2 * k : Nat) : Int) ∧ W.ownsRow w.heap.size 5 1 v3 (pkSo N age C M 2 k).length (cellsOf (pkSo N age C M 2 k)) ∧ Below w.heap.size w W) (fun _ i _ => 2 * M - (intOf i).toNat)
        case atStart => exact ⟨0, Nat.zero_le _, rfl, HOR.out, HBR.out⟩
        case round =>
          obtain ⟨k, hk, rfl, hok, hBk⟩ := hrel
          by_cases hkM : k < M
          · have hsk := HSM.out _ hBk
            have q1 : wr.drew.cell? ⟨b 2, 2 * k, none⟩ = some (.int .u8 ((C 2 (2 * k) : Nat) : Int)) := hsk.count (by decide) (by have := HM.out; omega)
            have q2 : wr.drew.cell? ⟨b 2, 2 * k + 1, none⟩ = some (.int .u8 ((C 2 (2 * k + 1) : Nat) : Int)) := hsk.count (by decide) (by have := HM.out; omega)
            have p1 : ((2 * k : Nat) : Int) < (N : Int) := by have := HM.out; omega
            have p2 : ((2 * k + 1 : Nat) : Int) < (N : Int) := by have := HM.out; omega
            have pB : (N : Int) ≤ 4096 := by have := HN.out; omega
            have HP := Lib.hid (pkSo_step N age C M 2 k)
            have HPB := Lib.hid (pk_byte (C 2 (2 * k)) (C 2 (2 * k + 1)) (HC.out _ _) (HC.out _ _))
            have hpb : pkB C 2 k = BitVec.ofNat 8 (C 2 (2 * k) + 16 * C 2 (2 * k + 1)) := rfl
            rw [hpb] at HP
            obtain ⟨y, hy⟩ : ∃ y, BitVec.ofNat 8 (C 2 (2 * k) + 16 * C 2 (2 * k + 1)) = y := ⟨_, rfl⟩
            rw [hy] at HP HPB
            obtain ⟨x1, hx1⟩ : ∃ x, C 2 (2 * k) = x := ⟨_, rfl⟩
            obtain ⟨x2, hx2⟩ : ∃ x, C 2 (2 * k + 1) = x := ⟨_, rfl⟩
            rw [hx1] at q1 HPB
            rw [hx2] at q2 HPB
            have hpb1 := HPB.out
            obtain ⟨rr, hrr⟩ : ∃ rr, pkSo N age C M 2 k = rr := ⟨_, rfl⟩
            rw [hrr] at hok HP
            have HRR := Lib.hid hrr
            have HRL : Hid (rr.length ≤ 10000) := by
              unfold Hid
              rw [← hrr]
              simp only [pkSo, List.length_append, pkHead_len, pkTo_len, pkRow_len]
              have := HM.out
              omega
            have HOK := Lib.hid hok
            have HBK := Lib.hid hBk
            have HKM := Lib.hid hkM
            obtain ⟨av, cv, rfl⟩ := owns_slice hok
            have HXX : ∀ V, Below w.heap.size w V → V.cell? ⟨b 2, 2 * k, none⟩ = some (.int .u8 (x1 : Int)) ∧ V.cell? ⟨b 2, 2 * k + 1, none⟩ = some (.int .u8 (x2 : Int)) := fun V hb => ⟨by rw [← hx1]; exact (HSM.out V hb).count (by decide) (by have := HM.out; omega), by rw [← hx2]; exact (HSM.out V hb).count (by decide) (by have := HM.out; omega)⟩
            clear hy hx1 hx2 hrr hok hBk hsk hpb hk hkM HPB
            obtain ⟨K2, hK2⟩ : ∃ K2, 2 * k = K2 := ⟨_, rfl⟩
            rw [hK2] at q1 q2 p1 p2 HXX ⊢
            have HK2 := Lib.hid hK2
            clear hK2
            obtain ⟨f0, f1, f2, f3, f4⟩ := idx_facts (K := K2) (N := N) (by omega) HN.out.2
            have HX : Hid (∀ V, Below w.heap.size w V → V.cell? ⟨b 2, K2, none⟩ = some (.int .u8 (x1 : Int)) ∧ V.cell? ⟨b 2, K2 + 1, none⟩ = some (.int .u8 (x2 : Int))) := HXX
            have HB0 := Lib.hid (HBK.out.drew)
            have HBA := Lib.hid (HB0.out.alloc HBK.out.size (.cells #[.int .u8 (U y)] 5))
            have HOA := Lib.hid ((show wr.drew.ownsRow w.heap.size 5 1 (.slice av rr.length cv) rr.length (cellsOf rr) from HOK.out).alloc (.cells #[.int .u8 (U y)] 5))
            have HYE := Lib.hid (bytes_one wr.drew y)
            clear q1 q2 HXX
            go_wp2
            go_region_held3 (fun (W : World) => W.cell? ⟨b 2, K2, none⟩ = some (.int .u8 (x1 : Int)) ∧ W.cell? ⟨b 2, K2 + 1, none⟩ = some (.int .u8 (x2 : Int)))
              (first | exact HX.out _ HB0.out | exact HX.out _ HBA.out | exact HX.out _ HB9.out)
              (first | (refine step_append_bytes rfl (.tmp 30) (.tmp 42) rfl rfl w.heap.size i0 hi hz0 hz1 hz2 _ rfl rr HOA.out _ rfl _ [y] HYE.out (by have := HRL.out; simp; omega) HBA.out.size ?_; intro v9 w9 n9 hn hown hg9 _; have HB9 := Lib.hid (HBA.out.grown hg9 HBA.out.size (fun k e => (HOA.out.lt k e).1)); have HN9 := Lib.hid hn; have HO9 := Lib.hid hown; clear hn hown hg9))
            all_goals
              have HER := HP
              have kk := HK2.out
              have kM := HKM.out
              obtain ⟨a9, c9, rfl⟩ := owns_slice HO9.out
              go_wp2
              go_roundw
              case rel =>
                have en := HN9.out
                clear HN9
                subst en
                repeat apply Exists.intro
                exact ⟨⟨k + 1, by omega, by rw [← kk]; go_num, by rw [HER.out]; exact HO9.out, HB9.out⟩, rfl⟩
              case measure => simp [intOf]; omega
          · obtain rfl : k = M := by omega
            have p1 : ((2 * k : Nat) : Int) = (N : Int) := by have := HM.out; omega
            rw [p1]
            have HOK := Lib.hid hok
            obtain ⟨av, cv, rfl⟩ := owns_slice hok
            have HBK := Lib.hid hBk
            clear hok hBk
            go_wp2
            go_roundw
            case rel => exact ⟨3, by decide, by go_num, by rw [pkSo_next]; exact HOK.out, HBK.out⟩
            case measure => simp [intOf]
      · go_wp2
        go_loopw [3, 6] (fun v3 i W => ∃ k : Nat, k ≤ M ∧ i = .int .i64 ((2 * k : Nat) : Int) ∧ W.ownsRow w.heap.size 5 1 v3 (pkSo N age C M 3 k).length (cellsOf (pkSo N age C M 3 k)) ∧ Below w.heap.size w W) (fun _ i _ => 2 * M - (intOf i).toNat)
        case atStart => exact ⟨0, Nat.zero_le _, rfl, HOR.out, HBR.out⟩
        case round =>
          obtain ⟨k, hk, rfl, hok, hBk⟩ := hrel
          by_cases hkM : k < M
          · have hsk := HSM.out _ hBk
            have q1 : wr.drew.cell? ⟨b 3, 2 * k, none⟩ = some (.int .u8 ((C 3 (2 * k) : Nat) : Int)) := hsk.count (by decide) (by have := HM.out; omega)
            have q2 : wr.drew.cell? ⟨b 3, 2 * k + 1, none⟩ = some (.int .u8 ((C 3 (2 * k + 1) : Nat) : Int)) := hsk.count (by decide) (by have := HM.out; omega)
            have p1 : ((2 * k : Nat) : Int) < (N : Int) := by have := HM.out; omega
            have p2 : ((2 * k + 1 : Nat) : Int) < (N : Int) := by have := HM.out; omega
            have pB : (N : Int) ≤ 4096 := by have := HN.out; omega
            have HP := Lib.hid (pkSo_step N age C M 3 k)
            have HPB := Lib.hid (pk_byte (C 3 (2 * k)) (C 3 (2 * k + 1)) (HC.out _ _) (HC.out _ _))
            have hpb : pkB C 3 k = BitVec.ofNat 8 (C 3 (2 * k) + 16 * C 3 (2 * k + 1)) := rfl
            rw [hpb] at HP
            obtain ⟨y, hy⟩ : ∃ y, BitVec.ofNat 8 (C 3 (2 * k) + 16 * C 3 (2 * k + 1)) = y := ⟨_, rfl⟩
            rw [hy] at HP HPB
            obtain ⟨x1, hx1⟩ : ∃ x, C 3 (2 * k) = x := ⟨_, rfl⟩
            obtain ⟨x2, hx2⟩ : ∃ x, C 3 (2 * k + 1) = x := ⟨_, rfl⟩
            rw [hx1] at q1 HPB
            rw [hx2] at q2 HPB
            have hpb1 := HPB.out
            obtain ⟨rr, hrr⟩ : ∃ rr, pkSo N age C M 3 k = rr := ⟨_, rfl⟩
            rw [hrr] at hok HP
            have HRR := Lib.hid hrr
            have HRL : Hid (rr.length ≤ 10000) := by
              unfold Hid
              rw [← hrr]
              simp only [pkSo, List.length_append, pkHead_len, pkTo_len, pkRow_len]
              have := HM.out
              omega
            have HOK := Lib.hid hok
            have HBK := Lib.hid hBk
            have HKM := Lib.hid hkM
            obtain ⟨av, cv, rfl⟩ := owns_slice hok
            have HXX : ∀ V, Below w.heap.size w V → V.cell? ⟨b 3, 2 * k, none⟩ = some (.int .u8 (x1 : Int)) ∧ V.cell? ⟨b 3, 2 * k + 1, none⟩ = some (.int .u8 (x2 : Int)) := fun V hb => ⟨by rw [← hx1]; exact (HSM.out V hb).count (by decide) (by have := HM.out; omega), by rw [← hx2]; exact (HSM.out V hb).count (by decide) (by have := HM.out; omega)⟩
            clear hy hx1 hx2 hrr hok hBk hsk hpb hk hkM HPB
            obtain ⟨K2, hK2⟩ : ∃ K2, 2 * k = K2 := ⟨_, rfl⟩
            rw [hK2] at q1 q2 p1 p2 HXX ⊢
            have HK2 := Lib.hid hK2
            clear hK2
            obtain ⟨f0, f1, f2, f3, f4⟩ := idx_facts (K := K2) (N := N) (by omega) HN.out.2
            have HX : Hid (∀ V, Below w.heap.size w V → V.cell? ⟨b 3, K2, none⟩ = some (.int .u8 (x1 : Int)) ∧ V.cell? ⟨b 3, K2 + 1, none⟩ = some (.int .u8 (x2 : Int))) := HXX
            have HB0 := Lib.hid (HBK.out.drew)
            have HBA := Lib.hid (HB0.out.alloc HBK.out.size (.cells #[.int .u8 (U y)] 5))
            have HOA := Lib.hid ((show wr.drew.ownsRow w.heap.size 5 1 (.slice av rr.length cv) rr.length (cellsOf rr) from HOK.out).alloc (.cells #[.int .u8 (U y)] 5))
            have HYE := Lib.hid (bytes_one wr.drew y)
            clear q1 q2 HXX
            go_wp2
            go_region_held3 (fun (W : World) => W.cell? ⟨b 3, K2, none⟩ = some (.int .u8 (x1 : Int)) ∧ W.cell? ⟨b 3, K2 + 1, none⟩ = some (.int .u8 (x2 : Int)))
              (first | exact HX.out _ HB0.out | exact HX.out _ HBA.out | exact HX.out _ HB9.out)
              (first | (refine step_append_bytes rfl (.tmp 30) (.tmp 42) rfl rfl w.heap.size i0 hi hz0 hz1 hz2 _ rfl rr HOA.out _ rfl _ [y] HYE.out (by have := HRL.out; simp; omega) HBA.out.size ?_; intro v9 w9 n9 hn hown hg9 _; have HB9 := Lib.hid (HBA.out.grown hg9 HBA.out.size (fun k e => (HOA.out.lt k e).1)); have HN9 := Lib.hid hn; have HO9 := Lib.hid hown; clear hn hown hg9))
            all_goals
              have HER := HP
              have kk := HK2.out
              have kM := HKM.out
              obtain ⟨a9, c9, rfl⟩ := owns_slice HO9.out
              go_wp2
              go_roundw
              case rel =>
                have en := HN9.out
                clear HN9
                subst en
                repeat apply Exists.intro
                exact ⟨⟨k + 1, by omega, by rw [← kk]; go_num, by rw [HER.out]; exact HO9.out, HB9.out⟩, rfl⟩
              case measure => simp [intOf]; omega
          · obtain rfl : k = M := by omega
            have p1 : ((2 * k : Nat) : Int) = (N : Int) := by have := HM.out; omega
            rw [p1]
            have HOK := Lib.hid hok
            obtain ⟨av, cv, rfl⟩ := owns_slice hok
            have HBK := Lib.hid hBk
            clear hok hBk
            go_wp2
            go_roundw
            case rel => exact ⟨4, by decide, by go_num, by rw [pkSo_next]; exact HOK.out, HBK.out⟩
            case measure => simp [intOf]
    · obtain rfl : r = 4 := by omega
      clear hor hBr
      go_wp2
      go_ret
      rw [← pkSo_all]
      exact ⟨_, rfl, HOR.out, HBR.out⟩
end
end Go.Proofs.Ytalgkiagdjckiaa

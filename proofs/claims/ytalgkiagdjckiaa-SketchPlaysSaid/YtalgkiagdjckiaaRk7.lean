/-
  sgraffitoref23: Pack.
  Conditions: none.
-/
import Derived.Test.YtalgkiagdjckiaaRk6
import Derived.Test.YtalgkiagdjckiaaSk10
import Derived.Test.YtalgkiagdjckiaaRAt
import Derived.Deep.RegionHeld3
import Derived.Deep.RegionHeldLaw
namespace Go.Proofs.Ytalgkiagdjckiaa
open Go.RowKit

/-- A byte of the document's row. -/
def rpB (l : List Int) (k : Nat) : BitVec 8 := BitVec.ofNat 8 ((l[2 * k]?.getD 0).toNat + 16 * (l[2 * k + 1]?.getD 0).toNat)
/-- The bytes ahead, and the first ones of the row. -/
def rpTo (N age : Nat) (l : List Int) (k : Nat) : List (BitVec 8) := pkHead N age ++ (List.range k).map (rpB l)
theorem rpTo_succ (N age : Nat) (l : List Int) (k : Nat) : rpTo N age l (k + 1) = rpTo N age l k ++ [rpB l k] := by simp [rpTo, List.range_succ]
theorem rpTo_zero (N age : Nat) (l : List Int) : rpTo N age l 0 = pkHead N age := by simp [rpTo]
theorem rpTo_len (N age : Nat) (l : List Int) (k : Nat) : (rpTo N age l k).length = 6 + k := by simp [rpTo, pkHead_len]
theorem pkTo_range (C : Nat → Nat → Nat) {M : Nat} (hM : 0 < M) (r : Nat) : pkTo C M r = (List.range (r * M)).map fun q => pkB C (q / M) (q % M) := by
  induction r with
  | zero => simp [pkTo]
  | succ r ih =>
    rw [pkTo, ih, Nat.succ_mul, List.range_add, List.map_append, List.map_map]
    congr 1
    unfold pkRow
    refine List.map_congr_left fun k hk => ?_
    have hk : k < M := by simpa using hk
    have e1 : (r * M + k) / M = r := by rw [Nat.mul_comm, Nat.mul_add_div hM, Nat.div_eq_of_lt hk, Nat.add_zero]
    have e2 : (r * M + k) % M = k := by rw [Nat.mul_comm, Nat.mul_add_mod, Nat.mod_eq_of_lt hk]
    simp only [Function.comp_apply]
    rw [e1, e2]
theorem rpTo_all {N age : Nat} {l : List Int} {C : Nat → Nat → Nat} (hW : WideOk N) (h : CntIs l N C) : rpTo N age l (2 * N) = packS N age C := by
  obtain ⟨M, hM, hM1, hM2⟩ := hW.even
  have eM : N / 2 = M := by omega
  unfold rpTo packS
  rw [eM, pkTo_range C (by omega) 4]
  congr 1
  rw [show 2 * N = 4 * M by omega]
  refine List.map_congr_left fun q hq => ?_
  have hq : q < 4 * M := by simpa using hq
  have hr : q / M < 4 := by rw [Nat.div_lt_iff_lt_mul (by omega)]; exact hq
  have hj : q % M < M := Nat.mod_lt _ (by omega)
  have hd := Nat.div_add_mod q M
  have e1 : 2 * q = q / M * N + 2 * (q % M) := by
    rw [hM]
    have : q / M * (2 * M) = 2 * (M * (q / M)) := by rw [Nat.mul_comm, Nat.mul_assoc]
    omega
  have c1 := h.eq (q / M) (2 * (q % M)) hr (by omega)
  have c2 := h.eq (q / M) (2 * (q % M) + 1) hr (by omega)
  unfold rpB pkB
  rw [show q / M * N + (2 * (q % M) + 1) = 2 * q + 1 by omega] at c2
  rw [← e1] at c1
  rw [c1, c2]
  rfl
theorem idx_facts2 {K N : Nat} (h : K + 1 < N) (hN : N ≤ 16384) : IntKind.i64.wrap ((K : Int) + 1) = (K : Int) + 1 ∧ wrap64 ((K : Int) + 1) = (K : Int) + 1 ∧ ((K : Int) + 1).toNat = K + 1 ∧ (0 : Int) ≤ (K : Int) + 1 ∧ (K : Int) + 1 < (N : Int) := by
  have f1 : wrap64 ((K : Int) + 1) = (K : Int) + 1 := IntWalk.wrap64_in _ ⟨by omega, by omega⟩
  exact ⟨by rw [IntKind.wrap_i64]; omega, f1, by omega, by omega, by omega⟩
theorem step2_facts {K N : Nat} (h : K + 1 < N) (hN : N ≤ 16384) : IntKind.i64.wrap ((K : Int) + 2) = (K : Int) + 2 ∧ wrap64 ((K : Int) + 2) = (K : Int) + 2 := by
  have f1 : wrap64 ((K : Int) + 2) = (K : Int) + 2 := IntWalk.wrap64_in _ ⟨by omega, by omega⟩
  exact ⟨by rw [IntKind.wrap_i64]; omega, f1⟩
theorem rp_next {k K : Nat} (h : 2 * k = K) : Value.int .i64 ((K : Int) + 2) = .int .i64 ((2 * (k + 1) : Nat) : Int) := by
  rw [show ((2 * (k + 1) : Nat) : Int) = (K : Int) + 2 by omega]
theorem rp_measure {K T : Nat} (h : (K : Int) < (T : Int)) : T - (intOf (.int .i64 ((K : Int) + 2))).toNat < T - (intOf (.int .i64 (K : Int))).toNat := by
  simp only [intOf]; omega
theorem rp_base {w : World} {b b' n : Nat} {v : Value} {xs : List Value} (h : w.ownsRow b 5 1 v n xs) (hb : b' ≤ b) : w.ownsRow b' 5 1 v n xs := by
  obtain ⟨h1, h2⟩ := h
  refine ⟨h1, ?_⟩
  rcases h2 with h2 | ⟨g, cap, cur, e, hg, h3⟩
  · exact .inl h2
  · exact .inr ⟨g, cap, cur, e, Nat.le_trans hb hg, h3⟩
theorem rpk_byte {c d : Nat} (hc : c ≤ 15) (hd : d ≤ 15) : (IntKind.i64.wrap (16 * (d : Int)) = 16 * (d : Int) ∧ wrap64 (16 * (d : Int)) = 16 * (d : Int)) ∧ (IntKind.i64.wrap ((c : Int) + 16 * (d : Int)) = (c : Int) + 16 * (d : Int) ∧ wrap64 ((c : Int) + 16 * (d : Int)) = (c : Int) + 16 * (d : Int)) ∧ IntKind.u8.wrap ((c : Int) + 16 * (d : Int)) = U (BitVec.ofNat 8 (c + 16 * d)) := by
  have f1 : wrap64 (16 * (d : Int)) = 16 * (d : Int) := IntWalk.wrap64_in _ ⟨by omega, by omega⟩
  have f2 : wrap64 ((c : Int) + 16 * (d : Int)) = (c : Int) + 16 * (d : Int) := IntWalk.wrap64_in _ ⟨by omega, by omega⟩
  refine ⟨⟨by rw [IntKind.wrap_i64]; omega, f1⟩, ⟨by rw [IntKind.wrap_i64]; omega, f2⟩, ?_⟩
  have h : ∀ c d : Fin 16, IntKind.u8.wrap (((c.val : Nat) : Int) + 16 * ((d.val : Nat) : Int)) = U (BitVec.ofNat 8 (c.val + 16 * d.val)) := by decide +kernel
  exact h ⟨c, by omega⟩ ⟨d, by omega⟩
set_option maxRecDepth 100000 in
set_option maxHeartbeats 4000000 in
theorem rpack_any {n₀ : Nat} {w : World} {a : Option Addr} {c N : Nat} {l : List Int} {C : Nat → Nat → Nat} (hR : RfIs n₀ w a c N l C) (hn₀ : n₀ ≤ w.heap.size) {age : Nat} (ha : age < 10 * N) :
    Calls Try.prog 17 #[.agg #[.int .i64 (N : Int), .int .i64 (age : Int), .slice a (4 * N) c]] w fun e w' => ∃ u, e = .returned u ∧ w'.ownsRow w.heap.size 5 1 u (packS N age C).length (cellsOf (packS N age C)) ∧ Below w.heap.size w w' := by
  obtain ⟨i0, hi, hz0, hz1, hz2⟩ := info_parts Try.infoU8
  have hle := hR.wide.le
  have hlen := hR.cnt.len
  rw [← rpTo_all hR.wide hR.cnt]
  have HN1 := Lib.hid (fun V => refNumO (N : Int) 2 (by omega) (by omega) rfl V)
  have HN2 := Lib.hid (fun V => refNumO (age : Int) 4 (by omega) (by omega) rfl V)
  have HH : Hid (leI 2 (N : Int) ++ leI 4 (age : Int) = pkHead N age) := by
    unfold Hid leI pkHead
    rw [show BitVec.ofInt 64 (N : Int) = BitVec.ofNat 64 N from rfl, show BitVec.ofInt 64 (age : Int) = BitVec.ofNat 64 age from rfl]
    rfl
  have HL1 := Lib.hid (leI_len 2 (N : Int))
  have HL2 := Lib.hid (leI_len 4 (age : Int))
  have HR := Lib.hid hR
  have HROW := Lib.hid (fun (V : World) (hb : Below w.heap.size w V) => hR.row.below (hb.mono hn₀))
  have e1 : IntKind.u64.wrap (N : Int) = (N : Int) := by rw [IntKind.wrap_u64]; omega
  have e2 : IntKind.u64.wrap (age : Int) = (age : Int) := by rw [IntKind.wrap_u64]; omega
  obtain ⟨T, hT⟩ : ∃ T, 4 * N = T := ⟨_, rfl⟩
  rw [hT] at HROW hlen ⊢
  have HT := Lib.hid hT
  have HLEN := Lib.hid hlen
  have HLE := Lib.hid hle
  have HN0 := Lib.hid hn₀
  clear hle hlen hT hn₀ hR ha
  obtain ⟨w1, hw1⟩ : ∃ w1, w.alloc (.cells #[.int .i64 (N : Int), .int .i64 (age : Int), .slice a T c] 30) = w1 := ⟨_, rfl⟩
  have hb1 : Below w.heap.size w w1 := by rw [← hw1]; exact (Below.refl _ w).alloc (Nat.le_refl _) _
  have hk1 : w1.heap[w.heap.size]? = some (.cells (rkC N (age : Int) (.slice a T c)) 30 (0, 0)) := by rw [← hw1]; exact heap_alloc_new _ _
  have q0 : w1.cell? ⟨w.heap.size, 0, none⟩ = some (.int .i64 (N : Int)) := blk_cell hk1 0
  have q1 : w1.cell? ⟨w.heap.size, 1, none⟩ = some (.int .i64 (age : Int)) := blk_cell hk1 1
  have HW1 := Lib.hid hw1
  have HB1 := Lib.hid hb1
  have HK1 := Lib.hid hk1
  have HBK : Hid (∀ V, Below w1.heap.size w1 V → V.heap[w.heap.size]? = some (.cells (rkC N (age : Int) (.slice a T c)) 30 (0, 0)) ∧ Below w.heap.size w V) := fun V hb => ⟨(hb.block _ (blk_lt HK1.out)).trans HK1.out, HB1.out.trans (hb.mono HB1.out.size)⟩
  clear hw1 hb1 hk1
  go_enter Try.func17, Try.ntmps17
  go_upto_region 1 with fail
  change Code.wp _ _ _ _ (w.alloc (.cells #[.int .i64 (N : Int), .int .i64 (age : Int), .slice a T c] 30))
  rw [HW1.out]
  clear HW1
  go_upto_region 3 with (first
    | (at_builtin; (refine wpList_append_bytes rfl (.tmp 9) (.tmp 13) rfl rfl w1.heap.size i0 hi hz0 hz1 hz2 _ rfl _ HR3.out.1 _ rfl _ _ HU3.out (by have := HL1.out; have := HL2.out; simp at *; omega) HR3.out.2.size ?_); intro v4 w4 n4 hn hown hg _; have HR4 := Lib.hid (RAt.app HR3.out hn.out hown hg); clear hn hown hg)
    | (go_at_call 29; go_loud (with_reducible refine (HN1.out _).mono ?_); rintro e w2 ⟨u2, rfl, hu, hb⟩; have HR2 := Lib.hid (show RAt w1 u2 (leI 2 (N : Int)) w2 from ⟨hu, hb⟩); have q2 : w2.cell? ⟨w.heap.size, 1, none⟩ = some (.int .i64 (age : Int)) := blk_cell (HBK.out _ hb).1 1; clear hu hb HN1 q0 q1)
    | (go_at_call 29; go_loud (with_reducible refine (HN2.out _).mono ?_); rintro e w3 ⟨u3, rfl, hu, hb⟩; have HU3 := Lib.hid (BytesAt.of_owns hu); have HR3 := Lib.hid (HR2.out.behind hb); clear hu hb HN2 q2))
  have HR5 : Hid (RAt w1 v4 (rpTo N age l 0) w4) := by
    unfold Hid
    rw [rpTo_zero, ← HH.out]
    exact HR4.out
  clear HR4 HR2 HR3 HU3 HL1 HL2 HH e1 e2
  go_wp2
  go_loopw [3, 4] (fun v i W => ∃ k : Nat, k ≤ 2 * N ∧ i = .int .i64 ((2 * k : Nat) : Int) ∧ RAt w1 v (rpTo N age l k) W) (fun _ i _ => T - (intOf i).toNat)
  case atStart => exact ⟨0, Nat.zero_le _, rfl, HR5.out⟩
  case round =>
    obtain ⟨k, hk, rfl, hok⟩ := hrel
    have hbox := HBK.out _ hok.2
    have d2 : wr.cell? ⟨w.heap.size, 2, none⟩ = some (.slice a T c) := blk_cell hbox.1 2
    by_cases hlt : k < 2 * N
    · obtain ⟨g, off, rfl, hg, hc⟩ := (HROW.out _ hbox.2).get (i := 2 * k) (by have := HLEN.out; have := HT.out; omega)
      obtain ⟨x1, hx1, hs1⟩ := rk_small HR.out (i := 2 * k) (by omega)
      obtain ⟨x2, hx2, hs2⟩ := rk_small HR.out (i := 2 * k + 1) (by omega)
      have HP := Lib.hid (rpTo_succ N age l k)
      have hpb : rpB l k = BitVec.ofNat 8 (x1 + 16 * x2) := by unfold rpB; rw [hx1, hx2]; rfl
      rw [hpb] at HP
      obtain ⟨⟨g1, g2⟩, ⟨g3, g4⟩, g5⟩ := rpk_byte hs1 hs2
      obtain ⟨y, hy⟩ : ∃ y, BitVec.ofNat 8 (x1 + 16 * x2) = y := ⟨_, rfl⟩
      rw [hy] at HP g5
      have HRL : Hid ((rpTo N age l k).length ≤ 10000) := by
        unfold Hid; rw [rpTo_len]; have := HLE.out; omega
      obtain ⟨rr, hrr⟩ : ∃ rr, rpTo N age l k = rr := ⟨_, rfl⟩
      rw [hrr] at hok HP HRL
      have HOK := Lib.hid hok
      have HKM := Lib.hid hlt
      have HXX : Hid (∀ V, Below w1.heap.size w1 V → V.cell? ⟨w.heap.size, 2, none⟩ = some (.slice (some ⟨g, off, none⟩) T c) ∧ V.cell? ⟨g, off + 2 * k, none⟩ = some (.int .i64 (x1 : Int)) ∧ V.cell? ⟨g, off + (2 * k + 1), none⟩ = some (.int .i64 (x2 : Int))) := fun V hb => by
        have hB := HBK.out V hb
        refine ⟨blk_cell hB.1 2, ?_, ?_⟩
        · obtain ⟨g', off', e', _, hc'⟩ := (HROW.out _ hB.2).get (i := 2 * k) (by have := HLEN.out; have := HT.out; omega)
          cases e'
          rw [hc', hx1]
        · obtain ⟨g', off', e', _, hc'⟩ := (HROW.out _ hB.2).get (i := 2 * k + 1) (by have := HLEN.out; have := HT.out; omega)
          cases e'
          rw [hc', hx2]
      obtain ⟨av, cv, rfl⟩ := owns_slice hok.1
      clear hbox hy hx1 hx2 hs1 hs2 hrr hok hpb hc hg hk
      have hlt4 : 2 * k + 1 < T := by have := HT.out; omega
      have hT4 : T ≤ 16384 := by have := HT.out; have := HLE.out; omega
      clear hlt
      obtain ⟨K2, hK2⟩ : ∃ K2, 2 * k = K2 := ⟨_, rfl⟩
      rw [hK2] at HXX hlt4 ⊢
      have HK2 := Lib.hid hK2
      clear hK2
      have i1 : (K2 : Int) < (T : Int) := by omega
      have i2 : (T : Int) ≤ 16384 := by omega
      obtain ⟨f0, f1, f2, f3, f4⟩ := idx_facts2 (K := K2) (N := T) hlt4 hT4
      obtain ⟨j1, j2⟩ := step2_facts (K := K2) (N := T) hlt4 hT4
      clear hlt4 hT4
      have HB0 := Lib.hid (show Below w1.heap.size w1 wr.drew from HOK.out.2.drew)
      have HBA := Lib.hid (HB0.out.alloc HOK.out.2.size (.cells #[.int .u8 (U y)] 5))
      have HOA := Lib.hid ((show wr.drew.ownsRow w1.heap.size 5 1 (.slice av rr.length cv) rr.length (cellsOf rr) from HOK.out.1).alloc (.cells #[.int .u8 (U y)] 5))
      have HYE := Lib.hid (bytes_one wr.drew y)
      go_wp2
      go_region_held3 (fun (W : World) => W.cell? ⟨w.heap.size, 2, none⟩ = some (.slice (some ⟨g, off, none⟩) T c) ∧ W.cell? ⟨g, off + K2, none⟩ = some (.int .i64 (x1 : Int)) ∧ W.cell? ⟨g, off + (K2 + 1), none⟩ = some (.int .i64 (x2 : Int)))
        (first | exact HXX.out _ HB0.out | exact HXX.out _ HBA.out | exact HXX.out _ HB9.out)
        (first | (refine step_append_bytes rfl (.tmp 22) (.tmp 37) rfl rfl w1.heap.size i0 hi hz0 hz1 hz2 _ rfl rr HOA.out _ rfl _ [y] HYE.out (by have := HRL.out; simp; omega) HBA.out.size ?_; intro v9 w9 n9 hn hown hg9 _; have HB9 := Lib.hid (HBA.out.grown hg9 HBA.out.size (fun k e => (HOA.out.lt k e).1)); have HN9 := Lib.hid hn; have HO9 := Lib.hid hown; clear hn hown hg9))
      all_goals
        have HER := HP
        have kk := HK2.out
        have kM := HKM.out
        obtain ⟨a9, c9, rfl⟩ := owns_slice HO9.out
        go_wp2
        go_roundw
        case rel =>
          have en := HN9.out
          clear HN9
          subst en
          exact ⟨k + 1, by omega, rp_next kk, by rw [HER.out]; exact HO9.out, HB9.out⟩
        case measure => exact rp_measure i1
    · obtain rfl : k = 2 * N := by omega
      have p1 : ((2 * (2 * N) : Nat) : Int) = (T : Int) := by have := HT.out; omega
      rw [p1]
      have HOK := Lib.hid hok
      obtain ⟨av, cv, rfl⟩ := owns_slice hok.1
      have HB := Lib.hid hbox.2
      clear hok hbox hk hlt
      go_wp2
      go_ret
      exact ⟨_, rfl, rp_base HOK.out.1 HB1.out.size, HB.out⟩
end Go.Proofs.Ytalgkiagdjckiaa

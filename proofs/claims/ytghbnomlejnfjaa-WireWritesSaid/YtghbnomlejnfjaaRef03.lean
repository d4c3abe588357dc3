/-
  sgraffitoref03: Number, Of, Put, Take.
  Conditions: none.
-/
import Derived.Test.YtghbnomlejnfjaaWireAwake
import Derived.StillTailTactics
import Derived.Deep.DeepCutAuto
import Derived.Outline
namespace Go.Proofs.Ytghbnomlejnfjaa
open Go.RowKit

theorem shr8_64 (x : BitVec 64) : U x / (256 : Int) = U (x >>> 8) := shr_U x 8 _ (by decide)
theorem quo8_64 (x : BitVec 64) : IntKind.u64.wrap ((U x).tdiv 256) = U (x >>> 8) := by
  rw [Int.tdiv_eq_ediv_of_nonneg (U_nonneg x), shr8_64, wrap_u64_U]
theorem low8_64 (x : BitVec 64) : IntKind.u8.wrap (U x % (256 : Int)) = U (x.setWidth 8) := by
  rw [← wrap8_64]
  simp [IntKind.wrap, IntKind.bits, IntKind.signed]

set_option maxHeartbeats 2000000 in
theorem refNumber_yes (x : BitVec 64) (k : Nat) (hk : mayB k = true) (w : World) : Calls Try.prog 21 #[.int .u64 (U x), .int .i64 k] w fun e w' => ∃ u, e = .returned u ∧ w'.ownsRow w.heap.size 5 1 u k (cellsOf (leB k x)) ∧ Below w.heap.size w w' := by
  obtain ⟨i0, hi, hz0, hz1, hz2⟩ := info_parts Try.infoU8
  have hk4 : k = 1 ∨ k = 2 ∨ k = 4 ∨ k = 8 := by
    have : (k : Int) = 1 ∨ (k : Int) = 2 ∨ (k : Int) = 4 ∨ (k : Int) = 8 := by simpa [mayB] using hk
    omega
  have k8 : (k : Int) ≤ 8 := by omega
  have HK := Lib.hid hk4
  clear hk
  go_enter Try.func21, Try.ntmps21
  go_upto_region 2 with (fail)
  go_cut [20] (fun s20 wx => s20 = .bool false ∧ w = wx)
  case first =>
    rcases HK.out with h | h | h | h
    all_goals
      subst h
      go_wp2_with fail
      go_meet
      exact ⟨rfl, rfl⟩
  case rest =>
    obtain ⟨rfl, rfl⟩ := hcut
    go_wp2
    go_loopw [0, 5, 6] (fun xv ov iv wr => ∃ j : Nat, j ≤ k ∧ iv = .int .i64 j ∧ xv = .int .u64 (U (x >>> (8 * j))) ∧ wr.ownsRow w.heap.size 5 1 ov j (cellsOf (leB j x)) ∧ Below w.heap.size w wr) (fun _ _ iv _ => k - (intOf iv).toNat)
    case atStart => exact ⟨0, Nat.zero_le _, rfl, by simp, World.ownsRow_nil _ _ _ _, Below.refl _ _⟩
    case round =>
      obtain ⟨j, hj, rfl, rfl, hown, hB⟩ := hrel
      by_cases hlt : j < k
      · have hwrap := low8_64 (x >>> (8 * j))
        have hshr := shr8_64 (x >>> (8 * j))
        have HX : Hid ((x >>> (8 * j)) >>> 8 = x >>> (8 * (j + 1))) := by unfold Hid; rw [← BitVec.shiftRight_add]; congr 1
        have HL := Lib.hid (leB_succ j x)
        have hlen := leB_len j x
        generalize x >>> (8 * j) = y at hwrap hshr HX HL
        obtain ⟨rj, hrj⟩ : ∃ rj, leB j x = rj := ⟨_, rfl⟩
        rw [hrj] at hown hlen HL
        subst hlen
        have HO := Lib.hid hown
        have y0 := U_nonneg y
        clear hrj hown
        have j1 : (rj.length : Int) < k := by omega
        obtain ⟨av, cv, rfl⟩ := owns_slice HO.out
        go_wp2_with (at_builtin; go_must (refine wpList_append_bytes rfl (.tmp 26) (.tmp 30) rfl rfl w.heap.size i0 hi hz0 hz1 hz2 _ rfl rj (HO.out.alloc _) _ rfl _ [y.setWidth 8] (bytes_one _ _) (by simp; omega) (by have := hB.size; simp; omega) ?_); intro v1 w1 n1 HN hown1 hgrow1 hat1; obtain ⟨a1, cp1, rfl⟩ := owns_slice hown1)
        go_roundw
        case rel =>
          have en : n1 = rj.length + 1 := by have := HN.out; simpa using this
          clear HN
          subst en
          refine ⟨rj.length + 1, by omega, by go_num, by rw [← HX.out, quo8_64], by rw [HL.out]; exact hown1, (hB.alloc hB.size _).grown hgrow1 (by have := hB.size; simp; omega) (fun i e => (HO.out.lt i e).1)⟩
        case measure => simp [intOf]; omega
      · obtain rfl : j = k := by omega
        go_wp2
        go_ret
        exact ⟨_, rfl, hown, hB⟩

theorem refNumber_no (x : BitVec 64) (k : Int) (hk : mayB k = false) (w : World) : Calls Try.prog 21 #[.int .u64 (U x), .int .i64 k] w fun e w' => e = .returned (.slice none 0 0) ∧ w = w' := by
  have h1 : ¬ (k = 1 ∨ k = 2 ∨ k = 4 ∨ k = 8) := by simpa [mayB] using hk
  have e1 : (k != 1) = true := by simp; omega
  have e2 : (k != 2) = true := by simp; omega
  have e4 : (k != 4) = true := by simp; omega
  have e8 : (k != 8) = true := by simp; omega
  clear h1 hk
  go_enter Try.func21, Try.ntmps21
  go_wp2
  go_ret
  exact ⟨rfl, rfl⟩

theorem refPut_own {w1 : World} {base n : Nat} {a : Option Addr} {cp : Nat} {row : List (BitVec 8)} (h : w1.ownsRow base 5 1 (.slice a n cp) n (cellsOf row)) (hn : n = row.length) : w1.ownsRow base 5 1 (.slice a n cp) row.length (cellsOf row) := by
  subst hn; exact h
theorem refPut_below {w w1 : World} {o1 o2 o3 : Obj} {n c : Nat} (hb : ∀ o1 o2 : Obj, Below w.heap.size w ((w.alloc o1).alloc o2)) (hg : (((w.alloc o1).alloc o2).alloc o3).grownBy w1 (Value.slice (some ⟨w.heap.size + 1 + 1, 0, none⟩) n c).ownBlock) : Below w.heap.size w w1 :=
  ((hb o1 o2).alloc (by simp; omega) o3).grown hg (by simp; omega) (fun k e => by
    have e : w.heap.size + 1 + 1 = k := by simpa [Value.ownBlock] using e
    omega)
theorem refPut_P {w w1 : World} {o1 o2 o3 : Obj} {n c : Nat} (hg : (((w.alloc o1).alloc o2).alloc o3).grownBy w1 (Value.slice (some ⟨w.heap.size + 1 + 1, 0, none⟩) n c).ownBlock) : w1.heap[w.heap.size]? = some o1 :=
  blk_keep (blk_alloc (blk_alloc (heap_alloc_new w o1) o2) o3) hg (by simp [Value.ownBlock]; omega)
theorem refPut_Q {w w1 : World} {o1 o2 o3 : Obj} {n c : Nat} (hg : (((w.alloc o1).alloc o2).alloc o3).grownBy w1 (Value.slice (some ⟨w.heap.size + 1 + 1, 0, none⟩) n c).ownBlock) : w1.heap[w.heap.size + 1]? = some o2 :=
  blk_keep (by have := blk_alloc (heap_alloc_new (w.alloc o1) o2) o3; simpa using this) hg (by simp [Value.ownBlock])
theorem refPut_ne {w1 : World} {base n m g : Nat} {v : Value} {cs : List Value} (h : w1.ownsRow base 5 m v n cs) (hg : g < base) : v.ownBlock ≠ some g := fun e => by
  have := (h.lt g e).1; omega
/-- What the reference's Put answers. -/
def refPut (row : List (BitVec 8)) (limit : Int) (full : Bool) (bs : List (BitVec 8)) : List (BitVec 8) × Bool := (wRow row limit full (some bs), wFull row limit full (some bs))

set_option maxHeartbeats 2000000 in
theorem refPut_any (v u : Value) (row bs : List (BitVec 8)) (limit : Int) (full : Bool) (w : World) (hv : BytesAt w.heap.size w v row) (hu : BytesAt w.heap.size w u bs) (hr : row.length ≤ 549755813888) (hl : bs.length ≤ 549755813888) :
    Calls Try.prog 22 #[.agg #[v, .int .i64 limit, .bool full], u] w fun e w' => ∃ v', e = .returned (.agg #[v', .int .i64 limit, .bool (wFull row limit full (some bs))]) ∧ BytesAt w'.heap.size w' v' (wRow row limit full (some bs)) ∧ Below w.heap.size w w' ∧ ((∀ k, v'.ownBlock = some k → w.heap.size ≤ k) ∨ (v' = v ∧ wRow row limit full (some bs) = row)) := by
  obtain ⟨i0, hi, hz0, hz1, hz2⟩ := info_parts Try.infoU8
  have hv0 := hv
  have hu0 := hu
  obtain ⟨av, cv, rfl, hcv, _, _⟩ := hv
  obtain ⟨au, cu, rfl, _, _, _⟩ := hu
  have r1 : (row.length : Int) ≤ 549755813888 := by omega
  have l1 : (bs.length : Int) ≤ 549755813888 := by omega
  have hb2 : ∀ o1 o2 : Obj, Below w.heap.size w ((w.alloc o1).alloc o2) := fun o1 o2 => ((Below.refl _ w).alloc (Nat.le_refl _) o1).alloc (by simp) o2
  cases full with
  | true =>
    have hfin : wRow row limit true (some bs) = row ∧ wFull row limit true (some bs) = true := ⟨by simp [wRow], by simp [wFull]⟩
    have HF := Lib.hid hfin
    have HV := Lib.hid hv0
    clear hfin hv0 hu0
    go_enter Try.func22, Try.ntmps22
    go_wp2
    refine bodyPost_ret (v := .agg #[.slice av row.length cv, .int .i64 limit, .bool true]) (by simp [results, Try.results22, go_sem]) rfl ⟨_, by rw [HF.out.2], ?_, hb2 _ _, .inr ⟨rfl, HF.out.1⟩⟩
    rw [HF.out.1]
    exact (HV.out.below (hb2 _ _)).mono (by simp; omega)
  | false =>
    by_cases hroom : (row.length : Int) + bs.length ≤ limit
    · have hfin : wRow row limit false (some bs) = row ++ bs ∧ wFull row limit false (some bs) = false := ⟨by simp [wRow]; omega, by simp [wFull]; omega⟩
      have HF := Lib.hid hfin
      have HV := Lib.hid hv0
      have HU := Lib.hid hu0
      clear hfin hv0 hu0
      go_enter Try.func22, Try.ntmps22
      go_wp2_with (first
        | (at_builtin; refine wpList_append_bytes rfl (.tmp 20) (.tmp 22) rfl rfl (w.heap.size + 2) i0 hi hz0 hz1 hz2 _ rfl [] (own_empty_at _ _ _ (by simp) (by omega)) _ rfl w.heap.size row (HV.out.below ((hb2 _ _).alloc (by simp; omega) _)) (by simp; omega) (by simp) ?_; intro v1 w1 n1 HN1 hown1 hgrow1 hat1; rw [List.nil_append] at HN1 hown1; obtain ⟨a1, cp1, rfl⟩ := owns_slice hown1; have HO1 := Lib.hid hown1; have HG1 := Lib.hid hgrow1; clear hown1 hgrow1 hat1)
        | (at_builtin; refine wpList_append_bytes rfl (.tmp 23) (.tmp 24) rfl rfl (w.heap.size + 2) i0 hi hz0 hz1 hz2 _ rfl row (refPut_own HO1.out HN1.out) _ rfl w.heap.size bs (HU.out.below (refPut_below hb2 HG1.out)) (by omega) (by have := HG1.out.size; simp at this; omega) ?_; intro v2 w2 n2 HN2 hown2 hgrow2 hat2; obtain ⟨a2, cp2, rfl⟩ := owns_slice hown2; have hP := blk_keep (refPut_P HG1.out) hgrow2 (refPut_ne HO1.out (by omega)); have hQ := blk_keep (refPut_Q HG1.out) hgrow2 (refPut_ne HO1.out (by omega)); have p0 := blk_cell hP 0; have p1 := blk_cell hP 1; have p2 := blk_cell hP 2; have pf := blk_frozen hP; have q0 := blk_cell hQ 0; have q1 := blk_cell hQ 1; have q2 := blk_cell hQ 2; have qf := blk_frozen hQ; have HP := Lib.hid hP; have HQ := Lib.hid hQ; have HO2 := Lib.hid hown2; have HG2 := Lib.hid hgrow2; clear hP hQ hown2 hgrow2 hat2))
      refine bodyPost_ret (v := .agg #[.slice a2 n2 cp2, .int .i64 limit, .bool false]) (by simp [results, Try.results22, go_sem, q0, q1, q2]) rfl ⟨_, by rw [HF.out.2], ?_, ?_, .inl fun k e => (by have := (HO2.out.lt k e).1; omega)⟩
      · rw [HF.out.1]
        obtain rfl := HN2.out
        have hm : Moves (fun k => k < w.heap.size + 2) w2 ((((w2.setCell ⟨w.heap.size, 0, none⟩ (.slice a2 (row ++ bs).length cp2)).setCell ⟨w.heap.size + 1, 0, none⟩ (.slice a2 (row ++ bs).length cp2)).setCell ⟨w.heap.size + 1, 1, none⟩ (.int .i64 limit)).setCell ⟨w.heap.size + 1, 2, none⟩ (.bool false)) :=
          ((((Moves.refl _ w2).setCell (p := ⟨w.heap.size, 0, none⟩) (fun _ => by show w.heap.size < _; omega) _).setCell (p := ⟨w.heap.size + 1, 0, none⟩) (fun _ => by show w.heap.size + 1 < _; omega) _).setCell (p := ⟨w.heap.size + 1, 1, none⟩) (fun _ => by show w.heap.size + 1 < _; omega) _).setCell (p := ⟨w.heap.size + 1, 2, none⟩) (fun _ => by show w.heap.size + 1 < _; omega) _
        exact (hm.bytes (BytesAt.of_owns HO2.out) (Nat.le_refl _) (fun _ k e hk => by
          have := (HO2.out.lt k e).1
          omega)).mono hm.size
      · exact (((((refPut_below hb2 HG1.out).grown HG2.out (by have := HG1.out.size; simp at this; omega) (fun k e => by have := (HO1.out.lt k e).1; omega)).setCell (p := ⟨w.heap.size, 0, none⟩) (Nat.le_refl _) _).setCell (p := ⟨w.heap.size + 1, 0, none⟩) (Nat.le_succ _) _).setCell (p := ⟨w.heap.size + 1, 1, none⟩) (Nat.le_succ _) _).setCell (p := ⟨w.heap.size + 1, 2, none⟩) (Nat.le_succ _) _
    · have hfin : wRow row limit false (some bs) = row ∧ wFull row limit false (some bs) = true := ⟨by simp [wRow]; omega, by simp [wFull]; omega⟩
      have HF := Lib.hid hfin
      have HV := Lib.hid hv0
      have hroom2 : limit < (row.length : Int) + bs.length := by omega
      clear hfin hv0 hu0 hroom
      go_enter Try.func22, Try.ntmps22
      go_wp2
      refine bodyPost_ret (v := .agg #[.slice av row.length cv, .int .i64 limit, .bool true]) (by simp [results, Try.results22, go_sem]) rfl ⟨_, by rw [HF.out.2], ?_, hb2 _ _, .inr ⟨rfl, HF.out.1⟩⟩
      rw [HF.out.1]
      exact (HV.out.below (hb2 _ _)).mono (by simp; omega)

end Go.Proofs.Ytghbnomlejnfjaa

/-
  bucket: slices.Index at entries; Elder.
  Conditions: none.
-/
import Derived.Test.YtnjpppeljpcndaaElder2
namespace Go.Proofs.Ytnjpppeljpcndaa
open Go.RowKit

def entEqI (h r a s h' r' a' s' : Int) : Bool := (h == h') && ((r == r') && ((a == a') && (s == s')))
theorem entEq_iff (x y : Ent) : entEqI (U x.hash) x.reg x.at_ x.size (U y.hash) y.reg y.at_ y.size = true ↔ x = y := by
  obtain ⟨a, b, c, d⟩ := x
  obtain ⟨a', b', c', d'⟩ := y
  unfold entEqI
  simp [U_inj]
set_option maxRecDepth 100000 in
theorem ent_eql (h r a s h' r' a' s' : Int) (V : World) : (binOp .eql 53 (.agg #[.int .u64 h, .int .i64 r, .int .i64 a, .int .i64 s]) (.agg #[.int .u64 h', .int .i64 r', .int .i64 a', .int .i64 s'])).run Try.prog V = .ok (.bool (entEqI h r a s h' r' a' s')) V := by
  have h3 : ∀ (n : Nat) (a b : Int) (W : World), (Op.equalIn (n + 1) 3 (.int .i64 a) (.int .i64 b)).run Try.prog W = .ok (a == b) W := fun n a b W => by
    rw [run_equalIn_int W n 3 .i64 _ a b Try.underlying3]
  have h2 : ∀ (n : Nat) (a b : Int) (W : World), (Op.equalIn (n + 1) 44 (.int .u64 a) (.int .u64 b)).run Try.prog W = .ok (a == b) W := fun n a b W => by
    rw [run_equalIn_int W n 44 .u64 _ a b Try.underlying44]
  have h4 : ∀ (n : Nat) (r a s r' a' s' : Int) (W : World), (Op.equalIn (n + 2) 48 (.agg #[.int .i64 r, .int .i64 a, .int .i64 s]) (.agg #[.int .i64 r', .int .i64 a', .int .i64 s'])).run Try.prog W = .ok ((r == r') && ((a == a') && (s == s'))) W := fun n r a s r' a' s' W => by
    rw [run_equalIn_struct _ _ _ _ _ (by kernel_rfl) (by kernel_rfl)]
    simp [Program.fieldsOf, Try.underlying48, Op.eqFields, part, h3]
    by_cases c1 : r = r' <;> by_cases c2 : a = a' <;> by_cases c3 : s = s' <;> simp [c1, c2, c3]
  have h5 : (Op.equalIn 10000 53 (.agg #[.int .u64 h, .int .i64 r, .int .i64 a, .int .i64 s]) (.agg #[.int .u64 h', .int .i64 r', .int .i64 a', .int .i64 s'])).run Try.prog V = .ok (entEqI h r a s h' r' a' s') V := by
    rw [show (10000 : Nat) = 9999 + 1 from rfl, run_equalIn_struct _ _ _ _ _ (by kernel_rfl) (by kernel_rfl)]
    have e2 := fun a b W => h2 9998 a b W
    have e4 := fun r a s r' a' s' W => h4 9997 r a s r' a' s' W
    simp [Program.fieldsOf, Try.underlying53, Op.eqFields, part, e2, e4]
    unfold entEqI
    by_cases c0 : h = h' <;> by_cases c1 : r = r' <;> by_cases c2 : a = a' <;> by_cases c3 : s = s' <;> simp [c0, c1, c2, c3]
  simp only [binOp]
  simp [Op.equal, Op.maxDepth, h5]
set_option maxRecDepth 100000 in
theorem ent_eguard (h r a s h' r' a' s' : Int) (x y : Operand) (V : World) : (eqGuard .eql 53 x y (.agg #[.int .u64 h, .int .i64 r, .int .i64 a, .int .i64 s]) (.agg #[.int .u64 h', .int .i64 r', .int .i64 a', .int .i64 s'])).run Try.prog V = .ok () V := run_eqGuard_agg _ _ _ _ _ _ _ (by kernel_rfl)
section
attribute [-go_sem] run_eql_struct run_eqGuard_agg
attribute [local go_sem] ent_eql ent_eguard
set_option maxRecDepth 100000 in
set_option maxHeartbeats 4000000 in
theorem index_any (a : Option Addr) (c : Nat) (es : List Ent) (v : Ent) (w : World) (hE : EntsAt w.heap.size w (.slice a es.length c) es) (hlen : es.length ≤ 1073741824) (n : Nat) (hn : n < es.length) (hv : es[n]?.getD default = v) (hno : ∀ j, j < n → es[j]?.getD default ≠ v) :
    Calls Try.prog 54 #[.slice a es.length c, .agg v.cells] w fun e w' => e = .returned (.int .i64 n) ∧ Below w.heap.size w w' := by
  have HE := Lib.hid hE
  have hl1 : (es.length : Int) ≤ 1073741824 := by omega
  have hn1 : (n : Int) < es.length := by omega
  have HC : Hid (v.cells = #[.int .u64 (U v.hash), .int .i64 v.reg, .int .i64 v.at_, .int .i64 v.size]) := rfl
  have hk : (w.alloc (.cells v.cells 53)).heap[w.heap.size]? = some (.cells v.cells 53 (0, 0)) := heap_alloc_new _ _
  have hb : Below w.heap.size w (w.alloc (.cells v.cells 53)) := (Below.refl _ w).alloc (Nat.le_refl _) _
  obtain ⟨w1, hw1⟩ : ∃ w1, w.alloc (.cells v.cells 53) = w1 := ⟨_, rfl⟩
  rw [hw1] at hk hb
  rw [HC.out] at hw1
  rw [HC.out]
  have HW1 := Lib.hid hw1
  have HB := Lib.hid hb
  have HV := Lib.hid hv
  have HNO := Lib.hid hno
  have b0 : w1.cell? ⟨w.heap.size, 0, none⟩ = some (.int .u64 (U v.hash)) := blk_cell hk 0
  have b1 : w1.cell? ⟨w.heap.size, 1, none⟩ = some (.int .i64 v.reg) := blk_cell hk 1
  have b2 : w1.cell? ⟨w.heap.size, 2, none⟩ = some (.int .i64 v.at_) := blk_cell hk 2
  have b3 : w1.cell? ⟨w.heap.size, 3, none⟩ = some (.int .i64 v.size) := blk_cell hk 3
  clear hw1 hb hk hE hv hno
  go_enter Try.func54, Try.ntmps54
  go_wp2
  rw [HW1.out]
  go_loopw [8] (fun i wr => ∃ k : Nat, k ≤ n ∧ i = .int .i64 k ∧ ∃ q, wr = w1.drewN q) (fun i _ => es.length - (intOf i).toNat)
  case atStart => exact ⟨0, Nat.zero_le _, rfl, 0, rfl⟩
  case round =>
    obtain ⟨k, hk, rfl, q, rfl⟩ := hrel
    obtain ⟨g, off, rfl, hg, e4⟩ := HE.out.get (show k < es.length by omega)
    have k1 : (k : Int) < es.length := by omega
    have d0 : w1.cell? ⟨g, off + k * 4, none⟩ = some (.int .u64 (U (es[k]?.getD default).hash)) := (HB.out.cell (p := ⟨g, _, none⟩) hg).trans e4.1
    have d1 : w1.cell? ⟨g, off + k * 4 + 1, none⟩ = some (.int .i64 (es[k]?.getD default).reg) := (HB.out.cell (p := ⟨g, _, none⟩) hg).trans e4.2.1
    have d2 : w1.cell? ⟨g, off + k * 4 + 2, none⟩ = some (.int .i64 (es[k]?.getD default).at_) := (HB.out.cell (p := ⟨g, _, none⟩) hg).trans e4.2.2.1
    have d3 : w1.cell? ⟨g, off + k * 4 + 3, none⟩ = some (.int .i64 (es[k]?.getD default).size) := (HB.out.cell (p := ⟨g, _, none⟩) hg).trans e4.2.2.2
    by_cases hlt : k < n
    · have hq : entEqI (U v.hash) v.reg v.at_ v.size (U (es[k]?.getD default).hash) (es[k]?.getD default).reg (es[k]?.getD default).at_ (es[k]?.getD default).size = false := by
        cases h : entEqI (U v.hash) v.reg v.at_ v.size (U (es[k]?.getD default).hash) (es[k]?.getD default).reg (es[k]?.getD default).at_ (es[k]?.getD default).size with
        | false => rfl
        | true => exact absurd ((entEq_iff _ _).1 h).symm (HNO.out k hlt)
      generalize es[k]?.getD default = x at d0 d1 d2 d3 hq
      clear e4
      go_wp2
      go_quiet (fail)
      go_wp2
      go_roundw
      case rel => exact ⟨k + 1, by omega, by go_num, _, rfl⟩
      case measure => simp [intOf]; omega
    · obtain rfl : k = n := by omega
      have hq : entEqI (U v.hash) v.reg v.at_ v.size (U (es[k]?.getD default).hash) (es[k]?.getD default).reg (es[k]?.getD default).at_ (es[k]?.getD default).size = true := (entEq_iff _ _).2 HV.out.symm
      generalize es[k]?.getD default = x at d0 d1 d2 d3 hq
      clear e4
      go_wp2
      go_quiet (fail)
      go_wp2
      go_ret
      exact ⟨rfl, below_drewN (below_drewN HB.out _) _⟩
end

theorem exists_least {P : Nat → Prop} (n : Nat) (h : P n) : ∃ m, m ≤ n ∧ P m ∧ ∀ j, j < m → ¬ P j := by
  induction n using Nat.strongRecOn with
  | ind n ih =>
    by_cases hx : ∃ j, j < n ∧ P j
    · obtain ⟨j, hj, pj⟩ := hx
      obtain ⟨m, hm, h1, h2⟩ := ih j hj pj
      exact ⟨m, by omega, h1, h2⟩
    · exact ⟨n, Nat.le_refl _, h, fun j hj pj => hx ⟨j, hj, pj⟩⟩
theorem minUp_mem (es : List Ent) : ∀ k, 1 ≤ k → k ≤ es.length → ∃ n, n < k ∧ es[n]?.getD default = minUp es k
  | 0, h, _ => absurd h (by omega)
  | 1, _, _ => ⟨0, by omega, (minUp_one es).symm⟩
  | k + 2, _, hk => by
    obtain ⟨n, hn, he⟩ := minUp_mem es (k + 1) (by omega) (by omega)
    rw [minUp_succ es (k + 1) (by omega) (by omega)]
    unfold minStep
    by_cases h : ageI (es[k + 1]?.getD default) (minUp es (k + 1)) < 0
    · rw [if_pos h]; exact ⟨k + 1, by omega, rfl⟩
    · rw [if_neg h]; exact ⟨n, by omega, he⟩
/-- Where the eldest entry stands. -/
def ElderIs (es : List Ent) (v : Int) : Prop := (es = [] ∧ v = -1) ∨ ∃ n : Nat, n < es.length ∧ es[n]?.getD default = minE es ∧ v = n ∧ ∀ j, j < n → es[j]?.getD default ≠ minE es
def ElderRet (es : List Ent) (w : World) (e : Ending) (w' : World) : Prop := ∃ v : Int, ElderIs es v ∧ e = .returned (.int .i64 v) ∧ Below w.heap.size w w'
set_option maxRecDepth 100000 in
set_option maxHeartbeats 4000000 in
theorem elder_any (d p : Int) (a : Option Addr) (m c : Nat) (es : List Ent) (w : World) (hE : EntsAt w.heap.size w (.slice a m c) es) (hlen : es.length ≤ 1073741824) :
    Calls Try.prog 29 #[.agg #[.int .i64 d, .int .i64 p, .slice a m c]] w (ElderRet es w) := by
  obtain ⟨_, _, e0, hc0⟩ := hE.slice
  cases e0
  have hk : (w.alloc (.cells #[.int .i64 d, .int .i64 p, .slice a es.length c] 31)).heap[w.heap.size]? = some (.cells #[.int .i64 d, .int .i64 p, .slice a es.length c] 31 (0, 0)) := heap_alloc_new _ _
  have hb : Below w.heap.size w (w.alloc (.cells #[.int .i64 d, .int .i64 p, .slice a es.length c] 31)) := (Below.refl _ w).alloc (Nat.le_refl _) _
  have hE1 := hE.next hb
  obtain ⟨w1, hw1⟩ : ∃ w1, w.alloc (.cells #[.int .i64 d, .int .i64 p, .slice a es.length c] 31) = w1 := ⟨_, rfl⟩
  rw [hw1] at hk hb hE1
  have HW1 := Lib.hid hw1
  have HB := Lib.hid hb
  have c2 : w1.cell? ⟨w.heap.size, 2, none⟩ = some (.slice a es.length c) := blk_cell hk 2
  by_cases he : es = []
  · subst he
    clear hw1 hk hb hE1 hE hlen hc0
    go_enter Try.func29, Try.ntmps29
    go_wp2
    go_ret
    refine ⟨-1, .inl ⟨rfl, rfl⟩, rfl, ?_⟩
    have h := HB.out
    rw [← HW1.out] at h
    exact h
  · have hpos : 1 ≤ es.length := List.length_pos_iff.2 he
    obtain ⟨n0, hn0, hm0⟩ := minUp_mem es es.length hpos (Nat.le_refl _)
    obtain ⟨n, hnn, hn, hno⟩ := exists_least (P := fun n => es[n]?.getD default = minE es) n0 hm0
    have hq : ((es.length : Int) == 0) = false := beq_eq_false_iff_ne.2 (by omega)
    have HMIN := Lib.hid (minFunc_any a c es w1 hE1 hlen hpos)
    have HN := Lib.hid (show n < es.length ∧ es[n]?.getD default = minE es ∧ ∀ j, j < n → es[j]?.getD default ≠ minE es from ⟨by omega, hn, hno⟩)
    have HIX := Lib.hid (fun W (h : Below w1.heap.size w1 W) => index_any a c es (minE es) W ((hE1.below h).mono h.size) hlen n (by omega) hn hno)
    have HCC : Hid (∀ W, Below w1.heap.size w1 W → W.cell? ⟨w.heap.size, 2, none⟩ = some (.slice a es.length c)) := fun W h => (h.cell (p := ⟨w.heap.size, 2, none⟩) (blk_lt hk)).trans c2
    obtain ⟨v, hv⟩ : ∃ v, minE es = v := ⟨_, rfl⟩
    rw [hv] at HMIN HIX HN
    have HV := Lib.hid hv
    clear hv
    unfold Ent.cells at HMIN HIX
    clear hw1 hk hb hE1 hE hlen hc0 he hpos hn0 hm0 hnn hn hno
    go_enter Try.func29, Try.ntmps29
    go_wp2_with (first
      | (go_at_call 52; rw [HW1.out]; (with_reducible refine HMIN.out.mono ?_); rintro e w2 ⟨rfl, hb2⟩; have hb3 := hb2.alloc hb2.size (.cells #[.int .u64 (U v.hash), .int .i64 v.reg, .int .i64 v.at_, .int .i64 v.size] 53); have c3 := HCC.out _ hb3; have HB3 := Lib.hid hb3; clear hb2 hb3)
      | (go_at_call 54; (with_reducible refine (HIX.out _ HB3.out).mono ?_); rintro e w4 ⟨rfl, hb4⟩; have HB4 := Lib.hid hb4; clear hb4))
    go_ret
    refine ⟨n, .inr ⟨n, HN.out.1, ?_, rfl, ?_⟩, rfl, HB.out.trans ((HB3.out.trans (HB4.out.mono HB3.out.size)).mono HB.out.size)⟩
    · rw [HV.out]; exact HN.out.2.1
    · rw [HV.out]; exact HN.out.2.2
end Go.Proofs.Ytnjpppeljpcndaa

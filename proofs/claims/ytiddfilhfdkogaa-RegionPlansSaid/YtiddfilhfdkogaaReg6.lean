/-
  region: the range over what of a location stands in each sector.
  Conditions: none.
-/
import Derived.Test.YtiddfilhfdkogaaReg5
import Derived.Test.YtiddfilhfdkogaaInvRange
namespace Go.Proofs.Ytiddfilhfdkogaa
open Go.RowKit Go.Shelf
attribute [local go_sem] Oper.semAt_some build_piece
attribute [-go_sem] Instr.build Instr.fill

/-- Where the next piece begins. -/
def nxP (room fin s : Nat) : Nat := min fin ((s / room + 1) * room)
/-- A piece. -/
def pcC (q : Int) (room fin s : Nat) : Array Value := #[.int .i64 q, .int .i64 s, .int .i64 ((nxP room fin s - s : Nat) : Int), .int .i64 ((s / room : Nat) : Int)]
def pcEnc (q : Int) (room fin s : Nat) : Array Value := #[.agg (pcC q room fin s)]
theorem nxP_gt {room fin s : Nat} (hr : 1 ≤ room) (h : s < fin) : s < nxP room fin s ∧ nxP room fin s ≤ fin := by
  unfold nxP
  have h1 : s / room * room + s % room = s := Nat.div_add_mod' s room
  have h2 : s % room < room := Nat.mod_lt _ hr
  rw [Nat.add_mul, Nat.one_mul]
  omega
@[local go_sem] theorem build_loc3 (q p n : Int) (W : World) : (Instr.build 42 #[(0, .int .i64 q), (1, .int .i64 p), (2, .int .i64 n)]).run Try.prog W = .ok (.agg #[.int .i64 q, .int .i64 p, .int .i64 n]) W := run_build W _ _ _ (by kernel_rfl)
set_option maxHeartbeats 400000 in
theorem piecesOf_in (F : Fence) (n : Nat) (h4 : F.fn 36) (hro : F.round = none) (R : Nat) (q p m : Int) (w : World) :
    CallsIn F n Try.prog 36 #[.pointer (some ⟨R, 0, none⟩), .agg #[.int .i64 q, .int .i64 p, .int .i64 m]] w fun e w' => e = .returned (.func (.func 53) #[] #[.pointer (some ⟨w.heap.size + 1, 0, none⟩), .pointer (some ⟨w.heap.size, 0, none⟩)]) ∧ (w.alloc (.cells #[.pointer (some ⟨R, 0, none⟩)] 23)).alloc (.cells #[.int .i64 q, .int .i64 p, .int .i64 m] 42) = w' := by
  refine callsIn_of_wp Try.func36 rfl h4 ?_ hro
  simp only [Try.ntmps36, List.size_toArray, List.length_cons, List.length_nil, Nat.reduceAdd, Nat.reduceSub, Array.replicate_succ, Array.replicate_zero, List.push_toArray, List.append_toArray, List.nil_append, List.cons_append]
  gi_wp2
  go_ret
  exact ⟨rfl, rfl⟩
set_option maxRecDepth 100000 in
set_option maxHeartbeats 2000000 in
theorem pieces1_in (F : Fence) (n : Nat) (h6 : F.fn 53) (hro : F.round = none) (hn : 1 ≤ n)
    (l X B R : Nat) (q : Int) (at0 sz room : Nat) (hr : 1 ≤ room ∧ room ≤ 493) (hz : at0 + sz ≤ 8077312) (J : Nat → World → Prop) (JS : World → Prop) (W0 : World)
    (hfacts : ∀ s W, J s W → W.cell? ⟨X, 0, none⟩ = some (.int .i64 q) ∧ W.cell? ⟨X, 1, none⟩ = some (.int .i64 at0) ∧ W.cell? ⟨X, 2, none⟩ = some (.int .i64 sz) ∧ W.cell? ⟨B, 0, none⟩ = some (.pointer (some ⟨R, 0, none⟩)) ∧ W.cell? ⟨R, 4, none⟩ = some (.int .i64 room))
    (hbel : ∀ s W W', J s W → Below W.heap.size W W' → J s W') (h0 : J at0 W0)
    (hY : ∀ s W, J s W → s < at0 + sz → YieldAt F (n - 1) Try.prog l (pcEnc q room (at0 + sz) s) W fun e W' => (e = .returned (.bool true) ∧ J (nxP room (at0 + sz) s) W') ∨ (e = .returned (.bool false) ∧ JS W')) :
    CallsIn F n Try.prog 53 #[.func (.yield l) #[] #[], .pointer (some ⟨X, 0, none⟩), .pointer (some ⟨B, 0, none⟩)] W0 fun e W' => (∃ v, e = .returned v) ∧ ((∃ s, ¬ s < at0 + sz ∧ J s W') ∨ JS W') := by
  obtain ⟨hr1, hr2⟩ := hr
  have HF := Lib.hid hfacts
  have HY := Lib.hid hY
  have HBEL := Lib.hid hbel
  obtain ⟨x0, x1, x2, xb, xr⟩ := hfacts _ _ h0
  have a1 : (at0 : Int) ≤ 8077312 := by omega
  have a2 : (sz : Int) ≤ 8077312 := by omega
  have HZ := Lib.hid hz
  have HR1 := Lib.hid hr1
  clear hfacts hY hbel hz
  refine callsIn_of_wp Try.func53 rfl h6 ?_ hro
  simp only [Try.ntmps53, List.size_toArray, List.length_cons, List.length_nil, Nat.reduceAdd, Nat.reduceSub, Array.replicate_succ, Array.replicate_zero, List.push_toArray, List.append_toArray, List.nil_append, List.cons_append]
  gi_wp2
  clear x0 x1 x2 xb xr
  gi_loopw [5] (fun v wr => ∃ s : Nat, v = .int .i64 s ∧ s ≤ 8077312 ∧ J s wr) (fun v _ => at0 + sz - (intOf v).toNat)
  case atStart => exact ⟨at0, rfl, by have := HZ.out; omega, h0⟩
  case round =>
    obtain ⟨s, rfl, hs, hJ⟩ := hrel
    obtain ⟨x0, x1, x2, xb, xr⟩ := HF.out _ _ hJ
    have s1 : (s : Int) ≤ 8077312 := by omega
    have r1 : (1 : Int) ≤ room := by omega
    by_cases hlt : s < at0 + sz
    · have s2 : (s : Int) < (at0 : Int) + sz := by omega
      obtain ⟨g1, g2⟩ := nxP_gt hr1 hlt
      have HJ := Lib.hid hJ
      have hdle : s / room ≤ s := Nat.div_le_self s room
      have hq : (s : Int) / (room : Int) = ((s / room : Nat) : Int) := by push_cast; rfl
      have hpm : (s / room + 1) * room ≤ s + room := by
        rw [Nat.add_mul, Nat.one_mul]
        have := Nat.div_mul_le_self s room
        omega
      have hm : wrap64 ((((s / room : Nat) : Int) + 1) * (room : Int)) = (((s / room + 1) * room : Nat) : Int) := by
        rw [show ((((s / room : Nat) : Int) + 1) * (room : Int)) = (((s / room + 1) * room : Nat) : Int) by push_cast; rfl]
        exact IntWalk.wrap64_in _ (by omega)
      have HYR := HY.out s wr hJ hlt
      have hnx : nxP room (at0 + sz) s = min (at0 + sz) ((s / room + 1) * room) := rfl
      have d1 : ((s / room : Nat) : Int) ≤ 8077312 := by omega
      unfold pcEnc pcC at HYR
      rw [show ((nxP room (at0 + sz) s - s : Nat) : Int) = ((nxP room (at0 + sz) s : Nat) : Int) - (s : Int) by omega] at HYR
      have HYR := Lib.hid HYR
      have HG := Lib.hid (And.intro g1 g2)
      obtain ⟨fn, tmps, assign, body, hy, hR⟩ := HYR.out
      by_cases hc : at0 + sz ≤ (s / room + 1) * room
      · have hn2 : nxP room (at0 + sz) s = at0 + sz := by rw [hnx]; omega
        have c1 : ((at0 : Int) + (sz : Int)) ≤ (((s / room + 1) * room : Nat) : Int) := by omega
        have hn3 : ((nxP room (at0 + sz) s : Nat) : Int) = (at0 : Int) + sz := by rw [hn2]; push_cast; rfl
        rw [hn3] at hy
        have HN3 := Lib.hid hn3
        generalize nxP room (at0 + sz) s = nx at *
        generalize (s / room + 1) * room = pm at *
        generalize s / room = sec at *
        clear hJ hdle hpm hnx hn2 hn3 hc g1 g2
        gi_wp2
        refine hR.mono ?_
        rintro e W3 (⟨rfl, hJ3⟩ | ⟨rfl, hJx3⟩)
        · have hJ4 := Lib.hid hJ3
          clear hJ3
          gi_wp2
          go_roundw
          case rel => exact ⟨nx, by rw [HN3.out]; try rfl, by have := HG.out; have := HZ.out; omega, hJ4.out⟩
          case measure => have h1 := HG.out; have h2 := HN3.out; simp [intOf]; omega
        · gi_wp2
          refine bodyPost_ret (results_none rfl _ _ _) rfl ?_
          exact ⟨⟨_, rfl⟩, .inr hJx3⟩
      · have hn2 : nxP room (at0 + sz) s = (s / room + 1) * room := by rw [hnx]; omega
        have c1 : (((s / room + 1) * room : Nat) : Int) < ((at0 : Int) + (sz : Int)) := by omega
        have hn3 : ((nxP room (at0 + sz) s : Nat) : Int) = (((s / room + 1) * room : Nat) : Int) := by rw [hn2]
        rw [hn3] at hy
        have HN3 := Lib.hid hn3
        generalize nxP room (at0 + sz) s = nx at *
        generalize (s / room + 1) * room = pm at *
        generalize s / room = sec at *
        clear hJ hdle hpm hnx hn2 hn3 hc g1 g2
        gi_wp2
        refine hR.mono ?_
        rintro e W3 (⟨rfl, hJ3⟩ | ⟨rfl, hJx3⟩)
        · have hJ4 := Lib.hid hJ3
          clear hJ3
          gi_wp2
          go_roundw
          case rel => exact ⟨nx, by rw [HN3.out]; try rfl, by have := HG.out; have := HZ.out; omega, hJ4.out⟩
          case measure => have h1 := HG.out; have h2 := HN3.out; simp [intOf]; omega
        · gi_wp2
          refine bodyPost_ret (results_none rfl _ _ _) rfl ?_
          exact ⟨⟨_, rfl⟩, .inr hJx3⟩
    · have HJ := Lib.hid hJ
      have s2 : ¬ (s : Int) < (at0 : Int) + sz := by omega
      have HLT := Lib.hid hlt
      clear hJ
      gi_wp2
      go_end0
      exact ⟨⟨_, rfl⟩, .inl ⟨s, by have := HLT.out; omega, HJ.out⟩⟩
end Go.Proofs.Ytiddfilhfdkogaa

/-
  sketch: the range over a number's places.
  Conditions: none.
-/
import Derived.Test.YtalgkiagdjckiaaSk1
namespace Go.Proofs.Ytalgkiagdjckiaa
open Go.RowKit Go.Shelf
attribute [local go_sem] Oper.semAt_some

/-- The number of a row. -/
def rowN (h : BitVec 64) (r : Nat) : BitVec 64 := BitVec.ofInt 64 (U h + IntKind.u64.wrap ((r : Int) * 11400714819323198485))
/-- A number's place in a row. -/
def plc (N : Nat) (h : BitVec 64) (r : Nat) : Nat := (scr (rowN h r)).toNat % N
theorem plc_lt {N : Nat} (hN : 0 < N) (h : BitVec 64) (r : Nat) : plc N h r < N := Nat.mod_lt _ hN

/-- The four rows. -/
def rows4 : List (Fin 4) := [0, 1, 2, 3]
theorem rows4_take (k : Nat) (h : k < 4) : rows4.take k ++ [⟨k, h⟩] = rows4.take (k + 1) := by
  match k, h with
  | 0, _ => rfl
  | 1, _ => rfl
  | 2, _ => rfl
  | 3, _ => rfl
theorem rows4_len (k : Nat) (h : k < 4) : (rows4.take k).length < 4 := by rw [List.length_take]; omega
theorem plc_mod (N : Nat) (h : BitVec 64) (r : Nat) : (U (scr (rowN h r))).tmod (N : Int) = ((plc N h r : Nat) : Int) := by
  unfold plc U
  rw [← Int.ofNat_tmod]

theorem width_cell {w : World} {G N c : Nat} {a : Addr} (c0 : w.cell? ⟨G, 0, none⟩ = some (.slice (some a) N c)) :
    Calls Try.prog 10 #[.pointer (some ⟨G, 0, none⟩)] w fun e w' => e = .returned (.int .i64 (N : Int)) ∧ w = w' := by
  go_enter Try.func10, Try.ntmps10
  go_wp2
  go_ret
  exact ⟨rfl, rfl⟩

set_option maxRecDepth 100000 in
set_option maxHeartbeats 1000000 in
theorem places1_in (n : Nat) (hn : 1 ≤ n) (l Bh Bs G N c : Nat) (a : Addr) (h : BitVec 64) (hN2 : 2 ≤ N ∧ N ≤ 4096) (S : Nat → Prop) (J Jx : List (Fin 4) → World → Prop)
    (hJd : ∀ pre W m, J pre W → J pre (W.drewN m))
    (hY : ∀ pre x W, J pre W → pre.length < 4 → YieldAt Fence.wide (n - 1) Try.prog l #[.int .i64 ((x.val : Nat) : Int), .int .i64 ((plc N h x.val : Nat) : Int)] W fun e W' =>
      (e = .returned (.bool true) ∧ J (pre ++ [x]) W' ∧ KeepsAt S W W') ∨ (e = .returned (.bool false) ∧ Jx (pre ++ [x]) W'))
    (hSh : S Bh) (hSs : S Bs) (hSG : S G)
    (W : World) (hBh : W.cell? ⟨Bh, 0, none⟩ = some (.int .u64 (U h))) (hBs : W.cell? ⟨Bs, 0, none⟩ = some (.pointer (some ⟨G, 0, none⟩))) (hG : W.cell? ⟨G, 0, none⟩ = some (.slice (some a) N c)) (h0 : J [] W) :
    CallsIn Fence.wide n Try.prog 35 #[.func (.yield l) #[] #[], .pointer (some ⟨Bh, 0, none⟩), .pointer (some ⟨Bs, 0, none⟩)] W fun e W' => (∃ v, e = .returned v) ∧
      ((∃ ys, ys = rows4 ∧ J ys W') ∨ (∃ pre, True ∧ Jx pre W')) := by
  have HY := Lib.hid hY
  have HJD := Lib.hid hJd
  clear hY hJd
  refine callsIn_of_wp Try.func35 rfl trivial ?_ rfl
  simp only [Try.ntmps35, List.size_toArray, List.length_cons, List.length_nil, Nat.reduceAdd, Nat.reduceSub, Array.replicate_succ, Array.replicate_zero, List.push_toArray, List.append_toArray, List.nil_append, List.cons_append]
  gi_wp2
  gi_loopw [6] (fun i wr => ∃ k : Nat, k ≤ 4 ∧ i = .int .i64 k ∧ J (rows4.take k) wr ∧ KeepsAt S W wr)
    (fun i _ => 4 - (intOf i).toNat)
  case atStart => exact ⟨0, Nat.zero_le _, rfl, h0, KeepsAt.refl _ _⟩
  case round =>
    obtain ⟨k, hk, rfl, hJs, hnx⟩ := hrel
    have d1 : wr.cell? ⟨Bh, 0, none⟩ = some (.int .u64 (U h)) := hnx.cell (p := ⟨Bh, 0, none⟩) hSh hBh
    have d2 : wr.cell? ⟨Bs, 0, none⟩ = some (.pointer (some ⟨G, 0, none⟩)) := hnx.cell (p := ⟨Bs, 0, none⟩) hSs hBs
    have d3 : wr.cell? ⟨G, 0, none⟩ = some (.slice (some a) N c) := hnx.cell (p := ⟨G, 0, none⟩) hSG hG
    by_cases hlt : k < 4
    · have k1 : (k : Int) < 4 := by omega
      have e0 : IntKind.u64.wrap (k : Int) = (k : Int) := by simp [IntKind.wrap, IntKind.bits, IntKind.signed]; omega
      have e1 : IntKind.u64.wrap (U h + IntKind.u64.wrap ((k : Int) * 11400714819323198485)) = U (rowN h k) := wrap_u64_mod _
      have HS := Lib.hid (fun V => scramble_any (rowN h k) V)
      have HWD := Lib.hid (fun m => width_cell (w := wr.drewN m) d3)
      have HN := Lib.hid (plc_mod N h k)
      have HP := Lib.hid (plc_lt (N := N) (by omega) h k)
      have HNX := Lib.hid hnx
      have HK := Lib.hid hk
      have HJ := Lib.hid hJs
      have n0 : ¬ ((N : Int) = 0) := by omega
      have n1 : IntKind.u64.wrap (N : Int) = (N : Int) := by simp [IntKind.wrap, IntKind.bits, IntKind.signed]; omega
      generalize U (rowN h k) = x at *
      clear hnx hk hJs h0
      gi_wp2
      refine wpIn_wide.2 ?_
      go_quiet ((first | (go_at_call 36; exact Calls.quiet_of_same ((HS.out _).mono fun _ _ h => ⟨h.1, h.2.symm⟩)) | (go_at_call 10; exact Calls.quiet_of_same ((HWD.out _).mono fun _ _ h => ⟨h.1, h.2.symm⟩))))
      rw [HN.out]
      have HD := Lib.hid (HJD.out _ _ nq HJ.out)
      have HB := Lib.hid (show KeepsAt S wr (wr.drewN nq) from fun _ _ _ _ _ e => e)
      clear d1 d2 d3 e0 e1 n0 n1 HS HWD HN HJ hBh hBs hG
      generalize scr (rowN h k) = y at *
      generalize wr.drewN nq = wz at *
      obtain ⟨fn, tmps, assign, body, hy, hR⟩ := HY.out (rows4.take k) ⟨k, hlt⟩ wz HD.out (rows4_len k hlt)
      have e9 : wrap64 ((plc N h k : Nat) : Int) = ((plc N h k : Nat) : Int) := IntWalk.wrap64_in _ ⟨by omega, by have := HP.out; omega⟩
      generalize ((plc N h k : Nat) : Int) = q at *
      clear HD
      rw [rows4_take k hlt] at hR
      simp only at hy
      gi_wp2
      refine hR.mono ?_
      rintro e W3 (⟨rfl, hJ3, hk3⟩ | ⟨rfl, hJx3⟩)
      · gi_wp2
        go_roundw
        case rel => exact ⟨k + 1, by omega, by simp, hJ3, (HNX.out.trans HB.out).trans hk3⟩
        case measure => simp [intOf]; omega
      · gi_wp2
        refine bodyPost_ret (results_none rfl _ _ _) rfl ?_
        exact ⟨⟨_, rfl⟩, .inr ⟨_, trivial, hJx3⟩⟩
    · obtain rfl : k = 4 := by omega
      gi_wp2
      go_end0
      exact ⟨⟨_, rfl⟩, .inl ⟨_, rfl, hJs⟩⟩
theorem abides_drewN {β : Type} {B : Nat} {J : β → World → Prop} (h : AbidesFrom B J) (s : β) (W : World) (m : Nat) (hs : J s W) : J s (W.drewN m) :=
  h s W _ none hs ⟨rfl, rfl, rfl, Nat.le_refl _, fun _ _ _ => rfl⟩ (fun _ e => by cases e)
theorem places_stops (Bh Bs G N c : Nat) (a : Addr) (h : BitVec 64) (hN2 : 2 ≤ N ∧ N ≤ 4096) (S : Nat → Prop) (w : World) (hSh : S Bh) (hSs : S Bs) (hSG : S G)
    (hBh : w.cell? ⟨Bh, 0, none⟩ = some (.int .u64 (U h))) (hBs : w.cell? ⟨Bs, 0, none⟩ = some (.pointer (some ⟨G, 0, none⟩))) (hG : w.cell? ⟨G, 0, none⟩ = some (.slice (some a) N c)) :
    SeqStopsK Fence.wide 2 Try.prog 35 #[.pointer (some ⟨Bh, 0, none⟩), .pointer (some ⟨Bs, 0, none⟩)] (fun x : Fin 4 => #[.int .i64 ((x.val : Nat) : Int), .int .i64 ((plc N h x.val : Nat) : Int)]) (KeepsAt S) (fun ys => ys = rows4) (fun _ => True) 4 w :=
  fun l J Jx W hW hJ _ hY h0 =>
    places1_in 2 (by decide) l Bh Bs G N c a h hN2 S J Jx (abides_drewN hJ) hY hSh hSs hSG W
      ((hW.cell (p := ⟨Bh, 0, none⟩) (World.block_lt_of_cell? _ _ hBh)).trans hBh) ((hW.cell (p := ⟨Bs, 0, none⟩) (World.block_lt_of_cell? _ _ hBs)).trans hBs) ((hW.cell (p := ⟨G, 0, none⟩) (World.block_lt_of_cell? _ _ hG)).trans hG) h0
theorem places_in (G : Nat) (h : BitVec 64) (w : World) :
    CallsIn Fence.wide 2 Try.prog 32 #[.pointer (some ⟨G, 0, none⟩), .int .u64 (U h)] w fun e w' => e = .returned (.func (.func 35) #[] #[.pointer (some ⟨w.heap.size + 1, 0, none⟩), .pointer (some ⟨w.heap.size, 0, none⟩)]) ∧ (w.alloc (.cells #[.pointer (some ⟨G, 0, none⟩)] 23)).alloc (.cells #[.int .u64 (U h)] 32) = w' := by
  refine callsIn_of_wp Try.func32 rfl trivial ?_ rfl
  simp only [Try.ntmps32, List.size_toArray, List.length_cons, List.length_nil, Nat.reduceAdd, Nat.reduceSub, Array.replicate_succ, Array.replicate_zero, List.push_toArray, List.append_toArray, List.nil_append, List.cons_append]
  gi_wp2
  go_ret
  exact ⟨rfl, rfl⟩
end Go.Proofs.Ytalgkiagdjckiaa

/-
  What mix.Slots answers: for 0 ≤ bits ≤ depth ≤ 20 and a prefix below 2^bits a row of the numbers that begin with it; else nothing. Nothing that was there is written.
  Conditions: none.
-/
import Derived.Test.YtapfagbegndgjaaRange
import Derived.Test.YtapfagbegndgjaaMix
namespace Go.Proofs.Ytapfagbegndgjaa
open Go.RowKit Go.Shelf
attribute [local go_sem] Oper.semAt_some

/-- The number behind a prefix. -/
def slotAt (p N k : Nat) : Int := (p : Int) * N + k

theorem or_slot (p f k : Nat) (hp : p * 2 ^ f + k < 2 ^ 62) (hk : k < 2 ^ f) : bits .or .i64 ((p : Int) * ((2 ^ f : Nat) : Int)) (k : Int) = slotAt p (2 ^ f) k := by
  have h := (bits_nat .i64 62 (by decide) (fun n h0 h1 => by rw [IntKind.wrap_i64]; omega) (p * 2 ^ f) k (by omega) (by omega)).2
  have e : p * 2 ^ f ||| k = p * 2 ^ f + k := by
    rw [Nat.mul_comm, Nat.two_pow_add_eq_or_of_lt hk]
  rw [e] at h
  unfold slotAt
  rw [← Int.natCast_mul, h]
  simp

set_option maxRecDepth 100000 in
set_option maxHeartbeats 400000 in
theorem behind1_in (F : Fence) (n : Nat) (h6 : F.fn 14) (hro : F.round = none) (hn : 1 ≤ n) (l Bf Bp : Nat) (S : Nat → Prop) (p f : Nat) (hf : f ≤ 20) (hp : p < 1048576) (J Jx : List Int → World → Prop)
    (hY : ∀ pre x W, J pre W → pre.length < 2 ^ f → YieldAt F (n - 1) Try.prog l #[.int .i64 x] W fun e W' =>
      (e = .returned (.bool true) ∧ J (pre ++ [x]) W' ∧ KeepsAt S W W') ∨ (e = .returned (.bool false) ∧ Jx (pre ++ [x]) W'))
    (hbf : S Bf) (hbp : S Bp)
    (W : World) (hBf : W.cell? ⟨Bf, 0, none⟩ = some (.int .i64 f)) (hBp : W.cell? ⟨Bp, 0, none⟩ = some (.int .i64 p)) (h0 : J [] W) :
    CallsIn F n Try.prog 14 #[.func (.yield l) #[] #[], .pointer (some ⟨Bf, 0, none⟩), .pointer (some ⟨Bp, 0, none⟩)] W fun e W' => (∃ v, e = .returned v) ∧
      ((∃ ys, ys = upto (slotAt p (2 ^ f)) (2 ^ f) ∧ J ys W') ∨ (∃ pre, (∃ k, k ≤ 2 ^ f ∧ pre = upto (slotAt p (2 ^ f)) k) ∧ Jx pre W')) := by
  have hpow : 2 ^ f ≤ 2 ^ 20 := Nat.pow_le_pow_right (by omega) hf
  have hN : (2 : Nat) ^ f ≤ 1048576 := by simpa using hpow
  have hmul : p * 2 ^ f ≤ 1048576 * 1048576 := Nat.mul_le_mul (by omega) hN
  have hor := or_slot p f
  obtain ⟨N, hNe⟩ : ∃ N : Nat, 2 ^ f = N := ⟨_, rfl⟩
  have hNe' : (2 : Int) ^ f = (N : Int) := by rw [← hNe]; simp
  rw [hNe] at hN hmul hY hor ⊢
  have e1 : wrap64 ((2 : Int) ^ f) = (N : Int) := by rw [hNe']; exact IntWalk.wrap64_in _ ⟨by omega, by omega⟩
  have e2 : wrap64 ((p : Int) * (2 : Int) ^ f) = (p : Int) * (N : Int) := by
    rw [hNe']
    have : (p : Int) * (N : Int) = ((p * N : Nat) : Int) := by simp
    rw [this]
    exact IntWalk.wrap64_in _ ⟨by omega, by omega⟩
  clear hNe hNe' hpow
  refine callsIn_of_wp Try.func14 rfl h6 ?_ hro
  simp only [Try.ntmps14, List.size_toArray, List.length_cons, List.length_nil, Nat.reduceAdd, Nat.reduceSub, Array.replicate_succ, Array.replicate_zero, List.push_toArray, List.append_toArray, List.nil_append, List.cons_append]
  gi_wp2
  rw [e1]
  gi_loopw [7] (fun i wr => ∃ k : Nat, k ≤ N ∧ i = .int .i64 k ∧ J (upto (slotAt p N) k) wr ∧ KeepsAt S W wr)
    (fun i _ => N - (intOf i).toNat)
  case atStart => exact ⟨0, Nat.zero_le _, rfl, h0, KeepsAt.refl _ _⟩
  case round =>
    obtain ⟨k, hk, rfl, hJs, hnx⟩ := hrel
    have hcf : wr.cell? ⟨Bf, 0, none⟩ = some (.int .i64 f) := hnx.cell (p := ⟨Bf, 0, none⟩) hbf hBf
    have hcp : wr.cell? ⟨Bp, 0, none⟩ = some (.int .i64 p) := hnx.cell (p := ⟨Bp, 0, none⟩) hbp hBp
    by_cases hlt : k < N
    · have e3 := hor k (by omega) hlt
      obtain ⟨fn, tmps, assign, body, hy, hR⟩ := hY _ (slotAt p N k) wr hJs (by rw [upto_length]; exact hlt)
      clear hor
      gi_wp2
      refine hR.mono ?_
      rintro e W3 (⟨rfl, hJ3, hk3⟩ | ⟨rfl, hJx3⟩)
      · gi_wp2
        go_roundw
        case rel => exact ⟨k + 1, by omega, by simp, by rw [upto_succ]; exact hJ3, hnx.trans hk3⟩
        case measure => simp [intOf]; omega
      · gi_wp2
        refine bodyPost_ret (results_none rfl _ _ _) rfl ?_
        exact ⟨⟨_, rfl⟩, .inr ⟨_, ⟨k + 1, by omega, (upto_succ _ _).symm⟩, hJx3⟩⟩
    · obtain rfl : k = N := by omega
      clear hor
      gi_wp2
      go_end0
      exact ⟨⟨_, rfl⟩, .inl ⟨_, rfl, hJs⟩⟩

set_option maxHeartbeats 400000 in
theorem behind_in (F : Fence) (n : Nat) (h4 : F.fn 13) (hro : F.round = none) (p f : Int) (w : World) :
    CallsIn F n Try.prog 13 #[.int .i64 p, .int .i64 f] w fun e w' => e = .returned (.func (.func 14) #[] #[.pointer (some ⟨w.heap.size + 1, 0, none⟩), .pointer (some ⟨w.heap.size, 0, none⟩)]) ∧ (w.alloc (.cells #[.int .i64 p] 3)).alloc (.cells #[.int .i64 f] 3) = w' := by
  refine callsIn_of_wp Try.func13 rfl h4 ?_ hro
  simp only [Try.ntmps13, List.size_toArray, List.length_cons, List.length_nil, Nat.reduceAdd, Nat.reduceSub, Array.replicate_succ, Array.replicate_zero, List.push_toArray, List.append_toArray, List.nil_append, List.cons_append]
  gi_wp2
  go_ret
  exact ⟨rfl, rfl⟩

theorem behind_stops (F : Fence) (n : Nat) (h6 : F.fn 14) (hro : F.round = none) (hn : 1 ≤ n) (Bf Bp : Nat) (S : Nat → Prop) (p f : Nat) (hf : f ≤ 20) (hp : p < 1048576) (w : World) (hbf : S Bf) (hbp : S Bp) (hbf' : Bf < w.heap.size) (hbp' : Bp < w.heap.size)
    (hcf : w.cell? ⟨Bf, 0, none⟩ = some (.int .i64 f)) (hcp : w.cell? ⟨Bp, 0, none⟩ = some (.int .i64 p)) :
    SeqStopsK F n Try.prog 14 #[.pointer (some ⟨Bf, 0, none⟩), .pointer (some ⟨Bp, 0, none⟩)] (fun x : Int => #[Value.int .i64 x]) (KeepsAt S) (fun ys => ys = upto (slotAt p (2 ^ f)) (2 ^ f)) (fun pre => ∃ k, k ≤ 2 ^ f ∧ pre = upto (slotAt p (2 ^ f)) k) (2 ^ f) w :=
  fun l J Jx W hW _ _ hY h0 =>
    behind1_in F n h6 hro hn l Bf Bp S p f hf hp J Jx hY hbf hbp W ((hW.cell (p := ⟨Bf, 0, none⟩) hbf').trans hcf) ((hW.cell (p := ⟨Bp, 0, none⟩) hbp').trans hcp) h0

theorem Try.infoInt : (Try.prog.info? 3).map (fun i => (i.zero, i.size, i.bytes)) = some (some (.int .i64 0), 1, 8) := by kernel_rfl

/-- The numbers of a prefix. -/
def slotRow (p f : Nat) : List Value := (upto (slotAt p (2 ^ f)) (2 ^ f)).map (Value.int .i64)

theorem wrap_pow (f : Nat) (hf : f ≤ 20) : wrap64 ((2 : Int) ^ f) = ((2 ^ f : Nat) : Int) ∧ 2 ^ f ≤ 1048576 := by
  have hpow : 2 ^ f ≤ 2 ^ 20 := Nat.pow_le_pow_right (by omega) hf
  have hN : (2 : Nat) ^ f ≤ 1048576 := by simpa using hpow
  refine ⟨?_, hN⟩
  have : (2 : Int) ^ f = ((2 ^ f : Nat) : Int) := by simp
  rw [this]
  generalize 2 ^ f = N at hN ⊢
  exact IntWalk.wrap64_in _ ⟨by omega, by omega⟩

set_option maxRecDepth 100000 in
set_option maxHeartbeats 2000000 in
theorem slots_in (F : Fence) (n : Nat) (h39 : F.fn 11) (h4 : F.fn 13) (h5 : F.fn 14) (hro : F.round = none) (hn : 3 ≤ n) (p b d f : Nat) (hbd : b + f = d) (hd : d ≤ 20) (hp : p < 2 ^ b) (w : World) :
    CallsIn F n Try.prog 11 #[.int .i64 p, .int .i64 b, .int .i64 d] w fun e W' => ∃ g, e = .returned (.slice (some ⟨g, 0, none⟩) ((2 ^ f : Nat) : Nat) (2 ^ f)) ∧ W'.ownsRow w.heap.size 3 1 (.slice (some ⟨g, 0, none⟩) (2 ^ f) (2 ^ f)) (2 ^ f) (slotRow p f) ∧ Below w.heap.size w W' := by
  have h1 : 1 ≤ n := by omega
  obtain ⟨i0, hi, hz0, hz1, hz2⟩ := info_parts Try.infoInt
  obtain ⟨eb, hb'⟩ := wrap_pow b (by omega)
  obtain ⟨ef, hf'⟩ := wrap_pow f (by omega)
  have hstops := fun Bf Bp S => behind_stops F (n - 1) h5 hro (by omega) Bf Bp S p f (by omega) (by omega)
  unfold slotRow
  obtain ⟨M, hM⟩ : ∃ M : Nat, 2 ^ b = M := ⟨_, rfl⟩
  obtain ⟨N, hN⟩ : ∃ N : Nat, 2 ^ f = N := ⟨_, rfl⟩
  rw [hM] at eb hp hb'
  rw [hN] at ef hf' hstops ⊢
  clear hM hN
  have e4 : (d : Int) - (b : Int) = (f : Int) := by omega
  have l1 : (b : Int) ≤ d := by omega
  have l2 : (d : Int) ≤ 20 := by omega
  have l3 : (p : Int) < M := by omega
  clear hbd
  refine callsIn_of_wp_marks Try.func11 rfl h39 ?_ hro
  simp only [Try.ntmps11, List.size_toArray, List.length_cons, List.length_nil, Nat.reduceAdd, Nat.reduceSub, Array.replicate_succ, Array.replicate_zero, List.push_toArray, List.append_toArray, List.nil_append, List.cons_append]
  gi_wp2_with (first | (gi_at_make; refine wpListIn_make_own _ rfl _ _ 31 rfl w.heap.size 3 i0 (.int .i64 0) 1 Try.underlying31 hi hz0 hz1 .i64 .i64 _ N rfl rfl ef (by rw [hz2]; omega) (by unfold maxLen; omega) (Nat.le_refl _) ?_; intro w1 hown1 hgrow1) | (gi_at_call 13; refine (behind_in F (n - 1) h4 hro _ _ _).mono ?_; rintro e w' ⟨rfl, rfl⟩))
  have hg0 := ownsRow_block hown1
  have bL := Boxed.new w1 31 (.slice (some ⟨w.heap.size, 0, none⟩) 0 N)
  have bP := Boxed.new (w1.alloc (.cells #[.slice (some ⟨w.heap.size, 0, none⟩) 0 N] 31)) 3 (.int .i64 p)
  have bF := Boxed.new ((w1.alloc (.cells #[.slice (some ⟨w.heap.size, 0, none⟩) 0 N] 31)).alloc (.cells #[.int .i64 p] 3)) 3 (.int .i64 f)
  simp only [World.size_alloc] at bP bF
  have hB1 : Below w.heap.size w w1 := (Below.refl _ w).grown hgrow1 (Nat.le_refl _) (by simp)
  have hB0 : Below w.heap.size w (((w1.alloc (.cells #[.slice (some ⟨w.heap.size, 0, none⟩) 0 N] 31)).alloc (.cells #[.int .i64 p] 3)).alloc (.cells #[.int .i64 f] 3)) :=
    ((hB1.alloc (by omega) _).alloc (by simp; omega) _).alloc (by simp; omega) _
  refine rangeFunc_open hro h1 (gf := 14) (lb := #[.pointer (some ⟨w1.heap.size + 1 + 1, 0, none⟩), .pointer (some ⟨w1.heap.size + 1, 0, none⟩)]) rfl h5 (enters_of Try.func14 (by kernel_rfl) rfl)
    (hstops (w1.heap.size + 1 + 1) (w1.heap.size + 1) (fun b => w1.heap.size < b) _ (by omega) (by omega) (by simp) (by simp) bF.cell (bP.alloc _).cell) keepsAt_t keepsAt_b (Below.refl _ _) (fun _ => rfl)
    (fun xs W => (Boxed W w1.heap.size 31 (.slice (some ⟨w.heap.size, 0, none⟩) xs.length N) ∧ W.ownsRow w.heap.size 3 1 (.slice (some ⟨w.heap.size, 0, none⟩) xs.length N) xs.length (xs.map (Value.int .i64))) ∧ Below w.heap.size w W)
    (fun _ _ _ => False)
    (OwnFrom.and (Own.from (holdsRowAt_own w.heap.size w1.heap.size w.heap.size 31 3 1 N (fun xs : List Int => xs.length) (fun xs => xs.map (Value.int .i64))) _) (ownFrom_below (Nat.le_refl _) (by simp; omega)))
    (fun _ _ _ _ _ hs _ _ => hs)
    ⟨⟨(bL.alloc _).alloc _, ((hown1.alloc _).alloc _).alloc _⟩, hB0⟩ ?round ?done ?stop
  case round =>
    apply Exists.intro
    apply And.intro
    · intro l x W K hK
      gi_wp2
      exact hK
    · rintro l xs x W ⟨⟨hv, hrow⟩, hB⟩ hlt
      have hc := hv.cell
      have hsz := ownsRow_block hrow
      have hvlt := hv.lt
      gi_wp2_with (gi_at_builtin; refine wpListIn_append_fits _ rfl _ _ 31 rfl w.heap.size 3 i0 1 Try.underlying31 hi hz1 w.heap.size xs.length N _ rfl (hrow.alloc _) ⟨W.heap.size, 0, none⟩ 1 1 [.int .i64 x] rfl rfl (cell_one_new _ _ _) (by simp [Value.oneCell']) (by omega) ?_; intro w2 hown2 hgrow2; obtain ⟨hv1, hv2, hr2, hk2, hb2, hs2⟩ := Boxed.fits (S := fun b => w1.heap.size < b) (v' := .slice (some ⟨w.heap.size, 0, none⟩) (xs.length + 1) N) hv hrow (by omega) (by omega) (by omega) (Nat.le_refl _) (by omega) (by omega) hown2 hgrow2; have hc1 := hv1.cell; have hf1 := hv1.frozen)
      exact ⟨hk2.from _, hs2, ⟨by simpa using hv2, by simpa using hr2⟩, hB.trans hb2⟩
  case done =>
    rintro D ys W hD rfl ⟨⟨hv, hrow⟩, hB⟩ hK
    have hc := hv.cell
    rw [upto_length] at hv hrow hc
    gi_wp2
    refine ⟨by simp, .inl ⟨_, _, rfl, run_takeDeferred hK, ?_⟩⟩
    exact ⟨_, results_tmp rfl _ _ _, w.heap.size, rfl, ownsRow_putObj hrow _ hK rfl, hB.trans (belowK_b (w := w) (Nat.le_refl _) W D _ _ (by simp at hD; omega) hK rfl rfl)⟩
  case stop =>
    rintro D c pre W _ _ h _
    exact h.elim

theorem slots_any (p b d f : Nat) (hbd : b + f = d) (hd : d ≤ 20) (hp : p < 2 ^ b) (w : World) :
    Calls Try.prog 11 #[.int .i64 p, .int .i64 b, .int .i64 d] w fun e W' => ∃ g, e = .returned (.slice (some ⟨g, 0, none⟩) (2 ^ f) (2 ^ f)) ∧ W'.ownsRow w.heap.size 3 1 (.slice (some ⟨g, 0, none⟩) (2 ^ f) (2 ^ f)) (2 ^ f) (slotRow p f) ∧ Below w.heap.size w W' :=
  callsIn_wide.1 (slots_in Fence.wide 3 trivial trivial trivial rfl (Nat.le_refl _) p b d f hbd hd hp w)

set_option maxHeartbeats 1000000 in
theorem slots_out (p b d : Int) (h : b < 0 ∨ d < b ∨ 20 < d ∨ p < 0 ∨ (0 ≤ b ∧ b ≤ 20 ∧ (2 : Int) ^ b.toNat ≤ p)) (w : World) :
    Calls Try.prog 11 #[.int .i64 p, .int .i64 b, .int .i64 d] w fun e w' => e = .returned (.slice none 0 0) ∧ w = w' := by
  by_cases c1 : b < 0
  · go_enter Try.func11, Try.ntmps11
    go_wp2
    go_ret
    exact ⟨rfl, rfl⟩
  by_cases c2 : d < b
  · go_enter Try.func11, Try.ntmps11
    go_wp2
    go_ret
    exact ⟨rfl, rfl⟩
  by_cases c3 : 20 < d
  · go_enter Try.func11, Try.ntmps11
    go_wp2
    go_ret
    exact ⟨rfl, rfl⟩
  by_cases c4 : p < 0
  · go_enter Try.func11, Try.ntmps11
    go_wp2
    go_ret
    exact ⟨rfl, rfl⟩
  obtain ⟨_, hb, hp⟩ : 0 ≤ b ∧ b ≤ 20 ∧ (2 : Int) ^ b.toNat ≤ p := by omega
  obtain ⟨c, rfl⟩ := Int.eq_ofNat_of_zero_le (a := b) (by omega)
  simp only [Int.toNat_natCast] at hp
  have e1 := (wrap_pow c (by omega)).1
  have hp' : ((2 ^ c : Nat) : Int) ≤ p := by simpa using hp
  generalize 2 ^ c = M at e1 hp'
  clear hp h
  go_enter Try.func11, Try.ntmps11
  go_wp2
  go_ret
  exact ⟨rfl, rfl⟩

/-- The verifier's call of it. -/
theorem lslots_any (p b d f : Nat) (hbd : b + f = d) (hd : d ≤ 20) (hp : p < 2 ^ b) (w : World) :
    Calls Try.prog 8 #[.int .i64 p, .int .i64 b, .int .i64 d] w fun e W' => ∃ g, e = .returned (.slice (some ⟨g, 0, none⟩) (2 ^ f) (2 ^ f)) ∧ W'.ownsRow w.heap.size 3 1 (.slice (some ⟨g, 0, none⟩) (2 ^ f) (2 ^ f)) (2 ^ f) (slotRow p f) ∧ Below w.heap.size w W' := by
  have hs := slots_any p b d f hbd hd hp w
  generalize 2 ^ f = N at hs ⊢
  clear hbd hd hp
  go_enter Try.func8, Try.ntmps8
  go_wp2_with (go_at_call 11; refine hs.mono ?_; rintro e w' ⟨g, rfl, hr, hB⟩)
  go_ret
  exact ⟨g, rfl, hr, hB⟩
theorem lslots_out (p b d : Int) (h : b < 0 ∨ d < b ∨ 20 < d ∨ p < 0 ∨ (0 ≤ b ∧ b ≤ 20 ∧ (2 : Int) ^ b.toNat ≤ p)) (w : World) :
    Calls Try.prog 8 #[.int .i64 p, .int .i64 b, .int .i64 d] w fun e w' => e = .returned (.slice none 0 0) ∧ w = w' := by
  have hs := slots_out p b d h w
  clear h
  go_enter Try.func8, Try.ntmps8
  go_wp2_with (go_at_call 11; refine hs.mono ?_; rintro e w' ⟨rfl, rfl⟩)
  go_ret
  exact ⟨rfl, rfl⟩

end Go.Proofs.Ytapfagbegndgjaa

/-
  clock.Clock[int]: sweep.
  Conditions: none.
-/
import Derived.Test.YtadhkciggiefbaaClock2
namespace Go.Proofs.Ytadhkciggiefbaa
open Go.RowKit

/-- The hand goes on to the first place that is not marked: so many places at most are looked at. -/
def swp : Nat → List Pl → Nat → List Pl × Nat
  | 0, ps, a => (ps, a)
  | f + 1, ps, a => if (ps[a]?.getD default).marked then swp f (ps.set a { (ps[a]?.getD default) with marked := false }) ((a + 1) % ps.length) else (ps, a)
/-- The clock behind a sweep, and the place whose thing goes. -/
def Ck.swept (s : Ck) : Ck := { s with ps := (swp (s.ps.length + 1) s.ps s.hand).1, hand := ((swp (s.ps.length + 1) s.ps s.hand).2 + 1) % s.ps.length }
def Ck.goes (s : Ck) : Nat := (swp (s.ps.length + 1) s.ps s.hand).2
/-- The hand's cell set. -/
theorem ClockAt.turn {n₀ : Nat} {w : World} {C g M : Nat} {s : Ck} (h : ClockAt n₀ w C g M s) {k : Nat} (hk : k < s.ps.length) :
    ClockAt n₀ (w.setCell ⟨C, 2, none⟩ (.int .i64 k)) C g M { s with hand := k } ∧ Moves (fun j => j = C ∨ j = g ∨ j = M) w (w.setCell ⟨C, 2, none⟩ (.int .i64 k)) := by
  have hn := h.ne
  refine ⟨⟨⟨h.ok.n1, h.ok.n2, hk, h.ok.uniq, h.ok.map, h.ok.nodup, h.ok.len⟩, ?_, ?_, ?_, h.lo, h.things⟩, (Moves.refl (fun k => k = C ∨ k = g ∨ k = M) w).setCell (p := ⟨C, 2, none⟩) (fun _ => .inl rfl) _⟩
  · rw [blk_set h.blk]; simp
  · rw [Below.heap_setCell _ _ _ _ hn.1]; exact h.row
  · exact h.map.same (Below.heap_setCell _ _ _ _ (fun e => hn.2.2 e.symm))
theorem mod_step (a n : Nat) (h : a < n) : (a + 1) % n < n := Nat.mod_lt _ (by omega)
set_option maxHeartbeats 2000000 in
theorem sweep_any {n₀ : Nat} {w : World} {C g M : Nat} {s : Ck} (h : ClockAt n₀ w C g M s) : Calls Try.prog 22 #[.pointer (some ⟨C, 0, none⟩)] w (ClockDid n₀ C g M s.swept (.int .i64 (s.goes : Nat)) w) := by
  obtain ⟨c0, c1, c2⟩ := h.cells
  have hn1 := h.ok.n1
  have hl : (s.ps.length : Int) ≤ 4096 := by have := h.ok.n2; omega
  have HO := Lib.hid h
  have HHD := Lib.hid h.ok.hand
  obtain ⟨n, hn⟩ : ∃ n, s.ps.length = n := ⟨_, rfl⟩
  have HN := Lib.hid hn
  clear h c0 c1 hn
  go_enter Try.func22, Try.ntmps22
  go_wp2
  go_step3
  go_wp2
  go_step3
  go_wp2
  go_loopg [3] (n + 1) (fun j av wr => ∃ (a : Nat) (ps : List Pl), av = .int .i64 a ∧ a < n ∧ ps.length = n ∧ j ≤ n + 1 ∧ swp j ps a = swp (n + 1) s.ps s.hand ∧ ((s.hand + (n + 1 - j)) % n = a) ∧ (∀ i, i < n + 1 - j → (ps[(s.hand + i) % n]?.getD default).marked = false) ∧ ClockAt n₀ wr C g M { s with ps := ps } ∧ Moves (fun k => k = C ∨ k = g ∨ k = M) w wr)
  case atStart => 
    have h1 := HN.out
    have h2 := HHD.out
    refine ⟨s.hand, s.ps, rfl, by omega, h1, Nat.le_refl _, rfl, ?_, fun i hi => absurd hi (by omega), HO.out, Moves.refl _ _⟩
    rw [Nat.sub_self, Nat.add_zero]; exact Nat.mod_eq_of_lt (by omega)
  case round =>
    obtain ⟨j, rfl⟩ : ∃ j, j = gk := ⟨gk, rfl⟩
    obtain ⟨a, ps, rfl, ha, hps, hj, hsw, hmod, hno, hC, hM⟩ := hrel
    obtain ⟨c0p, c1, c2'⟩ := hC.cells
    have c0 : wr.cell? ⟨C, 0, none⟩ = some (.slice (some ⟨g, 0, none⟩) n n) := by rw [← hps]; exact c0p
    clear c0p
    obtain ⟨p, hp⟩ : ∃ p, ps[a]? = some p := ⟨ps[a]'(by omega), List.getElem?_eq_getElem (by omega)⟩
    obtain ⟨d0, d1, d2, d3⟩ := hC.place hp
    have hpd : ps[a]?.getD default = p := by rw [hp]; rfl
    have fr := blk_frozen hC.row (a * 4 + 1)
    have ha1 : (a : Int) < n := by omega
    have hl2 : (n : Int) ≤ 4096 := by have := HN.out; omega
    cases hmk : p.marked with
    | true =>
      have hj1 : 1 ≤ j := by
        rcases Nat.eq_zero_or_pos j with h0 | h0
        · subst h0
          have := hno 1 (by omega)
          rw [show (s.hand + (n + 1 - 0)) % n = (s.hand + 1) % n by rw [show s.hand + (n + 1 - 0) = (s.hand + 1) + n by omega, Nat.add_mod_right]] at hmod
          rw [hmod, hpd, hmk] at this
          cases this
        · exact h0
      obtain ⟨f, rfl⟩ : ∃ f, j = f + 1 := ⟨j - 1, by omega⟩
      have hsw2 : swp f (ps.set a { p with marked := false }) ((a + 1) % n) = swp (n + 1) s.ps s.hand := by
        rw [← hsw]
        conv => rhs; unfold swp
        rw [hpd, if_pos hmk, hps]
      have hmod2 : (s.hand + (n + 1 - f)) % n = (a + 1) % n := by
        rw [← hmod, Nat.mod_add_mod]
        congr 1
        omega
      have hno2 : ∀ i, i < n + 1 - f → ((ps.set a { p with marked := false })[(s.hand + i) % n]?.getD default).marked = false := by
        intro i hi
        rw [List.getElem?_set]
        by_cases ha2 : a = (s.hand + i) % n
        · rw [if_pos ha2, if_pos (by omega)]; rfl
        · rw [if_neg ha2]
          refine hno i ?_
          rcases Nat.lt_or_ge i (n + 1 - (f + 1)) with h1 | h1
          · exact h1
          · exfalso
            apply ha2
            rw [← hmod]
            congr 1
            omega
      have HM := Lib.hid (hC.mark hp false)
      have HMV := Lib.hid hM
      have HNX : Hid (∀ W, ClockAt n₀ W C g M { s with ps := ps.set a { p with marked := false } } → Calls Try.prog 24 #[.pointer (some ⟨C, 0, none⟩), .int .i64 a] W fun e w' => e = .returned (.int .i64 (((a + 1) % n : Nat) : Int)) ∧ w' = W) := fun W hW => by
        have hl5 : ({ s with ps := ps.set a { p with marked := false } } : Ck).ps.length = n := by show (ps.set a _).length = n; rw [List.length_set]; exact hps
        have := next_any hW a (by rw [hl5]; exact ha)
        rwa [hl5] at this
      have HREL := Lib.hid (And.intro hsw2 (And.intro hmod2 hno2))
      have HLEN : Hid ((ps.set a { p with marked := false }).length = n) := by unfold Hid; rw [List.length_set]; exact hps
      rw [hmk] at d1
      clear hsw hsw2 hmod hmod2 hno hno2 hC hM hp hpd hmk d0 d2 d3 c1 hps
      go_wp2_with (go_at_call 24; (with_reducible refine (HNX.out _ HM.out.1).mono ?_); rintro e w1 ⟨rfl, hw1⟩; obtain rfl := hw1.symm)
      go_roundg f
      case measure => omega
      case rel =>
        obtain ⟨q1, q2, q3⟩ := HREL.out
        exact ⟨(a + 1) % n, ps.set a { p with marked := false }, rfl, mod_step _ _ ha, HLEN.out, by omega, q1, q2, q3, HM.out.1, HMV.out.trans HM.out.2 (fun _ _ h => h)⟩
    | false =>
      have hsw2 : swp j ps a = (ps, a) := by
        cases j with
        | zero => rfl
        | succ f => unfold swp; rw [hpd, if_neg (by rw [hmk]; decide)]
      rw [hsw2] at hsw
      have HSW : Hid (s.swept = { s with ps := ps, hand := (a + 1) % n }) := by unfold Hid Ck.swept; rw [HN.out, ← hsw]
      have HGO : Hid (s.goes = a) := by unfold Hid Ck.goes; rw [HN.out, ← hsw]
      have HNX : Hid (Calls Try.prog 24 #[.pointer (some ⟨C, 0, none⟩), .int .i64 a] wr fun e w' => e = .returned (.int .i64 (((a + 1) % n : Nat) : Int)) ∧ w' = wr) := by
        have hl5 : ({ s with ps := ps } : Ck).ps.length = n := hps
        have := next_any hC a (by rw [hl5]; exact ha)
        rwa [hl5] at this
      have HT := Lib.hid (hC.turn (k := (a + 1) % n) (by show (a + 1) % n < ps.length; rw [hps]; exact mod_step _ _ ha))
      have HMV := Lib.hid hM
      have fC := blk_frozen hC.blk 2
      have HPS := Lib.hid hps
      rw [hmk] at d1
      clear hsw hsw2 hmod hno hC hM hp hpd hmk d0 d2 d3 c1 hps
      go_wp2_with (go_at_call 24; (with_reducible refine HNX.out.mono ?_); rintro e w1 ⟨rfl, hw1⟩; obtain rfl := hw1.symm)
      (try rw [Exit.noGoto_ret])
      go_ret
      exact ⟨by rw [HGO.out]; rfl, by rw [HSW.out]; exact HT.out.1, HMV.out.trans HT.out.2 (fun _ _ h => h)⟩
end Go.Proofs.Ytadhkciggiefbaa

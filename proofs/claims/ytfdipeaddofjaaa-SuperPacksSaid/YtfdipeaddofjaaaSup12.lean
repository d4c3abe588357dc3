/-
  A head's bytes read back; a head that was saved is told.
  Conditions: none.
-/
import Derived.Test.YtfdipeaddofjaaaJS2
import Derived.Test.YtfdipeaddofjaaaPlanRound
namespace Go.Proofs.Ytfdipeaddofjaaa
open Go.RowKit

theorem HeadP.bytes_form (x : HeadP) : x.bytes = x.plan.bytes ++ (leI 4 x.page ++ (leI 8 x.stamp ++ (leI 1 x.depth ++ (leI 8 x.log ++ (leI 8 x.region ++ leI 8 x.time))))) := by
  simp only [HeadP.bytes, List.append_assoc, List.nil_append]
theorem numAt_of {bs : List (BitVec 8)} {j k : Nat} {i : Int} {r : List (BitVec 8)} (h : bs.drop j = leI k i ++ r) (hk : k ≤ 8) (h0 : 0 ≤ i) (h1 : i < ((256 ^ k : Nat) : Int)) (h2 : i < 9223372036854775808) : numAt bs j k = i ∧ bs.drop (j + k) = r := by
  have hl : (leI (k : Int) i).length = k := by rw [leI_len]; simp
  refine ⟨?_, by rw [← List.drop_drop, h, List.drop_left' hl]⟩
  unfold numAt numU
  rw [h, List.take_left' hl]
  exact num_back k i hk h0 h1 h2
theorem round_head (x : HeadP) (h : x.err = 0) (hw : x.Wf) : headGood x.gen x.bytes ∧ headOf x.gen x.bytes = x := by
  obtain ⟨_, hfit, hok⟩ := head_gen h
  obtain ⟨g1, p1, p2, s1, d1, d2, l1, r1, t1, t2⟩ := id hok
  have hA : x.plan.Alone := (alone_iff x.plan).1 (by
    unfold PlanP.fits at hfit
    rw [Bool.and_eq_true] at hfit
    exact hfit.1)
  have hdep := hA.depth
  have htk : x.bytes.take 26 = x.plan.bytes := by rw [x.bytes_form, List.take_left' (plan_len _)]
  have hpl : PlanP.ofBytes (x.bytes.take 26) = x.plan := by rw [htk, bytes_back _ hA]
  have h26 : x.bytes.drop 26 = leI 4 x.page ++ (leI 8 x.stamp ++ (leI 1 x.depth ++ (leI 8 x.log ++ (leI 8 x.region ++ leI 8 x.time)))) := by rw [x.bytes_form, List.drop_left' (plan_len _)]
  obtain ⟨n1, h30⟩ := numAt_of (k := 4) h26 (by decide) p1 (by omega) (by omega)
  obtain ⟨n2, h38⟩ := numAt_of (k := 8) h30 (by decide) s1 (by have := hw.stamp; omega) (by have := hw.stamp; omega)
  obtain ⟨n3, h39⟩ := numAt_of (k := 1) h38 (by decide) d1 (by omega) (by omega)
  obtain ⟨n4, h47⟩ := numAt_of (k := 8) h39 (by decide) (by omega) (by have := hw.log; omega) (by have := hw.log; omega)
  obtain ⟨n5, h55⟩ := numAt_of (k := 8) h47 (by decide) r1 (by have := hw.region; omega) (by have := hw.region; omega)
  have h55' : x.bytes.drop 55 = leI 8 x.time ++ [] := by rw [List.append_nil]; exact h55
  obtain ⟨n6, _⟩ := numAt_of (k := 8) h55' (by decide) t1 (by omega) (by omega)
  have hof : HeadP.of (PlanP.ofBytes (x.bytes.take 26)) x.gen x.bytes = x := by
    rw [hpl]
    show HeadP.mk x.plan x.gen (numAt x.bytes 26 4) (numAt x.bytes 30 8) (numAt x.bytes 38 1) (numAt x.bytes 39 8) (numAt x.bytes 47 8) (numAt x.bytes 55 8) = x
    have m2 : numAt x.bytes 30 8 = x.stamp := n2
    have m3 : numAt x.bytes 38 1 = x.depth := n3
    have m4 : numAt x.bytes 39 8 = x.log := n4
    have m5 : numAt x.bytes 47 8 = x.region := n5
    rw [n1, m2, m3, m4, m5, n6]
  have hg : headGood x.gen x.bytes := ⟨x.bytes_len, by rw [hpl]; exact hfit, by rw [hof]; exact hok⟩
  exact ⟨hg, by unfold headOf; rw [if_pos hg]; exact hof⟩
theorem cur_give (d : Dev) (k : Nat) (bs : List (BitVec 8)) (j : Nat) : ((d.give k bs).act).cur j = if j = k then bs else d.cur j := by
  unfold Dev.cur
  show (match (d.loose ++ [(k, bs)]).reverse.find? (fun x => decide (x.1 = j)) with | some x => x.2 | none => d.fast j) = _
  rw [List.reverse_append, List.reverse_singleton, List.singleton_append, List.find?_cons]
  by_cases h : j = k
  · subst h
    simp
  · have : decide (k = j) = false := by simpa using fun e : k = j => h e.symm
    simp only [this, if_neg h]
    rfl
/-- A device that is up, not armed, of two sectors at least. -/
structure Dev.Up (d : Dev) : Prop where
  down : d.down = false
  armed : d.armed = 0
  sectors : 2 ≤ d.sectors
  size : 96 ≤ d.size ∧ d.size ≤ 512
theorem saved_up {d : Dev} (hd : d.Up) {x : HeadP} (h : x.err = 0) (hof : x.plan.ofDev d = true) :
    saveErr d x = 0 ∧ (d.saved x).Up ∧ (d.saved x).sectors = d.sectors ∧ (d.saved x).size = d.size ∧ ∀ j, (d.saved x).cur j = if j = (x.gen % 2).toNat then x.sector d.size else d.cur j := by
  have hg := (head_gen h).1
  obtain ⟨h1, h2, h3, h4, h5⟩ := hd
  have hb := save_build h h4 h5
  have hl : (x.sector d.size).length = d.size := by
    unfold HeadP.sector buildB
    rw [if_pos hb]
    have := leafB_len (size := d.size) 1 (x.gen % 2) x.gen (load := x.bytes) (by rw [x.bytes_len]; omega)
    exact_mod_cast this
  have ha : askErr d.sectors d.down (x.gen % 2) = 0 := by simp [askErr, h1]; omega
  have e1 : d.saved x = (d.give (x.gen % 2).toNat (x.sector d.size)).act := by
    unfold Dev.saved Dev.write
    rw [if_pos ⟨h, hof⟩, if_pos ⟨ha, hl⟩]
  have e2 : saveErr d x = 0 := by
    unfold saveErr writeErr
    rw [if_pos h, if_pos hof, if_neg (by simpa using ha), if_neg (by simpa using hl), if_neg (by omega)]
  refine ⟨e2, ?_, ?_, ?_, ?_⟩
  · rw [e1]
    refine ⟨?_, ?_, h3, h4, h5⟩
    · show (if d.armed = 1 then true else d.down) = false
      rw [if_neg (by omega), h1]
    · show d.armed - 1 = 0
      omega
  · rw [e1]; rfl
  · rw [e1]; rfl
  · intro j
    rw [e1]
    exact cur_give d _ _ j
theorem in_of_cur {d : Dev} (hd : d.Up) {x : HeadP} (h : x.err = 0) (hw : x.Wf) (hof : x.plan.ofDev d = true) {i : Nat} (hi : x.gen % 2 = i) (hcur : d.cur i = x.sector d.size) : inErr d i = 0 ∧ inHead d i = x := by
  obtain ⟨h1, h2, h3, h4, h5⟩ := hd
  have hb := save_build h h4 h5
  have hs : d.cur i = leafB d.size 1 i x.gen x.bytes := by
    rw [hcur]
    unfold HeadP.sector buildB
    rw [if_pos hb, hi]
  rw [hi] at hb
  obtain ⟨r1, r2, _⟩ := read_built hb hw.gen
  have ha : askErr d.sectors d.down (i : Int) = 0 := by simp [askErr, h1]; omega
  have hG : inG d i = 0 := by
    unfold inG gotErr
    rw [if_pos ha, Int.toNat_natCast, hs, r1, r2, if_pos ⟨rfl, rfl, rfl⟩]
  have hL : inL d i = ⟨1, i, x.gen, x.bytes⟩ := by
    have hG' : gotErr d i 1 i = 0 := hG
    unfold inL gotL
    rw [if_pos hG', Int.toNat_natCast, hs, r2]
  obtain ⟨hg, ho⟩ := round_head x h hw
  have hgood : inGood d i := by
    refine ⟨hG, ?_, ?_, ?_⟩
    · rw [hL]; exact hg
    · rw [hL]; show (headOf x.gen x.bytes).plan.ofDev d = true; rw [ho]; exact hof
    · rw [hL]; show (headOf x.gen x.bytes).gen % 2 = i; rw [ho]; exact hi
  refine ⟨?_, ?_⟩
  · unfold inErr; rw [if_pos hG, if_pos hgood]
  · unfold inHead; rw [if_pos hgood, hL]; exact ho
end Go.Proofs.Ytfdipeaddofjaaa

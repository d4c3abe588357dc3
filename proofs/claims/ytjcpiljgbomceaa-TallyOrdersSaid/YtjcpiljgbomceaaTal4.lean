/-
  tally: what the chapter's example says; rows that are alike.
  Conditions: none.
-/
import Derived.Test.YtjcpiljgbomceaaTal3
namespace Go.Proofs.Ytjcpiljgbomceaa
open Go.RowKit

theorem Since_any {w : World} {p : Value} {es : List Int} (h : TalIs w p es) {vw : Value} {was : List Int} (hu : IntsAt w.heap.size w vw was) (hul : was.length ≤ 1073741824) (hwf : ∀ k, 0 ≤ wasK was k ∧ wasK was k ≤ 9223372036854775807) :
    Calls Try.prog 14 #[p, vw] w (RowDid (sinceL es was) w) := callsIn_wide.1 (Since_in h hu hul hwf)
theorem wasK_ok {was : List Int} (hw : ∀ x ∈ was, (Lit.int .i64 x).wf = true) (k : Nat) : 0 ≤ wasK was k ∧ wasK was k ≤ 9223372036854775807 := by
  unfold wasK
  by_cases hk : k < was.length
  · have := wf_i64 (hw _ (List.getElem_mem hk))
    rw [List.getElem?_eq_getElem hk]
    simp only [Option.getD_some]
    omega
  · rw [List.getElem?_eq_none (by omega)]; decide
theorem aw_new (w : World) : Calls Try.prog 7 #[.int .i64 1] w fun e w' => e = .returned (.pointer (some ⟨w.heap.size + 1, 0, none⟩)) ∧ TalAt w' (w.heap.size + 1) w.heap.size [0] ∧ Below w.heap.size w w' := new_any 1 (by decide) (by decide) w
theorem add_one {w : World} {T g : Nat} {c : Int} (h : TalAt w T g [c]) (n : Int) (hn : 0 ≤ n) (hn2 : n ≤ 9223372036854775807) {d : Int} (hd : addC c n = d) :
    Calls Try.prog 11 #[.pointer (some ⟨T, 0, none⟩), .int .i64 0, .int .i64 n] w (AddDid T g [d] w) := by
  have := add_any h (k := 0) (by simp) n hn hn2
  unfold addL at this
  simp only [List.set_cons_zero, List.getElem?_cons_zero, Option.getD_some, hd] at this
  exact this
theorem get_one {w : World} {T g : Nat} {c : Int} (h : TalAt w T g [c]) :
    Calls Try.prog 12 #[.pointer (some ⟨T, 0, none⟩), .int .i64 0] w fun e w' => e = .returned (.int .i64 c) ∧ Below w.heap.size w w' := get_any (.inr ⟨T, g, rfl, h⟩) 0
theorem aw_since {w : World} {T g : Nat} (h : TalAt w T g [5]) :
    Calls Try.prog 14 #[.pointer (some ⟨T, 0, none⟩), .slice (some ⟨w.heap.size, 0, none⟩) 1 1] (w.alloc (.cells #[.int .i64 4] 3)) (RowDid [1] (w.alloc (.cells #[.int .i64 4] 3))) := by
  have := Since_any (w := w.alloc (.cells #[.int .i64 4] 3)) (was := [4]) (.inr ⟨T, g, rfl, h.same ((Below.refl _ w).alloc (Nat.le_refl _) _)⟩) (IntsAt.of_blk (l := [4]) (heap_alloc_new w _)) (by decide)
    (wasK_ok (fun x hx => by
      have : x = 4 := by simpa using hx
      subst this; decide))
  exact this
set_option maxRecDepth 100000 in
set_option maxHeartbeats 2000000 in
theorem awake16 (w : World) : Calls Try.prog 9 #[] w fun e w' => e = .returned (.bool true) ∧ Below w.heap.size w w' := by
  go_enter Try.func9, Try.ntmps9
  go_wp2_with (first
    | (go_at_call 7; (with_reducible refine (aw_new _).mono ?_); rintro e w1 ⟨rfl, h1, hb1⟩; have H1 := Lib.hid (add_one h1 2 (by decide) (by decide) (d := 2) (by decide)); have HB1 := Lib.hid hb1; clear h1 hb1)
    | (go_at_call 11; (with_reducible refine H1.out.mono ?_); rintro e w2 ⟨rfl, h2, m2⟩; have H2 := Lib.hid (add_one h2 3 (by decide) (by decide) (d := 5) (by decide)); have M2 := Lib.hid m2; clear H1 h2 m2)
    | (go_at_call 11; (with_reducible refine H2.out.mono ?_); rintro e w3 ⟨rfl, h3, m3⟩; have H3 := Lib.hid h3; have HS := Lib.hid (aw_since h3); have M3 := Lib.hid m3; clear H2 h3 m3)
    | (go_at_call 14; (with_reducible refine HS.out.mono ?_); rintro e w4 ⟨v, rfl, hi, hf, hb4⟩; obtain ⟨a4, c4, rfl⟩ := hi.slice; obtain ⟨g4, o4, rfl, hg4, q4⟩ := hi.get (i := 0) (by decide); have B4 := Lib.hid ((Below.refl w3.heap.size w3).alloc (Nat.le_refl _) (.cells #[.int .i64 4] 3) |>.trans (hb4.mono (by simp))); have HG := Lib.hid (get_one (H3.out.same B4.out)); have q4' : w4.cell? ⟨g4, o4, none⟩ = some (.int .i64 1) := q4; have Q4 := Lib.hid q4'; have HG4 := Lib.hid hg4; clear HS hi hf hb4 q4 q4' hg4)
    | (go_at_call 12; (with_reducible refine HG.out.mono ?_); rintro e w5 ⟨rfl, hb5⟩; have cc := (hb5.cell (p := ⟨g4, o4, none⟩) HG4.out).trans Q4.out; have HB5 := Lib.hid hb5; clear hb5 HG))
  go_ret
  have e1 := HB1.out.size
  have m := (M2.out.trans M3.out (fun _ _ h => h)).below (B := w.heap.size) (fun i hi => by omega) e1
  have b2 := HB1.out.trans m
  have b3 := b2.trans (B4.out.mono b2.size)
  exact ⟨rfl, b3.trans (HB5.out.mono b3.size)⟩
theorem below_drewI {n : Nat} {a b : World} (h : Below n a b) (k : Nat) : Below n a (b.drewN k) := ⟨h.os, h.tape, h.output, h.size, h.block⟩
set_option maxHeartbeats 1000000 in
theorem same_yes {w : World} {u v : Value} {l : List Int} (hu : IntsAt w.heap.size w u l) (hv : IntsAt w.heap.size w v l) (hl : l.length ≤ 1024) :
    Calls Try.prog 13 #[u, v] w fun e w' => e = .returned (.bool true) ∧ Below w.heap.size w w' := by
  obtain ⟨a, c, rfl⟩ := hu.slice
  obtain ⟨b, d, rfl⟩ := hv.slice
  have l1 : (l.length : Int) ≤ 1024 := by omega
  have HU := Lib.hid hu
  have HV := Lib.hid hv
  clear hu hv
  go_enter Try.func13, Try.ntmps13
  go_wp2
  go_loopw [5] (fun i wr => ∃ k : Nat, k ≤ l.length ∧ i = .int .i64 k ∧ Below w.heap.size w wr) (fun i _ => l.length - (intOf i).toNat)
  case atStart => exact ⟨0, Nat.zero_le _, rfl, Below.refl _ _⟩
  case round =>
    obtain ⟨k, hk, rfl, hB⟩ := hrel
    by_cases hlt : k < l.length
    · obtain ⟨g1, o1, rfl, _, c1⟩ := (HU.out.below hB).get hlt
      obtain ⟨g2, o2, rfl, _, c2⟩ := (HV.out.below hB).get hlt
      have k1 : (k : Int) < l.length := by omega
      generalize (l[k]?.getD 0) = x at c1 c2
      have HB := Lib.hid hB
      clear hB
      go_wp2_with fail
      go_quiet (fail)
      go_wp2
      go_roundw
      case rel => exact ⟨k + 1, by omega, by go_num, below_drewI HB.out _⟩
      case measure => simp [intOf]; omega
    · obtain rfl : k = l.length := by omega
      go_wp2
      go_ret
      exact ⟨rfl, hB⟩
theorem all_nil (w : World) : Calls Try.prog 8 #[.pointer none] w (RowDid [] w) := All_any (.inl ⟨rfl, rfl⟩)
theorem since_nil (w : World) (n : Int) (hn : (Lit.int .i64 n).wf = true) :
    Calls Try.prog 14 #[.pointer none, .slice (some ⟨w.heap.size, 0, none⟩) 1 1] (w.alloc (.cells #[.int .i64 n] 3)) (RowDid [] (w.alloc (.cells #[.int .i64 n] 3))) :=
  Since_any (w := w.alloc (.cells #[.int .i64 n] 3)) (was := [n]) (.inl ⟨rfl, rfl⟩) (IntsAt.of_blk (l := [n]) (heap_alloc_new w _)) (by simp)
    (wasK_ok (fun x hx => by
      have : x = n := by simpa using hx
      subst this; exact hn))
end Go.Proofs.Ytjcpiljgbomceaa

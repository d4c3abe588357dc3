/-
  The document's own clock: places in memory; find, with.
  Conditions: none.
-/
import Derived.Test.YtadhkciggiefbaaClock6
import Derived.Test.YtadhkciggiefbaaMem
import Derived.Laws.OwnMore
import Derived.Maps.AppendAt
namespace Go.Proofs.Ytadhkciggiefbaa
open Go.RowKit

/-- A block of places that was there. -/
def InPls (n : Nat) (W : World) (g : Nat) : Prop := g < n ∧ ∃ cs cur, W.heap[g]? = some (.cells cs 39 cur)
theorem InPls.below {n : Nat} {w w' : World} {g : Nat} (h : InPls n w g) (hb : Below n w w') : InPls n w' g := by
  obtain ⟨h1, cs, cur, e⟩ := h
  exact ⟨h1, cs, cur, (hb.block g h1).trans e⟩
theorem InPls.to {n m : Nat} {w w' : World} {g : Nat} (h : InPls n w g) (hm : g < m) (e : w'.heap[g]? = w.heap[g]?) : InPls m w' g := by
  obtain ⟨_, cs, cur, h2⟩ := h
  exact ⟨hm, cs, cur, e.trans h2⟩
/-- A slice of places, in a block below n. -/
def PlsAt (n : Nat) (W : World) (v : Value) (ps : List Pl) : Prop :=
  ∃ a cap, v = .slice a ps.length cap ∧ ps.length ≤ cap ∧ (a = none → cap = 0) ∧ (ps = [] ∨ ∃ g off, a = some ⟨g, off, none⟩ ∧ InPls n W g ∧ ∀ j u, (plCells ps)[j]? = some u → W.cell? ⟨g, off + j, none⟩ = some u)
theorem PlsAt.below {n : Nat} {w w' : World} {v : Value} {ps : List Pl} (h : PlsAt n w v ps) (hb : Below n w w') : PlsAt n w' v ps := by
  obtain ⟨a, cap, rfl, hl, h0, h⟩ := h
  refine ⟨a, cap, rfl, hl, h0, h.imp id ?_⟩
  rintro ⟨g, off, rfl, hg, hc⟩
  exact ⟨g, off, rfl, hg.below hb, fun j u hj => (hb.cell (p := ⟨g, off + j, none⟩) hg.1).trans (hc j u hj)⟩
theorem PlsAt.mono {n m : Nat} {w : World} {v : Value} {ps : List Pl} (h : PlsAt n w v ps) (hm : n ≤ m) : PlsAt m w v ps := by
  obtain ⟨a, cap, rfl, hl, h0, h⟩ := h
  refine ⟨a, cap, rfl, hl, h0, h.imp id ?_⟩
  rintro ⟨g, off, rfl, hg, hc⟩
  exact ⟨g, off, rfl, hg.to (Nat.lt_of_lt_of_le hg.1 hm) rfl, hc⟩
theorem PlsAt.next {w w' : World} {v : Value} {ps : List Pl} (h : PlsAt w.heap.size w v ps) (hb : Below w.heap.size w w') : PlsAt w'.heap.size w' v ps := (h.below hb).mono hb.size
theorem PlsAt.slice {n : Nat} {w : World} {v : Value} {ps : List Pl} (h : PlsAt n w v ps) : ∃ a c, v = .slice a ps.length c := by
  obtain ⟨a, c, rfl, _⟩ := h; exact ⟨a, c, rfl⟩
theorem PlsAt.get {n : Nat} {w : World} {a : Option Addr} {k c : Nat} {ps : List Pl} (h : PlsAt n w (.slice a k c) ps) {i : Nat} {p : Pl} (hp : ps[i]? = some p) : ∃ g off, a = some ⟨g, off, none⟩ ∧ g < n ∧
    w.cell? ⟨g, off + i * 4, none⟩ = some (.bool p.full) ∧ w.cell? ⟨g, off + i * 4 + 1, none⟩ = some (.bool p.marked) ∧ w.cell? ⟨g, off + i * 4 + 2, none⟩ = some (.int .i64 p.key) ∧ w.cell? ⟨g, off + i * 4 + 3, none⟩ = some p.thing := by
  obtain ⟨a', c', e, hl, _, h⟩ := h
  cases e
  rcases h with h | ⟨g, off, rfl, hg, hc⟩
  · subst h; simp at hp
  · obtain ⟨q0, q1, q2, q3⟩ := plCells_get ps i p hp
    refine ⟨g, off, rfl, hg.1, hc _ _ q0, ?_, ?_, ?_⟩
    · rw [Nat.add_assoc]; exact hc _ _ q1
    · rw [Nat.add_assoc]; exact hc _ _ q2
    · rw [Nat.add_assoc]; exact hc _ _ q3
theorem PlsAt.of_owns {w : World} {base : Nat} {v : Value} {n : Nat} {ps : List Pl} (h : w.ownsRow base 39 4 v n (plCells ps)) (hn : n = ps.length) : PlsAt w.heap.size w v ps := by
  subst hn
  have h0 := h
  rcases h.2 with ⟨rfl, h1⟩ | ⟨g, cap, cur, rfl, _, hg, hn, _⟩
  · have : ps = [] := List.eq_nil_of_length_eq_zero h1
    subst this; exact ⟨none, 0, rfl, Nat.le_refl _, fun _ => rfl, .inl rfl⟩
  · refine ⟨_, cap, rfl, hn, fun h => (by cases h), .inr ⟨g, 0, rfl, ⟨(Array.getElem?_eq_some_iff.1 hg).1, _, _, hg⟩, fun j u hj => ?_⟩⟩
    have := h0.cells (g := g) rfl j u hj
    rwa [add_plain] at this
theorem PlsAt.news {n₀ : Nat} {w : World} {ad : Addr} {len cap : Nat} {ps : List Pl} (h : PlsAt n₀ w (.slice (some ad) len cap) ps) :
    len = ps.length ∧ ∀ j u, (plCells ps)[j]? = some u → w.cell? (ad.add j) = some u := by
  obtain ⟨a, cap', e, _, _, h⟩ := h
  simp only [Value.slice.injEq] at e
  obtain ⟨rfl, rfl, rfl⟩ := e
  refine ⟨rfl, fun j u hj => ?_⟩
  rcases h with rfl | ⟨g, off, hg, _, hc⟩
  · simp [plCells] at hj
  · cases hg
    rw [add_plain]
    exact hc j u hj
/-- Where find finds. -/
def findI (ps : List Pl) (key : Int) : Int := match ps.findIdx? (isAt key) with
  | some i => (i : Nat)
  | none => -1
theorem findI_some {ps : List Pl} {key : Int} {k : Nat} {p : Pl} (hall : ∀ (i : Nat) (p : Pl), i < k → ps[i]? = some p → isAt key p = false) (hp : ps[k]? = some p) (hx : isAt key p = true) : findI ps key = (k : Nat) := by
  unfold findI
  have hk := (List.getElem?_eq_some_iff.1 hp).1
  have e : ps.findIdx? (isAt key) = some k := by
    rw [List.findIdx?_eq_some_iff_getElem]
    refine ⟨hk, ?_, fun j hj => ?_⟩
    · rw [List.getElem?_eq_getElem hk] at hp; cases hp; exact hx
    · have := hall j _ hj (List.getElem?_eq_getElem (by omega))
      simp [this]
  rw [e]
theorem findI_none {ps : List Pl} {key : Int} (hall : ∀ (i : Nat) (p : Pl), i < ps.length → ps[i]? = some p → isAt key p = false) : findI ps key = -1 := by
  unfold findI
  have e : ps.findIdx? (isAt key) = none := by
    rw [List.findIdx?_eq_none_iff]
    intro p hp
    obtain ⟨i, hi⟩ := List.getElem?_of_mem hp
    exact hall i p (List.getElem?_eq_some_iff.1 hi).1 hi
  rw [e]
set_option maxHeartbeats 2000000 in
theorem find_any {w : World} {v : Value} {ps : List Pl} (h : PlsAt w.heap.size w v ps) (hl : ps.length ≤ 4096) (hand key : Int) :
    Calls Try.prog 19 #[.agg #[v, .int .i64 hand], .int .i64 key] w fun e w' => e = .returned (.int .i64 (findI ps key)) ∧ Below w.heap.size w w' := by
  obtain ⟨a, c, rfl⟩ := h.slice
  have l1 : (ps.length : Int) ≤ 4096 := by omega
  have HP := Lib.hid h
  clear h
  go_enter Try.func19, Try.ntmps19
  go_upto_region 1 with fail
  obtain ⟨w1, hw1⟩ : ∃ w1, w.alloc (.cells #[.slice a ps.length c, .int .i64 hand] 29) = w1 := ⟨_, rfl⟩
  have b0 : w1.heap[w.heap.size]? = some (.cells #[.slice a ps.length c, .int .i64 hand] 29 (0, 0)) := by rw [← hw1]; exact heap_alloc_new _ _
  have HB : Hid (Below w.heap.size w w1) := by rw [← hw1]; exact (Below.refl _ _).alloc (Nat.le_refl _) _
  rw [show w.alloc (.cells #[.slice a ps.length c, .int .i64 hand] 29) = w1 from hw1]
  clear hw1
  have c0 : w1.cell? ⟨w.heap.size, 0, none⟩ = some (.slice a ps.length c) := blk_cell b0 0
  clear b0
  go_wp2
  go_loopw [5] (fun i wr => ∃ k : Nat, k ≤ ps.length ∧ i = .int .i64 k ∧ (∀ (i : Nat) (p : Pl), i < k → ps[i]? = some p → isAt key p = false) ∧ w1 = wr) (fun i _ => ps.length - (intOf i).toNat)
  case atStart => exact ⟨0, Nat.zero_le _, rfl, fun i p hi => by omega, rfl⟩
  case round =>
    obtain ⟨k, hk, rfl, hall, rfl⟩ := hrel
    have HALL := Lib.hid hall
    clear hall
    by_cases hlt : k < ps.length
    · obtain ⟨p, hp⟩ : ∃ p, ps[k]? = some p := ⟨ps[k], List.getElem?_eq_getElem hlt⟩
      have k1 : (k : Int) < ps.length := by omega
      obtain ⟨g, off, rfl, hg, d0, d1, d2, d3⟩ := (HP.out.below HB.out).get hp
      have HPP := Lib.hid hp
      cases hf : p.full with
      | false =>
        have HI : Hid (isAt key p = false) := by unfold Hid isAt; rw [hf]; rfl
        rw [hf] at d0
        clear hp hf d1 d2 d3
        go_wp2
        go_roundw
        case rel => exact ⟨k + 1, by omega, by go_num, fun i p' hi hp' => by
          by_cases e : i = k
          · subst e
            have e2 := HPP.out
            rw [hp'] at e2; cases e2; exact HI.out
          · exact HALL.out i p' (by omega) hp', trivial⟩
        case measure => simp [intOf]; omega
      | true =>
        rw [hf] at d0
        by_cases hk2 : p.key = key
        · have HF : Hid (findI ps key = (k : Nat)) := findI_some HALL.out HPP.out (by unfold isAt; rw [hf]; simp [hk2])
          rw [hk2] at d2
          clear hp hf d1 d3 hk2
          go_wp2
          go_ret
          exact ⟨by rw [HF.out]; rfl, HB.out⟩
        · have HI : Hid (isAt key p = false) := by unfold Hid isAt; rw [hf]; simp [hk2]
          have e2 : (p.key == key) = false := beq_eq_false_iff_ne.2 hk2
          generalize p.key = pk at d2 e2
          clear hp hf d1 d3 hk2
          go_wp2
          go_roundw
          case rel => exact ⟨k + 1, by omega, by go_num, fun i p' hi hp' => by
            by_cases e : i = k
            · subst e
              have e2 := HPP.out
              rw [hp'] at e2; cases e2; exact HI.out
            · exact HALL.out i p' (by omega) hp', trivial⟩
          case measure => simp [intOf]; omega
    · obtain rfl : k = ps.length := by omega
      have HF := Lib.hid (findI_none HALL.out)
      go_wp2
      go_ret
      exact ⟨by rw [HF.out]; rfl, HB.out⟩
end Go.Proofs.Ytadhkciggiefbaa

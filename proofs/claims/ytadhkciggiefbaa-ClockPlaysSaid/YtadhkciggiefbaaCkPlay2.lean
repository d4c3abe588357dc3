/-
  The clock and the document's own clock: the same places, the same hand; Put.
  Conditions: none.
-/
import Derived.Test.YtadhkciggiefbaaCkRefA
import Derived.Test.YtadhkciggiefbaaCkPlay1
namespace Go.Proofs.Ytadhkciggiefbaa
open Go.RowKit

/-- Whether a put lets one go, and which one. -/
def goB (s : Ck) (key : Int) : Bool := (s.at key).isNone && (s.ps.findIdx? (fun p => !p.full)).isNone
def goP (s : Ck) : Pl := s.swept.ps[s.goes]?.getD default
def toldK (s : Ck) (key : Int) : Int := if goB s key = true then (goP s).key else 0
def toldT (s : Ck) (key : Int) : Int := if goB s key = true then getTI (goP s).thing else 0
theorem swept_things {s : Ck} (hth : ∀ p ∈ s.ps, ∃ t, p.thing = .int .i64 t) : ∀ p ∈ s.swept.ps, ∃ t, p.thing = .int .i64 t := by
  intro p hp
  obtain ⟨k, hk⟩ := List.getElem?_of_mem hp
  obtain ⟨q, hq, _, _, e⟩ := swp_get (s.ps.length + 1) s.ps s.hand k p hk
  rw [e]
  exact hth q (List.mem_of_getElem? hq)
theorem goP_get {s : Ck} (hok : s.Ok) : s.swept.ps[s.goes]? = some (goP s) := by
  have h1 : s.goes < s.swept.ps.length := by
    show (swp (s.ps.length + 1) s.ps s.hand).2 < (swp (s.ps.length + 1) s.ps s.hand).1.length
    rw [swp_len]
    exact swp_lt _ _ _ hok.hand
  unfold goP
  rw [List.getElem?_eq_getElem h1]; rfl
theorem told_int {s : Ck} (hok : s.Ok) (hth : ∀ p ∈ s.ps, ∃ t, p.thing = .int .i64 t) (key : Int) : s.told zeroI key = .tuple #[.int .i64 (toldK s key), .int .i64 (toldT s key), .bool (goB s key)] := by
  unfold Ck.told toldK toldT goB
  cases hat : s.at key with
  | some i => rfl
  | none =>
    cases hf : s.ps.findIdx? (fun p => !p.full) with
    | some i => rfl
    | none =>
      obtain ⟨t, ht⟩ := swept_things hth (goP s) (List.mem_of_getElem? (goP_get hok))
      have e : (s.swept.ps[s.goes]?.getD default) = goP s := rfl
      simp only [e, ht, getTI]
      rfl
theorem refPut_ck {w : World} {v : Value} {s : Ck} (h : PlsAt w.heap.size w v s.ps) (hok : s.Ok) (hth : ∀ p ∈ s.ps, ∃ t, p.thing = .int .i64 t) (key tt : Int) :
    ∃ f m, Calls Try.prog 13 #[.agg #[v, .int .i64 s.hand], .int .i64 key, .int .i64 tt] w (PutDid (s.put zeroI key (.int .i64 tt)).ps (s.put zeroI key (.int .i64 tt)).hand f m (toldK s key) (toldT s key) (goB s key) w) := by
  have hl := hok.n2
  cases hat : s.at key with
  | some i =>
    have e0 : goB s key = false := by unfold goB; rw [hat]; rfl
    have e1 : toldK s key = 0 := by unfold toldK; rw [e0]; rfl
    have e2 : toldT s key = 0 := by unfold toldT; rw [e0]; rfl
    have e3 : s.put zeroI key (.int .i64 tt) = s.setP i ⟨true, true, key, .int .i64 tt⟩ := by unfold Ck.put; rw [hat]
    rw [e0, e1, e2, e3]
    exact ⟨false, false, refPut_hit h hth hl s.hand key tt (at_lt hat) (findI_yes hat)⟩
  | none =>
    cases hf : s.ps.findIdx? (fun p => !p.full) with
    | some i =>
      have e0 : goB s key = false := by unfold goB; rw [hat, hf]; rfl
      have e1 : toldK s key = 0 := by unfold toldK; rw [e0]; rfl
      have e2 : toldT s key = 0 := by unfold toldT; rw [e0]; rfl
      have e3 : s.put zeroI key (.int .i64 tt) = s.fill i key (.int .i64 tt) := by unfold Ck.put; rw [hat]; simp only [hf]
      rw [e0, e1, e2, e3]
      exact ⟨false, false, refPut_free h hth hl s.hand key tt (findI_no hat) hf⟩
    | none =>
      have e0 : goB s key = true := by unfold goB; rw [hat, hf]; rfl
      have e1 : toldK s key = (goP s).key := by unfold toldK; rw [e0]; rfl
      obtain ⟨t, ht⟩ := swept_things hth (goP s) (List.mem_of_getElem? (goP_get hok))
      have e2 : toldT s key = t := by unfold toldT; rw [e0, ht]; rfl
      have e3 : s.put zeroI key (.int .i64 tt) = (s.swept.empty zeroI s.goes (goP s).key).fill s.goes key (.int .i64 tt) := by unfold Ck.put goP; rw [hat]; simp only [hf]
      have e4 : (s.put zeroI key (.int .i64 tt)).ps = s.swept.ps.set s.goes ⟨true, true, key, .int .i64 tt⟩ := by
        rw [e3]
        show (s.swept.ps.set s.goes (Pl.zero zeroI)).set s.goes _ = _
        rw [List.set_set]
      have e5 : (s.put zeroI key (.int .i64 tt)).hand = (s.goes + 1) % s.ps.length := by rw [e3]; rfl
      have hp := goP_get hok
      rw [e0, e1, e2, e4, e5]
      obtain ⟨f0, m0, k0, t0, hgp⟩ : ∃ f0 m0 k0 t0, goP s = ⟨f0, m0, k0, t0⟩ := ⟨_, _, _, _, rfl⟩
      rw [hgp] at hp ht ⊢
      obtain rfl : t0 = .int .i64 t := ht
      exact ⟨f0, m0, refPut_full h hth hl s.hand hok.hand key tt (findI_no hat) hf rfl hp⟩
end Go.Proofs.Ytadhkciggiefbaa

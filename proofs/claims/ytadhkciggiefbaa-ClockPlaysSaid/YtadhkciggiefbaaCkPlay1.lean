/-
  The clock and the document's own clock: the same places, the same hand; Get, Drop.
  Conditions: none.
-/
import Derived.Test.YtadhkciggiefbaaCkRef8
namespace Go.Proofs.Ytadhkciggiefbaa
open Go.RowKit

theorem findI_no {s : Ck} {key : Int} (h : s.at key = none) : findI s.ps key = -1 := by
  unfold Ck.at at h
  unfold findI
  rw [h]
theorem findI_yes {s : Ck} {key : Int} {i : Nat} (h : s.at key = some i) : findI s.ps key = (i : Nat) := by
  unfold Ck.at at h
  unfold findI
  rw [h]
/-- What a look tells, as numbers. -/
def lookI (s : Ck) (key : Int) : Int := match s.at key with
  | some i => getTI (s.ps[i]?.getD default).thing
  | none => 0
def lookB (s : Ck) (key : Int) : Bool := (s.at key).isSome
theorem lookRes_int {s : Ck} (hth : ∀ p ∈ s.ps, ∃ t, p.thing = .int .i64 t) (key : Int) : lookRes zeroI s key = .tuple #[.int .i64 (lookI s key), .bool (lookB s key)] := by
  unfold lookRes lookI lookB
  cases hat : s.at key with
  | none => rfl
  | some i =>
    obtain ⟨p, hp, _⟩ := at_some hat
    obtain ⟨t, ht⟩ := hth p (List.mem_of_getElem? hp)
    simp [hp, ht, getTI]
theorem set_self {ps : List Pl} {i : Nat} {p : Pl} (hp : ps[i]? = some p) : ps.set i p = ps := by
  obtain ⟨h, e⟩ := List.getElem?_eq_some_iff.1 hp
  rw [← e, List.set_getElem_self]
theorem refGet_ck {w : World} {v : Value} {s : Ck} (h : PlsAt w.heap.size w v s.ps) (hth : ∀ p ∈ s.ps, ∃ t, p.thing = .int .i64 t) (hl : s.ps.length ≤ 4096) (key : Int) (mark : Bool) :
    Calls Try.prog 8 #[.agg #[v, .int .i64 s.hand], .int .i64 key, .bool mark] w (RefDid (if mark = true then (s.got key).ps else s.ps) s.hand (.int .i64 (lookI s key)) (.bool (lookB s key)) w) := by
  cases hat : s.at key with
  | none =>
    have e1 : lookI s key = 0 := by unfold lookI; rw [hat]
    have e2 : lookB s key = false := by unfold lookB; rw [hat]; rfl
    have e3 : (if mark = true then (s.got key).ps else s.ps) = s.ps := by
      unfold Ck.got; rw [hat]; cases mark <;> rfl
    rw [e1, e2, e3]
    exact refGet_none h hl s.hand key mark (findI_no hat)
  | some i =>
    obtain ⟨p, hp, _⟩ := at_some hat
    obtain ⟨ff, pm, kk, th⟩ := p
    obtain ⟨t, ht⟩ := hth _ (List.mem_of_getElem? hp)
    obtain rfl : th = .int .i64 t := ht
    have e1 : lookI s key = t := by unfold lookI; rw [hat]; simp [hp, getTI]
    have e2 : lookB s key = true := by unfold lookB; rw [hat]; rfl
    have e4 : (s.got key).ps = s.ps.set i ⟨ff, true, kk, .int .i64 t⟩ := by
      unfold Ck.got; rw [hat]; simp [Ck.setP, hp]
    rw [e1, e2, e4]
    cases pm with
    | true =>
      have e3 : (if mark = true then s.ps.set i ⟨ff, true, kk, .int .i64 t⟩ else s.ps) = s.ps.set i ⟨ff, true, kk, .int .i64 t⟩ := by
        cases mark with
        | true => rfl
        | false => exact (set_self hp).symm
      rw [e3]
      exact refGet_someT h hth hl s.hand key mark hp (findI_yes hat)
    | false =>
      have e3 : (if mark = true then s.ps.set i ⟨ff, true, kk, .int .i64 t⟩ else s.ps) = s.ps.set i ⟨ff, mark, kk, .int .i64 t⟩ := by
        cases mark with
        | true => rfl
        | false => exact (set_self hp).symm
      rw [e3]
      exact refGet_someF h hth hl s.hand key mark hp (findI_yes hat)
theorem refDrop_ck {w : World} {v : Value} {s : Ck} (h : PlsAt w.heap.size w v s.ps) (hth : ∀ p ∈ s.ps, ∃ t, p.thing = .int .i64 t) (hl : s.ps.length ≤ 4096) (key : Int) :
    Calls Try.prog 11 #[.agg #[v, .int .i64 s.hand], .int .i64 key] w (RefDid (s.dropped zeroI key).ps s.hand (.int .i64 (lookI s key)) (.bool (lookB s key)) w) := by
  cases hat : s.at key with
  | none =>
    have e1 : lookI s key = 0 := by unfold lookI; rw [hat]
    have e2 : lookB s key = false := by unfold lookB; rw [hat]; rfl
    have e3 : (s.dropped zeroI key).ps = s.ps := by unfold Ck.dropped; rw [hat]
    rw [e1, e2, e3]
    exact refDrop_none h hl s.hand key (findI_no hat)
  | some i =>
    obtain ⟨p, hp, _⟩ := at_some hat
    obtain ⟨t, ht⟩ := hth _ (List.mem_of_getElem? hp)
    have e1 : (Value.int .i64 (lookI s key)) = p.thing := by unfold lookI; rw [hat]; simp [hp, ht, getTI]
    have e2 : lookB s key = true := by unfold lookB; rw [hat]; rfl
    have e3 : (s.dropped zeroI key).ps = s.ps.set i (Pl.zero zeroI) := by unfold Ck.dropped; rw [hat]; rfl
    rw [e1, e2, e3]
    exact refDrop_some h hth hl s.hand key hp (findI_yes hat)
/-- How many there are. -/
theorem keysF_count (ps : List Pl) : (keysF ps).length = ps.countP (·.full) := by
  unfold keysF
  rw [List.length_map, List.countP_eq_length_filter]
end Go.Proofs.Ytadhkciggiefbaa

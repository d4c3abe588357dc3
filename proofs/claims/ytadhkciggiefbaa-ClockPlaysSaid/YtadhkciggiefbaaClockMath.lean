/-
  Plain mathematics of a clock: places in a ring, a hand, and where each number stands.
  Conditions: none.
-/
import Derived.Test.YtadhkciggiefbaaIntMap
namespace Go.Proofs.Ytadhkciggiefbaa
open Go.RowKit

theorem mset_len_new {m : List (Int × Value)} {k : Int} {v : Value} (h : mget m k = none) : (mset m k v).length = m.length + 1 := by
  induction m with
  | nil => rfl
  | cons p m ih =>
    unfold mget at h
    by_cases hp : p.1 = k
    · rw [if_pos hp] at h; cases h
    · rw [if_neg hp] at h
      unfold mset
      rw [if_neg hp, List.length_cons, ih h, List.length_cons]
theorem mset_len_old {m : List (Int × Value)} {k : Int} {v x : Value} (h : mget m k = some x) : (mset m k v).length = m.length := by
  induction m with
  | nil => cases h
  | cons p m ih =>
    unfold mget at h
    unfold mset
    by_cases hp : p.1 = k
    · rw [if_pos hp]; rfl
    · rw [if_neg hp] at h
      rw [if_neg hp, List.length_cons, ih h, List.length_cons]
theorem mdel_len {m : List (Int × Value)} {k : Int} {x : Value} (h : mget m k = some x) : (mdel m k).length + 1 = m.length := by
  induction m with
  | nil => cases h
  | cons p m ih =>
    unfold mget at h
    unfold mdel
    by_cases hp : p.1 = k
    · rw [if_pos hp]; rfl
    · rw [if_neg hp] at h
      rw [if_neg hp, List.length_cons, List.length_cons, ih h]

/-- A place. -/
structure Pl where
  full : Bool
  marked : Bool
  key : Int
  thing : Value
def Pl.zero (z : Value) : Pl := ⟨false, false, 0, z⟩
instance : Inhabited Pl := ⟨Pl.zero default⟩
/-- A clock: its places, the hand, the map of where each number stands. -/
structure Ck where
  ps : List Pl
  hand : Nat
  m : List (Int × Value)
def isAt (key : Int) (p : Pl) : Bool := p.full && decide (p.key = key)
/-- Where a number stands. -/
def Ck.at (s : Ck) (key : Int) : Option Nat := s.ps.findIdx? (isAt key)
structure Ck.Ok (s : Ck) : Prop where
  n1 : 1 ≤ s.ps.length
  n2 : s.ps.length ≤ 4096
  hand : s.hand < s.ps.length
  uniq : ∀ (i j : Nat) (p q : Pl), s.ps[i]? = some p → s.ps[j]? = some q → p.full = true → q.full = true → p.key = q.key → i = j
  map : ∀ key, mget s.m key = (s.at key).map fun i => Value.int .i64 (i : Nat)
  nodup : (s.m.map (·.1)).Nodup
  len : s.m.length = s.ps.countP (·.full)

theorem at_some {s : Ck} {key : Int} {i : Nat} (h : s.at key = some i) : ∃ p, s.ps[i]? = some p ∧ p.full = true ∧ p.key = key := by
  unfold Ck.at at h
  obtain ⟨hlt, hp, _⟩ := List.findIdx?_eq_some_iff_getElem.1 h
  unfold isAt at hp
  rw [Bool.and_eq_true, decide_eq_true_eq] at hp
  exact ⟨s.ps[i], List.getElem?_eq_getElem hlt, hp.1, hp.2⟩
theorem at_none {s : Ck} {key : Int} (h : s.at key = none) : ∀ (i : Nat) (p : Pl), s.ps[i]? = some p → p.full = true → p.key ≠ key := by
  intro i p hp hf hk
  unfold Ck.at at h
  rw [List.findIdx?_eq_none_iff] at h
  have := h p (List.mem_of_getElem? hp)
  unfold isAt at this
  simp [hf, hk] at this
theorem at_is {s : Ck} (hu : ∀ (i j : Nat) (p q : Pl), s.ps[i]? = some p → s.ps[j]? = some q → p.full = true → q.full = true → p.key = q.key → i = j) {key : Int} {i : Nat} {p : Pl} (hp : s.ps[i]? = some p) (hf : p.full = true) (hk : p.key = key) : s.at key = some i := by
  cases h : s.at key with
  | none => exact absurd hk (at_none h i p hp hf)
  | some j =>
    obtain ⟨q, hq, hqf, hqk⟩ := at_some h
    rw [hu i j p q hp hq hf hqf (hk.trans hqk.symm)]
theorem at_not {s : Ck} {key : Int} (h : ∀ (i : Nat) (p : Pl), s.ps[i]? = some p → p.full = true → p.key ≠ key) : s.at key = none := by
  cases e : s.at key with
  | none => rfl
  | some i =>
    obtain ⟨p, hp, hf, hk⟩ := at_some e
    exact absurd hk (h i p hp hf)
theorem at_lt {s : Ck} {key : Int} {i : Nat} (h : s.at key = some i) : i < s.ps.length := by
  obtain ⟨p, hp, _⟩ := at_some h
  exact (List.getElem?_eq_some_iff.1 hp).1

/-- Another place stands at i. -/
def Ck.setP (s : Ck) (i : Nat) (p : Pl) : Ck := { s with ps := s.ps.set i p }
theorem setP_get {s : Ck} {i j : Nat} {p : Pl} (hi : i < s.ps.length) : (s.setP i p).ps[j]? = if i = j then some p else s.ps[j]? := by
  unfold Ck.setP
  rw [List.getElem?_set]
  by_cases h : i = j
  · rw [if_pos h, if_pos h, if_pos (by omega)]
  · rw [if_neg h, if_neg h]
theorem countP_set {l : List Pl} {f : Pl → Bool} {i : Nat} {p q : Pl} (hp : l[i]? = some p) : (l.set i q).countP f + (if f p then 1 else 0) = l.countP f + (if f q then 1 else 0) := by
  induction l generalizing i with
  | nil => simp at hp
  | cons a l ih =>
    cases i with
    | zero =>
      have e : a = p := by simpa using hp
      subst e
      simp only [List.set_cons_zero, List.countP_cons]
      omega
    | succ i =>
      have := ih (i := i) (by simpa using hp)
      simp only [List.set_cons_succ, List.countP_cons]
      omega
/-- A place's mark or thing turns: full as it was, of the same number. -/
theorem ok_again {s : Ck} (h : s.Ok) {i : Nat} {p q : Pl} (hp : s.ps[i]? = some p) (hf : q.full = p.full) (hk : q.key = p.key) : (s.setP i q).Ok := by
  have hi := (List.getElem?_eq_some_iff.1 hp).1
  have key : ∀ (j : Nat) (r : Pl), (s.setP i q).ps[j]? = some r → ∃ r', s.ps[j]? = some r' ∧ r.full = r'.full ∧ r.key = r'.key := by
    intro j r hr
    rw [setP_get hi] at hr
    by_cases hij : i = j
    · rw [if_pos hij] at hr
      cases hr
      exact ⟨p, hij ▸ hp, hf, hk⟩
    · rw [if_neg hij] at hr
      exact ⟨r, hr, rfl, rfl⟩
  have hu : ∀ (a b : Nat) (x y : Pl), (s.setP i q).ps[a]? = some x → (s.setP i q).ps[b]? = some y → x.full = true → y.full = true → x.key = y.key → a = b := by
    intro a b x y hx hy fx fy hxy
    obtain ⟨x', hx', e1, e2⟩ := key a x hx
    obtain ⟨y', hy', e3, e4⟩ := key b y hy
    exact h.uniq a b x' y' hx' hy' (by rw [← e1]; exact fx) (by rw [← e3]; exact fy) (by rw [← e2, ← e4]; exact hxy)
  refine ⟨by show 1 ≤ (s.ps.set i q).length; rw [List.length_set]; exact h.n1, by show (s.ps.set i q).length ≤ _; rw [List.length_set]; exact h.n2, by show s.hand < (s.ps.set i q).length; rw [List.length_set]; exact h.hand, hu, fun k => ?_, h.nodup, ?_⟩
  · show mget s.m k = _
    rw [h.map k]
    congr 1
    cases e : s.at k with
    | none =>
      symm
      refine at_not fun j r hr fr => ?_
      obtain ⟨r', hr', e1, e2⟩ := key j r hr
      rw [e2]
      exact at_none e j r' hr' (by rw [← e1]; exact fr)
    | some j =>
      obtain ⟨r, hr, fr, kr⟩ := at_some e
      symm
      by_cases hij : i = j
      · have : r = p := by rw [← hij, hp] at hr; cases hr; rfl
        subst this
        exact at_is hu (p := q) (by rw [setP_get hi, if_pos hij]) (by rw [hf]; exact fr) (by rw [hk]; exact kr)
      · exact at_is hu (p := r) (by rw [setP_get hi, if_neg hij]; exact hr) fr kr
  · show s.m.length = (s.ps.set i q).countP _
    have := countP_set (f := (·.full)) (q := q) hp
    rw [h.len]
    simp only [hf] at this
    omega
/-- A thing goes: its place is empty. -/
def Ck.empty (z : Value) (s : Ck) (i : Nat) (key : Int) : Ck := { s with ps := s.ps.set i (Pl.zero z), m := mdel s.m key }
theorem ok_empty {s : Ck} (h : s.Ok) {i : Nat} {key : Int} (z : Value) (hat : s.at key = some i) : (s.empty z i key).Ok := by
  obtain ⟨p, hp, fp, kp⟩ := at_some hat
  have hi := (List.getElem?_eq_some_iff.1 hp).1
  have get : ∀ (j : Nat), (s.empty z i key).ps[j]? = if i = j then some (Pl.zero z) else s.ps[j]? := fun j => setP_get (s := s) hi
  have kept : ∀ (j : Nat) (r : Pl), (s.empty z i key).ps[j]? = some r → r.full = true → i ≠ j ∧ s.ps[j]? = some r := by
    intro j r hr fr
    rw [get] at hr
    by_cases hij : i = j
    · rw [if_pos hij] at hr; cases hr; cases fr
    · rw [if_neg hij] at hr; exact ⟨hij, hr⟩
  have hu : ∀ (a b : Nat) (x y : Pl), (s.empty z i key).ps[a]? = some x → (s.empty z i key).ps[b]? = some y → x.full = true → y.full = true → x.key = y.key → a = b :=
    fun a b x y hx hy fx fy hxy => h.uniq a b x y (kept a x hx fx).2 (kept b y hy fy).2 fx fy hxy
  refine ⟨by show 1 ≤ (s.ps.set i _).length; rw [List.length_set]; exact h.n1, by show (s.ps.set i _).length ≤ _; rw [List.length_set]; exact h.n2, by show s.hand < (s.ps.set i _).length; rw [List.length_set]; exact h.hand, hu, fun k => ?_, keys_mdel h.nodup key, ?_⟩
  · show mget (mdel s.m key) k = _
    rw [mget_mdel h.nodup]
    by_cases hk : key = k
    · rw [if_pos hk]
      subst hk
      rw [show (s.empty z i key).at key = none from at_not fun j r hr fr e => (kept j r hr fr).1 (h.uniq i j p r hp (kept j r hr fr).2 fp fr (kp.trans e.symm))]
      rfl
    · rw [if_neg hk, h.map k]
      congr 1
      cases e : s.at k with
      | none =>
        symm
        exact at_not fun j r hr fr => at_none e j r (kept j r hr fr).2 fr
      | some j =>
        obtain ⟨r, hr, fr, kr⟩ := at_some e
        have hij : i ≠ j := fun e2 => by
          subst e2
          rw [hp] at hr; cases hr
          exact hk (kp.symm.trans kr)
        symm
        exact at_is hu (p := r) (by rw [get, if_neg hij]; exact hr) fr kr
  · show (mdel s.m key).length = (s.ps.set i _).countP _
    have hg : mget s.m key = some (Value.int .i64 (i : Nat)) := by rw [h.map key, hat]; rfl
    have h1 := mdel_len hg
    have h2 := countP_set (f := (·.full)) (q := Pl.zero z) hp
    have h3 := h.len
    simp only [fp, if_true] at h2
    simp only [Pl.zero, Bool.false_eq_true, if_false] at h2
    show (mdel s.m key).length = (s.ps.set i (Pl.zero z)).countP _
    have e : (Pl.zero z) = ⟨false, false, 0, z⟩ := rfl
    rw [e]
    omega
/-- A thing is put into an empty place. -/
def Ck.fill (s : Ck) (i : Nat) (key : Int) (v : Value) : Ck := { s with ps := s.ps.set i ⟨true, true, key, v⟩, m := mset s.m key (.int .i64 (i : Nat)) }
theorem ok_fill {s : Ck} (h : s.Ok) {i : Nat} {key : Int} (v : Value) {p : Pl} (hp : s.ps[i]? = some p) (hf : p.full = false) (hno : s.at key = none) : (s.fill i key v).Ok := by
  have hi := (List.getElem?_eq_some_iff.1 hp).1
  have get : ∀ (j : Nat), (s.fill i key v).ps[j]? = if i = j then some ⟨true, true, key, v⟩ else s.ps[j]? := fun j => setP_get (s := s) hi
  have hu : ∀ (a b : Nat) (x y : Pl), (s.fill i key v).ps[a]? = some x → (s.fill i key v).ps[b]? = some y → x.full = true → y.full = true → x.key = y.key → a = b := by
    intro a b x y hx hy fx fy hxy
    rw [get] at hx hy
    by_cases ha : i = a
    · rw [if_pos ha] at hx
      cases hx
      by_cases hb : i = b
      · omega
      · rw [if_neg hb] at hy
        exact absurd hxy.symm (at_none hno b y hy fy)
    · rw [if_neg ha] at hx
      by_cases hb : i = b
      · rw [if_pos hb] at hy
        cases hy
        exact absurd hxy (at_none hno a x hx fx)
      · rw [if_neg hb] at hy
        exact h.uniq a b x y hx hy fx fy hxy
  have hg : mget s.m key = none := by rw [h.map key, hno]; rfl
  refine ⟨by show 1 ≤ (s.ps.set i _).length; rw [List.length_set]; exact h.n1, by show (s.ps.set i _).length ≤ _; rw [List.length_set]; exact h.n2, by show s.hand < (s.ps.set i _).length; rw [List.length_set]; exact h.hand, hu, fun k => ?_, keys_mset h.nodup key _, ?_⟩
  · show mget (mset s.m key _) k = _
    rw [mget_mset]
    by_cases hk : key = k
    · rw [if_pos hk]
      subst hk
      rw [at_is hu (p := ⟨true, true, key, v⟩) (by rw [get, if_pos rfl]) rfl rfl]
      rfl
    · rw [if_neg hk, h.map k]
      congr 1
      cases e : s.at k with
      | none =>
        symm
        refine at_not fun j r hr fr => ?_
        rw [get] at hr
        by_cases hij : i = j
        · rw [if_pos hij] at hr; cases hr; exact hk
        · rw [if_neg hij] at hr; exact at_none e j r hr fr
      | some j =>
        obtain ⟨r, hr, fr, kr⟩ := at_some e
        have hij : i ≠ j := fun e2 => by
          subst e2
          rw [hp] at hr; cases hr
          rw [hf] at fr; cases fr
        symm
        exact at_is hu (p := r) (by rw [get, if_neg hij]; exact hr) fr kr
  · show (mset s.m key _).length = (s.ps.set i _).countP _
    have h1 := mset_len_new (v := Value.int .i64 (i : Nat)) hg
    have h2 := countP_set (f := (·.full)) (q := ⟨true, true, key, v⟩) hp
    have h3 := h.len
    simp only [hf, Bool.false_eq_true, if_false, if_true] at h2
    omega

end Go.Proofs.Ytadhkciggiefbaa

/-
  What a put leaves of a clock: how many there are, who is there, who is gone.
  Conditions: none.
-/
import Derived.Test.YtkbillhcagbbmaaClock5S
namespace Go.Proofs.Ytkbillhcagbbmaa.Str
open Go.RowKit

theorem full_len {s : Ck} (hok : s.Ok) : s.m.length ≤ s.ps.length := by rw [hok.len]; exact List.countP_le_length
theorem look_at {z v : Value} {s : Ck} {key : Int} {i : Nat} {p : Pl} (hat : s.at key = some i) (hp : s.ps[i]? = some p) (hv : p.thing = v) : lookRes z s key = .tuple #[v, .bool true] := by
  unfold lookRes
  rw [hat]
  show Value.tuple #[(s.ps[i]?.getD default).thing, .bool true] = _
  rw [hp]
  show Value.tuple #[p.thing, .bool true] = _
  rw [hv]
theorem look_any2 (z : Value) (s : Ck) (key : Int) : ∃ x b, lookRes z s key = .tuple #[x, .bool b] := by
  unfold lookRes
  cases s.at key with
  | none => exact ⟨_, _, rfl⟩
  | some i => exact ⟨_, _, rfl⟩
theorem got_m (s : Ck) (key : Int) : (s.got key).m = s.m := by
  unfold Ck.got
  cases s.at key with
  | none => rfl
  | some i => rfl
theorem got_len (s : Ck) (key : Int) : (s.got key).ps.length = s.ps.length := by
  unfold Ck.got
  cases s.at key with
  | none => rfl
  | some i => simp [Ck.setP]
/-- The number is there. -/
theorem put_there (z v : Value) {s : Ck} {key : Int} {i : Nat} (hat : s.at key = some i) :
    s.told z key = .tuple #[.int .i64 0, z, .bool false] ∧ (s.put z key v).m = s.m ∧ (s.put z key v).ps.length = s.ps.length ∧ ((s.put z key v).Ok → lookRes z (s.put z key v) key = .tuple #[v, .bool true]) := by
  unfold Ck.told Ck.put
  rw [hat]
  have hi := at_lt hat
  refine ⟨rfl, rfl, by simp [Ck.setP], fun hok => ?_⟩
  have hp : (s.setP i ⟨true, true, key, v⟩).ps[i]? = some ⟨true, true, key, v⟩ := by rw [setP_get hi, if_pos rfl]
  exact look_at (at_is hok.uniq hp rfl rfl) hp rfl
/-- It is not, and there is an empty place. -/
theorem put_new (z v : Value) {s : Ck} (hok0 : s.Ok) {key : Int} {i : Nat} (hat : s.at key = none) (hx : s.ps.findIdx? (fun p => !p.full) = some i) :
    s.told z key = .tuple #[.int .i64 0, z, .bool false] ∧ (s.put z key v).m.length = s.m.length + 1 ∧ (s.put z key v).ps.length = s.ps.length ∧ ((s.put z key v).Ok → lookRes z (s.put z key v) key = .tuple #[v, .bool true]) := by
  unfold Ck.told Ck.put
  rw [hat]
  dsimp only
  rw [hx]
  obtain ⟨p, hp0, _⟩ := full_some hx
  have hi := (List.getElem?_eq_some_iff.1 hp0).1
  refine ⟨rfl, ?_, by simp [Ck.fill], fun hok => ?_⟩
  · exact mset_len_new (by rw [hok0.map key, hat]; rfl)
  · have hp : (s.fill i key v).ps[i]? = some ⟨true, true, key, v⟩ := setP_get (s := s) hi |>.trans (if_pos rfl)
    exact look_at (at_is hok.uniq hp rfl rfl) hp rfl
/-- It is not, and all places are full. -/
theorem put_full (z v : Value) {s : Ck} (hok0 : s.Ok) {key : Int} (hat : s.at key = none) (hx : s.ps.findIdx? (fun p => !p.full) = none) :
    ∃ (gone : Int) (was : Value), s.told z key = .tuple #[.int .i64 gone, was, .bool true] ∧ gone ≠ key ∧ s.m.length = s.ps.length ∧ (s.put z key v).ps.length = s.ps.length ∧ ((s.put z key v).Ok → (s.put z key v).m.length = s.m.length ∧ lookRes z (s.put z key v) key = .tuple #[v, .bool true] ∧ lookRes z ((s.put z key v).got key) gone = .tuple #[z, .bool false]) := by
  have hall := full_none hx
  have hlen : s.m.length = s.ps.length := by
    rw [hok0.len]
    exact List.countP_eq_length.2 fun p hp => hall p hp
  have hgl : s.goes < s.ps.length := swp_lt _ _ _ hok0.hand
  have hsl : s.swept.ps.length = s.ps.length := swp_len _ _ _
  have hgs : s.swept.ps[s.goes]? = some (s.swept.ps[s.goes]'(by omega)) := List.getElem?_eq_getElem (by omega)
  obtain ⟨q, hq, e1, e2, e3⟩ := swp_get _ _ _ _ _ hgs
  have hqf := hall q (List.mem_of_getElem? hq)
  obtain ⟨gone, hgone⟩ : ∃ gone, (s.swept.ps[s.goes]?.getD default).key = gone := ⟨_, rfl⟩
  have hqk : q.key = gone := by
    rw [← hgone, hgs]
    exact e2.symm
  have hne : gone ≠ key := fun e => at_none hat s.goes q hq hqf (hqk.trans e)
  unfold Ck.told Ck.put
  rw [hat]
  dsimp only
  rw [hx]
  dsimp only
  rw [hgone]
  refine ⟨gone, _, rfl, hne, hlen, by show (List.set (List.set _ _ _) _ _).length = _; rw [List.length_set, List.length_set, hsl], fun hok => ?_⟩
  have l2 : s.goes < (s.swept.empty z s.goes gone).ps.length := by show s.goes < (List.set _ _ _).length; rw [List.length_set]; omega
  have hget : ∀ j, ((s.swept.empty z s.goes gone).fill s.goes key v).ps[j]? = if s.goes = j then some ⟨true, true, key, v⟩ else s.swept.ps[j]? := by
    intro j
    have h1 : ((s.swept.empty z s.goes gone).fill s.goes key v).ps[j]? = if s.goes = j then some ⟨true, true, key, v⟩ else (s.swept.empty z s.goes gone).ps[j]? := setP_get (s := s.swept.empty z s.goes gone) l2
    have h2 : (s.swept.empty z s.goes gone).ps[j]? = if s.goes = j then some (Pl.zero z) else s.swept.ps[j]? := setP_get (s := s.swept) (by omega)
    rw [h1, h2]
    split <;> rfl
  have hp : ((s.swept.empty z s.goes gone).fill s.goes key v).ps[s.goes]? = some ⟨true, true, key, v⟩ := (hget _).trans (if_pos rfl)
  have hat1 := at_is hok.uniq hp rfl rfl
  have hno : ((s.swept.empty z s.goes gone).fill s.goes key v).at gone = none := by
    refine at_not fun j r hr hf hk => ?_
    rw [hget] at hr
    by_cases hj : s.goes = j
    · rw [if_pos hj] at hr
      cases hr
      exact hne hk.symm
    · rw [if_neg hj] at hr
      obtain ⟨q2, hq2, f2, k2, _⟩ := swp_get _ _ _ _ _ hr
      exact hj (hok0.uniq s.goes j q q2 hq hq2 hqf (hall q2 (List.mem_of_getElem? hq2)) (by rw [hqk, ← k2]; exact hk.symm))
  refine ⟨?_, look_at hat1 hp rfl, ?_⟩
  · have h1 : mget s.m gone = some (.int .i64 (s.goes : Nat)) := by rw [hok0.map gone, at_is hok0.uniq hq hqf hqk]; rfl
    have h2 := mdel_len h1
    have h3 : mget (mdel s.m gone) key = none := by rw [mget_mdel hok0.nodup, if_neg hne, hok0.map key, hat]; rfl
    show (mset (mdel s.m gone) key _).length = _
    rw [mset_len_new h3]
    exact h2
  · unfold lookRes
    have : (((s.swept.empty z s.goes gone).fill s.goes key v).got key).at gone = none := by
      unfold Ck.got
      rw [hat1]
      dsimp only
      refine at_not fun j r hr hf hk => ?_
      rw [setP_get (by show s.goes < List.length (List.set _ _ _); rw [List.length_set]; exact l2)] at hr
      by_cases hj : s.goes = j
      · rw [if_pos hj, hp] at hr
        cases hr
        exact hne hk.symm
      · rw [if_neg hj] at hr
        exact at_none hno j r hr hf hk
    rw [this]
end Go.Proofs.Ytkbillhcagbbmaa.Str

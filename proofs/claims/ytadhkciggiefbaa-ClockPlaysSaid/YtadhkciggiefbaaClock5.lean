/-
  clock.Clock[int]: Put.
  Conditions: none.
-/
import Derived.Test.YtadhkciggiefbaaClock4
namespace Go.Proofs.Ytadhkciggiefbaa
open Go.RowKit

/-- The clock behind a put, and what is told. -/
def Ck.put (z : Value) (s : Ck) (key : Int) (v : Value) : Ck :=
  match s.at key with
  | some i => s.setP i ⟨true, true, key, v⟩
  | none => match s.ps.findIdx? (fun p => !p.full) with
    | some i => s.fill i key v
    | none => (s.swept.empty z s.goes (s.swept.ps[s.goes]?.getD default).key).fill s.goes key v
def Ck.told (z : Value) (s : Ck) (key : Int) : Value :=
  match s.at key with
  | some _ => .tuple #[.int .i64 0, z, .bool false]
  | none => match s.ps.findIdx? (fun p => !p.full) with
    | some _ => .tuple #[.int .i64 0, z, .bool false]
    | none => .tuple #[.int .i64 (s.swept.ps[s.goes]?.getD default).key, (s.swept.ps[s.goes]?.getD default).thing, .bool true]

theorem mset_same {m : List (Int × Value)} {k : Int} {v : Value} (h : mget m k = some v) : mset m k v = m := by
  induction m with
  | nil => cases h
  | cons p m ih =>
    unfold mget at h
    unfold mset
    by_cases hp : p.1 = k
    · rw [if_pos hp] at h ⊢
      cases h
      rw [← hp]
    · rw [if_neg hp] at h ⊢
      rw [ih h]
/-- A place is set, and the map. -/
theorem ClockAt.fill {n₀ : Nat} {w w2 : World} {C g M : Nat} {s s' : Ck} (h : ClockAt n₀ w C g M s) {i : Nat} (hi : i < s.ps.length) (key : Int) (v : Int)
    (hs : s' = { s with ps := s.ps.set i ⟨true, true, key, .int .i64 v⟩, m := mset s.m key (.int .i64 (i : Nat)) }) (hok : s'.Ok) :
    (set4 w g (i * 4) (.bool true) (.bool true) (.int .i64 key) (.int .i64 v)).heap[C]? = some (.cells #[.slice (some ⟨g, 0, none⟩) s.ps.length s.ps.length, .map (some M), .int .i64 s.hand] 52 (0, 0)) ∧
      MapIs (set4 w g (i * 4) (.bool true) (.bool true) (.int .i64 key) (.int .i64 v)) M s.m ∧
      (∀ es cl, w2 = (set4 w g (i * 4) (.bool true) (.bool true) (.int .i64 key) (.int .i64 v)).putObj M (.map es cl) → MapIs w2 M (mset s.m key (.int .i64 (i : Nat))) →
        ClockAt n₀ w2 C g M s' ∧ Moves (fun k => k = C ∨ k = g ∨ k = M) w w2) := by
  have hn := h.ne
  have hm := set4_moves w g (i * 4) (.bool true) (.bool true) (.int .i64 key) (.int .i64 v)
  have hr := set4_row h.row hi ⟨true, true, key, .int .i64 v⟩
  have hC := (hm.block C h.lt.1 (fun e => hn.1 e.symm)).trans h.blk
  refine ⟨hC, h.map.same (hm.block M h.lt.2.2 (fun e => hn.2.1 e.symm)), ?_⟩
  rintro es cl rfl hM2
  subst hs
  refine ⟨⟨hok, ?_, ?_, hM2, h.lo, things_set (Q := fun v => ∃ t, v = .int .i64 t) h.things ⟨v, rfl⟩⟩, (hm.mono (fun _ _ e => .inr (.inl e))).trans ((put_moves _ _ _).mono (T := fun k => k = C ∨ k = g ∨ k = M) (fun _ _ e => .inr (.inr e))) (fun _ _ h => h)⟩
  · rw [put_other hn.2.2, List.length_set]; exact hC
  · rw [put_other hn.2.1]; exact hr

theorem swp_len : ∀ (f : Nat) (ps : List Pl) (a : Nat), (swp f ps a).1.length = ps.length
  | 0, _, _ => rfl
  | f + 1, ps, a => by
    unfold swp
    split
    · rw [swp_len f]; simp
    · rfl
theorem swp_get : ∀ (f : Nat) (ps : List Pl) (a k : Nat) (p : Pl), (swp f ps a).1[k]? = some p → ∃ q, ps[k]? = some q ∧ p.full = q.full ∧ p.key = q.key ∧ p.thing = q.thing
  | 0, ps, a, k, p, h => ⟨p, h, rfl, rfl, rfl⟩
  | f + 1, ps, a, k, p, h => by
    unfold swp at h
    split at h
    · obtain ⟨q, hq, e1, e2, e3⟩ := swp_get f _ _ k p h
      rw [List.getElem?_set] at hq
      by_cases hak : a = k
      · rw [if_pos hak] at hq
        split at hq
        · next hlt =>
          cases hq
          have hg : ps[a]?.getD default = ps[a] := by rw [List.getElem?_eq_getElem hlt]; rfl
          rw [hg] at e1 e2 e3
          exact ⟨ps[a], by rw [← hak]; exact List.getElem?_eq_getElem hlt, e1, e2, e3⟩
        · cases hq
      · rw [if_neg hak] at hq
        exact ⟨q, hq, e1, e2, e3⟩
    · exact ⟨p, h, rfl, rfl, rfl⟩
theorem swp_lt : ∀ (f : Nat) (ps : List Pl) (a : Nat), a < ps.length → (swp f ps a).2 < ps.length
  | 0, _, _, h => h
  | f + 1, ps, a, h => by
    unfold swp
    split
    · have := swp_lt f (ps.set a { (ps[a]?.getD default) with marked := false }) ((a + 1) % ps.length) (by rw [List.length_set]; exact Nat.mod_lt _ (by omega))
      rwa [List.length_set] at this
    · exact h
theorem full_none {ps : List Pl} (h : ps.findIdx? (fun p => !p.full) = none) : ∀ p ∈ ps, p.full = true := by
  rw [List.findIdx?_eq_none_iff] at h
  intro p hp
  simpa using h p hp
theorem full_some {ps : List Pl} {i : Nat} (h : ps.findIdx? (fun p => !p.full) = some i) : ∃ p, ps[i]? = some p ∧ p.full = false := by
  obtain ⟨hlt, hp, _⟩ := List.findIdx?_eq_some_iff_getElem.1 h
  exact ⟨ps[i], List.getElem?_eq_getElem hlt, by simpa using hp⟩
set_option maxHeartbeats 4000000 in
theorem put_any {n₀ : Nat} {w : World} {C g M : Nat} {s : Ck} (h : ClockAt n₀ w C g M s) (key : Int) (v : Int) : Calls Try.prog 14 #[.pointer (some ⟨C, 0, none⟩), .int .i64 key, .int .i64 v] w (ClockDid n₀ C g M (s.put zeroI key (.int .i64 v)) (s.told zeroI key) w) := by
  obtain ⟨c0, c1, c2⟩ := h.cells
  have HRM := Lib.hid (room_any h)
  have hn1 : (1 : Int) ≤ s.ps.length := by have := h.ok.n1; omega
  have hn2 : (s.ps.length : Int) ≤ 4096 := by have := h.ok.n2; omega
  have hd := at_data h key w rfl true
  simp only [if_true] at hd
  cases hat : s.at key with
  | some i =>
    rw [hat] at hd
    simp only [Option.getD_some, Option.isSome_some] at hd
    obtain ⟨p, hp, fp, kp⟩ := at_some hat
    have hi := at_lt hat
    have HPUT : Hid (s.put zeroI key (.int .i64 v) = s.setP i ⟨true, true, key, .int .i64 v⟩) := by unfold Hid Ck.put; rw [hat]
    have HTOLD : Hid (s.told zeroI key = .tuple #[.int .i64 0, zeroI, .bool false]) := by unfold Hid Ck.told; rw [hat]
    have hms : mset s.m key (.int .i64 (i : Nat)) = s.m := mset_same (by rw [h.ok.map key, hat]; rfl)
    have HF := Lib.hid (fun w2 => h.fill (w2 := w2) hi key v (s' := s.setP i ⟨true, true, key, .int .i64 v⟩) (by rw [hms]; rfl) (ok_again h.ok hp fp.symm kp.symm))
    have i1 : (i : Int) < s.ps.length := by omega
    obtain ⟨d0, d1, d2, d3⟩ := h.place hp
    have f0 := blk_frozen h.row (i * 4)
    have f1 := blk_frozen h.row (i * 4 + 1)
    have f2 := blk_frozen h.row (i * 4 + 2)
    have f3 := blk_frozen h.row (i * 4 + 3)
    clear c2 hat hp fp kp hms h
    go_enter Try.func14, Try.ntmps14
    go_upto_region 11 with (go_at_call 5; (with_reducible refine HRM.out.mono ?_); rintro e w' ⟨rfl, rfl⟩)
    obtain ⟨hC1, hM1, _⟩ := HF.out w
    obtain ⟨es, cl, hup, hM2⟩ := run_mapUpdate_int (P := Try.prog) Try.underlying50 Try.underlying3 hM1 key (.int .i64 (i : Nat))
    have hfin := (HF.out _).2.2 es cl rfl hM2
    have HFIN := Lib.hid hfin
    have c1' := blk_cell hC1 1
    change (Code.region _ _ _).wp _ _ _ (set4 w g (i * 4) (.bool true) (.bool true) (.int .i64 key) (.int .i64 v))
    generalize (set4 w g (i * 4) (.bool true) (.bool true) (.int .i64 key) (.int .i64 v)) = W1 at c1' hup HFIN ⊢
    clear hC1 hM1 hM2 hfin d0 d1 d2 d3 f0 f1 f2 f3 c0 c1 hd
    go_wp2
    go_ret3
    exact ⟨by rw [HTOLD.out]; rfl, by rw [HPUT.out]; exact HFIN.out.1, HFIN.out.2⟩
  | none =>
    rw [hat] at hd
    simp only [Option.getD_none, Option.isSome_none] at hd
    have HEM := Lib.hid (empty_any h)
    cases hem : s.ps.findIdx? (fun p => !p.full) with
    | some i =>
      obtain ⟨p, hp, fp⟩ := full_some hem
      have hi := (List.getElem?_eq_some_iff.1 hp).1
      have HPUT : Hid (s.put zeroI key (.int .i64 v) = s.fill i key (.int .i64 v)) := by unfold Hid Ck.put; rw [hat, hem]
      have HTOLD : Hid (s.told zeroI key = .tuple #[.int .i64 0, zeroI, .bool false]) := by unfold Hid Ck.told; rw [hat, hem]
      have e1 : emptyRes s.ps = .tuple #[.int .i64 (i : Nat), .bool true] := by unfold emptyRes; rw [hem]
      rw [e1] at HEM
      have hok := ok_fill h.ok (.int .i64 v) hp fp hat
      have HCA : Hid (∀ W, Below w.heap.size w W → (ClockAt n₀ W C g M s) ∧ (∀ w2, (set4 W g (i * 4) (.bool true) (.bool true) (.int .i64 key) (.int .i64 v)).heap[C]? = some (.cells #[.slice (some ⟨g, 0, none⟩) s.ps.length s.ps.length, .map (some M), .int .i64 s.hand] 52 (0, 0)) ∧
          MapIs (set4 W g (i * 4) (.bool true) (.bool true) (.int .i64 key) (.int .i64 v)) M s.m ∧
          (∀ es cl, w2 = (set4 W g (i * 4) (.bool true) (.bool true) (.int .i64 key) (.int .i64 v)).putObj M (.map es cl) → MapIs w2 M (mset s.m key (.int .i64 (i : Nat))) →
            ClockAt n₀ w2 C g M (s.fill i key (.int .i64 v)) ∧ Moves (fun k => k = C ∨ k = g ∨ k = M) W w2))) := fun W hW => ⟨h.same hW, fun w2 => (h.same hW).fill (w2 := w2) hi key v rfl hok⟩
      have HPI := Lib.hid (fun W (hW : ClockAt n₀ W C g M s) => hW.place hp)
      have i1 : (i : Int) < s.ps.length := by omega
      clear c2 hat hp fp h hem e1 hok
      go_enter Try.func14, Try.ntmps14
      go_upto_region 10 with (first
        | (go_at_call 5; (with_reducible refine HRM.out.mono ?_); rintro e w' ⟨rfl, rfl⟩)
        | (go_at_call 21; (with_reducible refine HEM.out.mono ?_); rintro e W0 ⟨rfl, hbw⟩))
      have HBW := Lib.hid hbw
      obtain ⟨hca, hF⟩ := HCA.out W0 hbw
      have HF := Lib.hid hF
      obtain ⟨d0, d1, d2, d3⟩ := HPI.out W0 hca
      obtain ⟨k0, k1, k2⟩ := hca.cells
      have f0 := blk_frozen hca.row (i * 4)
      have f1 := blk_frozen hca.row (i * 4 + 1)
      have f2 := blk_frozen hca.row (i * 4 + 2)
      have f3 := blk_frozen hca.row (i * 4 + 3)
      clear hca hF hbw c0 c1 hd k2
      go_upto_region 11 with (fail)
      obtain ⟨hC1, hM1, _⟩ := HF.out W0
      obtain ⟨es, cl, hup, hM2⟩ := run_mapUpdate_int (P := Try.prog) Try.underlying50 Try.underlying3 hM1 key (.int .i64 (i : Nat))
      have hfin := (HF.out _).2.2 es cl rfl hM2
      have HFIN := Lib.hid hfin
      have c1' := blk_cell hC1 1
      change (Code.region _ _ _).wp _ _ _ (set4 W0 g (i * 4) (.bool true) (.bool true) (.int .i64 key) (.int .i64 v))
      generalize (set4 W0 g (i * 4) (.bool true) (.bool true) (.int .i64 key) (.int .i64 v)) = W1 at c1' hup HFIN ⊢
      clear hC1 hM1 hM2 hfin d0 d1 d2 d3 f0 f1 f2 f3 k0 k1
      go_wp2
      go_ret3
      exact ⟨by rw [HTOLD.out]; rfl, by rw [HPUT.out]; exact HFIN.out.1, (Moves.of_below HBW.out).trans HFIN.out.2 (fun _ _ h => h)⟩
    | none =>
      have hall := full_none hem
      have hgl : s.goes < s.ps.length := swp_lt _ _ _ h.ok.hand
      have hsl : s.swept.ps.length = s.ps.length := swp_len _ _ _
      obtain ⟨p, hp⟩ : ∃ p, s.swept.ps[s.goes]? = some p := ⟨_, List.getElem?_eq_getElem (by rw [hsl]; exact hgl)⟩
      obtain ⟨q, hq, e1, e2, e3⟩ := swp_get _ _ _ _ p hp
      have fp : p.full = true := by rw [e1]; exact hall q (List.mem_of_getElem? hq)
      have hpd : s.swept.ps[s.goes]?.getD default = p := by rw [hp]; rfl
      have HPUT : Hid (s.put zeroI key (.int .i64 v) = (s.swept.empty zeroI s.goes p.key).fill s.goes key (.int .i64 v)) := by unfold Hid Ck.put; rw [hat, hem, hpd]
      have HTOLD : Hid (s.told zeroI key = .tuple #[.int .i64 p.key, p.thing, .bool true]) := by unfold Hid Ck.told; rw [hat, hem, hpd]
      have e4 : emptyRes s.ps = .tuple #[.int .i64 0, .bool false] := by unfold emptyRes; rw [hem]
      rw [e4] at HEM
      have HSWP := Lib.hid (fun W (hW : Below w.heap.size w W) => sweep_any (h.same hW))
      have hnew : ∀ (hok : s.swept.Ok), s.swept.at p.key = some s.goes ∧ ((s.swept.empty zeroI s.goes p.key).fill s.goes key (.int .i64 v)).Ok := by
        intro hok
        have hat2 := at_is hok.uniq hp fp rfl
        have hi2 : s.goes < s.swept.ps.length := by rw [hsl]; exact hgl
        have get : ∀ (j : Nat), (s.swept.empty zeroI s.goes p.key).ps[j]? = if s.goes = j then some (Pl.zero zeroI) else s.swept.ps[j]? := fun j => setP_get (s := s.swept) hi2
        refine ⟨hat2, ok_fill (ok_empty hok zeroI hat2) (.int .i64 v) (p := Pl.zero zeroI) (by rw [get, if_pos rfl]) rfl (at_not fun j r hr fr => ?_)⟩
        rw [get] at hr
        by_cases hj : s.goes = j
        · rw [if_pos hj] at hr; cases hr; cases fr
        · rw [if_neg hj] at hr
          obtain ⟨q2, hq2, a1, a2, _⟩ := swp_get _ _ _ _ r hr
          rw [a2]
          exact at_none hat j q2 hq2 (by rw [← a1]; exact fr)
      have HNEW := Lib.hid hnew
      have HP := Lib.hid hp
      have HLEN := Lib.hid (And.intro hgl hsl)
      have HLK : Hid (∀ (hok : s.swept.Ok), lookRes zeroI s.swept p.key = .tuple #[p.thing, .bool true] ∧ s.swept.dropped zeroI p.key = s.swept.empty zeroI s.goes p.key) := fun hok => by
        have hat2 := (hnew hok).1
        unfold lookRes Ck.dropped
        rw [hat2]
        exact ⟨by show Value.tuple #[(s.swept.ps[s.goes]?.getD default).thing, .bool true] = _; rw [hpd], rfl⟩
      have HEL : Hid ((s.swept.empty zeroI s.goes p.key).ps.length = s.ps.length) := by unfold Hid Ck.empty; rw [List.length_set]; exact hsl
      have g1 : (s.goes : Int) < s.ps.length := by omega
      obtain ⟨a, ha⟩ : ∃ a, s.goes = a := ⟨_, rfl⟩
      rw [ha] at HPUT HNEW HP HLEN HLK HEL g1
      rw [ha] at HSWP
      clear c2 hat h hem e1 e2 e3 e4 hall hgl hsl hp hq fp hpd hnew ha
      go_enter Try.func14, Try.ntmps14
      go_upto_region 8 with (first
        | (go_at_call 5; (with_reducible refine HRM.out.mono ?_); rintro e w' ⟨rfl, rfl⟩)
        | (go_at_call 21; (with_reducible refine HEM.out.mono ?_); rintro e W0 ⟨rfl, hbw⟩; have HBW := Lib.hid hbw; have HS0 := Lib.hid (HSWP.out W0 hbw); clear hbw)
        | (go_at_call 22; (with_reducible refine HS0.out.mono ?_); rintro e W1 ⟨rfl, hc1, hm1⟩; have HC1 := Lib.hid hc1; have HM1 := Lib.hid hm1; clear hc1 hm1))
      obtain ⟨k0p, k1, k2⟩ := HC1.out.cells
      obtain ⟨d0, d1, d2, d3⟩ := HC1.out.place HP.out
      have k0 : W1.cell? ⟨C, 0, none⟩ = some (.slice (some ⟨g, 0, none⟩) s.ps.length s.ps.length) := by rw [← HLEN.out.2]; exact k0p
      clear k0p
      have HDR : Hid (Calls Try.prog 12 #[.pointer (some ⟨C, 0, none⟩), .int .i64 p.key] W1 (ClockDid n₀ C g M (s.swept.empty zeroI a p.key) (.tuple #[p.thing, .bool true]) W1)) := by
        have := drop_any HC1.out p.key
        rw [(HLK.out HC1.out.ok).1, (HLK.out HC1.out.ok).2] at this
        exact this
      clear c0 c1 hd k2 d0 d1 d3
      go_upto_region 10 with ((go_at_call 12; (with_reducible refine HDR.out.mono ?_); rintro e W2 ⟨rfl, hc2, hm2⟩; have HC2 := Lib.hid hc2; have HM2 := Lib.hid hm2; clear hc2 hm2))
      have hi3 : a < (s.swept.empty zeroI a p.key).ps.length := by rw [HEL.out]; exact HLEN.out.1
      have HF := Lib.hid (fun w2 => HC2.out.fill (w2 := w2) hi3 key v (s' := (s.swept.empty zeroI a p.key).fill a key (.int .i64 v)) rfl (HNEW.out HC1.out.ok).2)
      obtain ⟨q0, q1, q2⟩ := HC2.out.cells
      rw [HEL.out] at q0
      have hz : (s.swept.empty zeroI a p.key).ps[a]? = some (Pl.zero zeroI) := by
        have := setP_get (s := s.swept) (i := a) (j := a) (p := Pl.zero zeroI) (by rw [HLEN.out.2]; exact HLEN.out.1)
        rw [if_pos rfl] at this
        exact this
      obtain ⟨d0, d1, d2', d3⟩ := HC2.out.place hz
      have f0 := blk_frozen HC2.out.row (a * 4)
      have f1 := blk_frozen HC2.out.row (a * 4 + 1)
      have f2 := blk_frozen HC2.out.row (a * 4 + 2)
      have f3 := blk_frozen HC2.out.row (a * 4 + 3)
      clear hi3 hz k0 k1 d2 q2
      go_upto_region 11 with (fail)
      obtain ⟨hC1, hM1, _⟩ := HF.out W2
      obtain ⟨es, cl, hup, hM2⟩ := run_mapUpdate_int (P := Try.prog) Try.underlying50 Try.underlying3 hM1 key (.int .i64 (a : Nat))
      have hfin := (HF.out _).2.2 es cl rfl hM2
      have HFIN := Lib.hid hfin
      have c1' := blk_cell hC1 1
      change (Code.region _ _ _).wp _ _ _ (set4 W2 g (a * 4) (.bool true) (.bool true) (.int .i64 key) (.int .i64 v))
      generalize (set4 W2 g (a * 4) (.bool true) (.bool true) (.int .i64 key) (.int .i64 v)) = W5 at c1' hup HFIN ⊢
      clear hC1 hM1 hM2 hfin d0 d1 d2' d3 f0 f1 f2 f3 q0 q1
      go_wp2
      go_ret3
      exact ⟨by rw [HTOLD.out]; rfl, by rw [HPUT.out]; exact HFIN.out.1, (((Moves.of_below HBW.out).trans HM1.out (fun _ _ h => h)).trans HM2.out (fun _ _ h => h)).trans HFIN.out.2 (fun _ _ h => h)⟩
end Go.Proofs.Ytadhkciggiefbaa

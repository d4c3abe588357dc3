/-
  Joined: Flash8, Flash9, Flash10, Flash11, Flash12, FlashHere.
  Conditions: none.
-/
import Derived.Test.YtiibpkncdflfcaaJF1
import Derived.StillTailTactics
import Derived.Deep.RegionHeld3
import Derived.Deep.DeepCutAuto
import Derived.Deep.RegionLaw
import Derived.Deep.AppendLies
import Derived.Outline
import Derived.Laws.CopyOwn
namespace Go.Proofs.Ytiibpkncdflfcaa
open Go.RowKit

theorem own_set {w : World} {base g i : Nat} {n cap : Nat} {bs : List (BitVec 8)} (h : w.ownsRow base 5 1 (.slice (some ⟨g, 0, none⟩) n cap) n (cellsOf bs)) (x : BitVec 8) : (w.setCell ⟨g, i, none⟩ (.int .u8 (U x))).ownsRow base 5 1 (.slice (some ⟨g, 0, none⟩) n cap) n (cellsOf (bs.set i x)) := by
  obtain ⟨h1, h2⟩ := h
  rcases h2 with ⟨h2, _⟩ | ⟨g', cap', cur, hv, hb, hg, hn, hc, hs, ht⟩
  · cases h2
  · simp only [Value.slice.injEq, Option.some.injEq, Addr.mk.injEq] at hv
    obtain ⟨⟨rfl, _⟩, _, rfl⟩ := hv
    refine ⟨by rw [cellsOf_len, List.length_set, ← cellsOf_len]; exact h1, .inr ⟨g, cap, _, rfl, hb, blk_set hg i _, hn, hc, by rw [Array.size_setIfInBounds]; exact hs, ?_⟩⟩
    rw [Array.toList_setIfInBounds, List.take_set, ht]
    simp [cellsOf, List.map_set]

def rotErr (d : Dev) (at_ byteAt : Int) : Int := if (0 ≤ at_ ∧ at_ < d.sectors) ∧ 0 ≤ byteAt ∧ byteAt < d.size then 0 else 2
def Dev.rot (d : Dev) (at_ byteAt : Int) (mask : BitVec 8) : Dev :=
  if (0 ≤ at_ ∧ at_ < d.sectors) ∧ 0 ≤ byteAt ∧ byteAt < d.size then d.put at_.toNat ((d.fast at_.toNat).set byteAt.toNat ((d.fast at_.toNat)[byteAt.toNat]?.getD 0 ^^^ mask)) else d
/-- What a call leaves of a device. -/
def DevLeft (n₀ : Nat) (O : Foot) (w : World) (D : Nat) (d : Dev) (r : Value) (e : Ending) (w' : World) : Prop := e = .returned r ∧ ∃ O', DevAt n₀ O' w' D d ∧ Step O O' w w'

theorem rot_cell {w : World} {base g n cap i : Nat} {bs : List (BitVec 8)} (h : w.ownsRow base 5 1 (.slice (some ⟨g, 0, none⟩) n cap) n (cellsOf bs)) (hi : i < n) (hl : bs.length = n) : w.cell? ⟨g, i, none⟩ = some (.int .u8 (U (bs[i]?.getD 0))) := by
  have hc : (cellsOf bs)[i]? = some (.int .u8 (U (bs[i]?.getD 0))) := by
    have hi2 : i < bs.length := by omega
    simp [cellsOf, hi2]
  have q := h.cells rfl _ _ hc
  by_cases h0 : i = 0
  · subst h0; simpa [Addr.add] using q
  · simpa [Addr.add, h0] using q
theorem rot_free {w : World} {base g n cap size : Nat} {t : TypeId} {cs : List Value} (h : w.ownsRow base t size (.slice (some ⟨g, 0, none⟩) n cap) n cs) (i : Nat) : w.frozen? ⟨g, i, none⟩ = false := by
  rcases h.2 with ⟨h2, _⟩ | ⟨g', cap', cur, hv, _, hg, _⟩
  · cases h2
  · simp only [Value.slice.injEq, Option.some.injEq, Addr.mk.injEq] at hv
    obtain ⟨⟨rfl, _⟩, _⟩ := hv
    exact blk_frozen hg i
/-- The turned row given back to the device. -/
theorem rot_set {n₀ : Nat} {O : Foot} {w w1 : World} {D : Nat} {d : Dev} (h : DevAt n₀ O w D d) {k g cap i : Nat} {bs : List (BitVec 8)} (hrow : w1.ownsRow w.heap.size 5 1 (.slice (some ⟨g, 0, none⟩) d.size cap) d.size (cellsOf bs)) (hb : Below w.heap.size w w1) (hk : k < d.sectors) (hlen : bs.length = d.size) (hn : n₀ ≤ w.heap.size) (hin : Foot.In O w) (hlo : ∀ k, O k → n₀ ≤ k) {x : BitVec 8} {u : Int} (hu : u = U x) :
    Calls Try.prog 26 #[.pointer (some ⟨D, 0, none⟩), .int .i64 k, .slice (some ⟨g, 0, none⟩) d.size cap] (w1.setCell ⟨g, i, none⟩ (.int .u8 u)) fun e w' => e = .returned (.tuple #[]) ∧ ∃ O', DevAt n₀ O' w' D (d.put k (bs.set i x)) ∧ Step O O' w w' := by
  subst hu
  have hrow2 := own_set (i := i) hrow x
  have hg : w.heap.size ≤ g := by
    rcases hrow.2 with ⟨h2, _⟩ | ⟨g', cap', cur, hv, hb, _⟩
    · cases h2
    · simp only [Value.slice.injEq, Option.some.injEq, Addr.mk.injEq] at hv
      omega
  have hb2 : Below w.heap.size w (w1.setCell ⟨g, i, none⟩ (.int .u8 (U x))) := hb.setCell hg _
  have hd := h.keep (Same.of_below hb2 hin)
  generalize hw2 : w1.setCell ⟨g, i, none⟩ (.int .u8 (U x)) = w2 at *
  have hsz := hb2.size
  have hd2 := hd.widen (Q := fun j => O j ∨ (w.heap.size ≤ j ∧ j < w2.heap.size)) (fun _ h => .inl h) (fun j hj => hj.elim (fun h => by have := hin j h; omega) (fun h => h.2)) (fun j hj => hj.elim (hlo j) (fun h => by omega))
  have hl2 : (bs.set i x).length = d.size := by rw [List.length_set]; exact hlen
  have hbi : BytesIn (fun j => O j ∨ (w.heap.size ≤ j ∧ j < w2.heap.size)) w2 (.slice (some ⟨g, 0, none⟩) d.size cap) (bs.set i x) := by
    refine BytesIn.of_owns (base := w.heap.size) ?_ (fun j h1 h2 => .inr ⟨h1, h2⟩)
    rw [hl2]; exact hrow2
  refine (setFast_any n₀ _ w2 D d hd2 k hk _ _ hbi hl2).mono ?_
  rintro e w' ⟨he, h3, h4⟩
  refine ⟨he, _, h3, ⟨?_, ?_⟩⟩
  · exact (Moves.of_below (S := O) hb2).trans h4.moves (fun i hi h => h.elim id (fun h => by omega))
  · intro j hj
    exact hj.imp id (fun h => h.1)

end Go.Proofs.Ytiibpkncdflfcaa
namespace Go.Proofs.Ytiibpkncdflfcaa
open Go.RowKit

/-- How many first bytes of a write a fate does. -/
def doneOf (size : Nat) (fate : Int) : Nat := (fate % ((size : Int) + 1)).toNat
theorem doneOf_le (size : Nat) (fate : Int) : doneOf size fate ≤ size := by
  unfold doneOf
  have := Int.emod_lt_of_pos fate (show (0 : Int) < (size : Int) + 1 by omega)
  have := Int.emod_nonneg fate (show ((size : Int) + 1) ≠ 0 by omega)
  omega
theorem done_math (size : Nat) (fate : Int) : (fate.tmod ((size : Int) + 1) + ((size : Int) + 1)) % ((size : Int) + 1) = (doneOf size fate : Int) := by
  have := Int.emod_nonneg fate (show ((size : Int) + 1) ≠ 0 by omega)
  rw [Int.add_emod_right]
  unfold doneOf
  rw [Int.toNat_of_nonneg this, Int.tmod_def]
  exact Int.sub_mul_emod_self_left ..

set_option maxHeartbeats 1000000 in
theorem done_any (n₀ : Nat) (O : Foot) (w : World) (D : Nat) (d : Dev) (h : DevAt n₀ O w D d) (fate : Int) :
    Calls Try.prog 25 #[.pointer (some ⟨D, 0, none⟩), .int .i64 fate] w fun e w' => e = .returned (.int .i64 (doneOf d.size fate)) ∧ w = w' := by
  obtain ⟨F, P, L, lv, fm, pm, lm, h⟩ := h
  have c1 : w.cell? ⟨D, 1, none⟩ = some (.int .i64 d.size) := blk_cell h.blk 1
  have hsz := h.right.2
  have s4 : (d.size : Int) ≤ 512 := by omega
  have hm := done_math d.size fate
  have h0 : (0 : Int) < (d.size : Int) + 1 := by omega
  have m1 := Int.lt_tmod_of_pos fate h0
  have m2 := Int.tmod_lt_of_pos fate h0
  have HM := Lib.hid hm
  clear h hm
  go_enter Try.func25, Try.ntmps25
  go_wp2_with fail
  go_ret
  exact ⟨congrArg (fun x => Ending.returned (.int .i64 x)) HM.out, rfl⟩

end Go.Proofs.Ytiibpkncdflfcaa
namespace Go.Proofs.Ytiibpkncdflfcaa
open Go.RowKit

/-- A write put behind the others, and into the sector's past. -/
def Dev.give (d : Dev) (k : Nat) (bs : List (BitVec 8)) : Dev := { d with past := fun j => if j = k then d.past j ++ [bs] else d.past j, loose := d.loose ++ [(k, bs)] }

theorem RowsIn.own {n₀ : Nat} {O : Foot} {w : World} {v : Value} {l : List (List (BitVec 8))} (h : RowsIn n₀ O w v l) {g : Nat} (hg : v.ownBlock = some g) : NoBytes w g := by
  obtain ⟨cs, h1, _⟩ := h
  exact noBytes_row h1 (by decide) hg
theorem LooseIn.own {n₀ : Nat} {O : Foot} {w : World} {v : Value} {l : List (Nat × List (BitVec 8))} (h : LooseIn n₀ O w v l) {g : Nat} (hg : v.ownBlock = some g) : NoBytes w g := by
  obtain ⟨cs, h1, _⟩ := h
  exact noBytes_row h1 (by decide) hg
/-- What a write may turn. -/
def giveX (D P L : Nat) (pv lv : Value) : Foot := fun j => j = D ∨ j = P ∨ j = L ∨ pv.ownBlock = some j ∨ lv.ownBlock = some j

theorem rows_apart {n₀ : Nat} {w : World} {v v' : Value} {e e' : TypeId} {size size' n n' : Nat} {xs xs' : List Value} (h : w.ownsRow n₀ e size v n xs) (h' : w.ownsRow n₀ e' size' v' n' xs') (hne : e ≠ e') {g : Nat} (hg : v.ownBlock = some g) : v'.ownBlock ≠ some g := by
  rcases h.2 with ⟨rfl, _⟩ | ⟨g1, cap, cur, rfl, _, hh, _⟩
  · simp [Value.ownBlock] at hg
  · obtain rfl : g1 = g := by simpa [Value.ownBlock] using hg
    rcases h'.2 with ⟨rfl, _⟩ | ⟨g2, cap2, cur2, rfl, _, hh2, _⟩
    · simp [Value.ownBlock]
    · intro e2
      obtain rfl : g2 = g1 := by simpa [Value.ownBlock] using e2
      rw [hh] at hh2
      simp only [Option.some.injEq, Obj.cells.injEq] at hh2
      exact hne hh2.2.1
theorem loose_ne_dev {n₀ : Nat} {O : Foot} {w : World} {D F P L : Nat} {lv : Value} {fm pm lm : List (Int × Value)} {d : Dev} (h : DevParts n₀ O w D F P L lv fm pm lm d) : lv.ownBlock ≠ some D := by
  obtain ⟨cs, h1, _⟩ := h.loose
  exact own_ne h1 h.blk (by decide)
theorem loose_ne_map {n₀ : Nat} {O : Foot} {w : World} {v : Value} {l : List (Nat × List (BitVec 8))} {g : Nat} {m : List (Int × Value)} (h : LooseIn n₀ O w v l) (hm : MapIs w g m) : v.ownBlock ≠ some g := by
  obtain ⟨cs, h1, _⟩ := h
  exact hm.noRow h1

theorem DevParts.pastOf {n₀ : Nat} {O : Foot} {w : World} {D F P L : Nat} {lv : Value} {fm pm lm : List (Int × Value)} {d : Dev} (h : DevParts n₀ O w D F P L lv fm pm lm d) (k : Nat) (hk : k < d.sectors) : RowsIn n₀ O w ((mget pm k).getD (.slice none 0 0)) (d.past k) := by
  rcases h.past k hk with ⟨h1, h2⟩ | ⟨v, h1, h2⟩
  · rw [h1, h2]
    exact ⟨[], World.ownsRow_nil _ _ _ _, (fun k e => by cases e), (fun i x hx => by simp at hx)⟩
  · rw [h1]
    exact h2

theorem DevParts.give {n₀ : Nat} {O O' : Foot} {w w' : World} {D F P L : Nat} {lv lv' pv pv' : Value} {fm pm lm : List (Int × Value)} {d : Dev} (h : DevParts n₀ O w D F P L lv fm pm lm d) (k : Nat) (hk : k < d.sectors) (bs : List (BitVec 8)) (hlen : bs.length = d.size)
    (hpv : (mget pm k).getD (.slice none 0 0) = pv) (hm : Moves (giveX D P L pv lv) w w') (hO : ∀ j, O j → O' j) (hin : Foot.In O' w') (hlo : ∀ j, O' j → n₀ ≤ j)
    (hb : DevBlk w' D d.sectors d.size F P lv' L d.armed d.acts d.down) (hP : MapIs w' P (mset pm k pv')) (hL : MapIs w' L (mset lm k (.int .i64 (d.loose.length : Int))))
    (hrow : RowsIn n₀ O' w' pv' (d.past k ++ [bs])) (hat : pv'.ownBlock = pv.ownBlock ∨ ∀ g, pv'.ownBlock = some g → w.heap.size ≤ g) (hloose : LooseIn n₀ O' w' lv' (d.loose ++ [(k, bs)])) :
    DevParts n₀ O' w' D F P L lv' fm (mset pm k pv') (mset lm k (.int .i64 (d.loose.length : Int))) (d.give k bs) := by
  have hpr : RowsIn n₀ O w pv (d.past k) := by rw [← hpv]; exact h.pastOf k hk
  have hX : ∀ j, giveX D P L pv lv j → NoBytes w j := fun j hj => by
    rcases hj with rfl | rfl | rfl | hj | hj
    · exact noBytes_dev h
    · exact noBytes_map h.mP
    · exact noBytes_map h.mL
    · exact hpr.own hj
    · exact h.loose.own hj
  have hFX : ¬ giveX D P L pv lv F := fun hj => by
    rcases hj with e | e | e | hj | hj
    · exact dev_ne_map h h.mF e
    · exact h.apart.1 e
    · exact h.apart.2.1 e
    · exact rows_ne_map hpr h.mF hj
    · exact loose_ne_map h.loose h.mF hj
  have hother : ∀ (j : Int) v, j ≠ (k : Int) → mget pm j = some v → ∀ g, v.ownBlock = some g → g < w.heap.size ∧ ¬ giveX D P L pv lv g := by
    intro j v hjk hv g hg
    obtain ⟨j', hj', rfl⟩ : ∃ j' : Nat, j' < d.sectors ∧ j = j' := by
      have : ∀ {m : List (Int × Value)}, KeysIn m d.sectors → mget m j = some v → ∃ j' : Nat, j' < d.sectors ∧ j = j' := by
        intro m
        induction m with
        | nil => intro _ h; cases h
        | cons p m ih =>
          intro hk h
          unfold mget at h
          split at h
          · rename_i e
            obtain ⟨a, ha, e2⟩ := hk p (by simp)
            exact ⟨a, ha, by rw [← e, e2]⟩
          · exact ih (fun q hq => hk q (by simp [hq])) h
      exact this h.kP hv
    have hr : RowsIn n₀ O w v (d.past j') := by
      rcases h.past j' hj' with ⟨h1, _⟩ | ⟨v2, h1, h2⟩
      · rw [h1] at hv; cases hv
      · rw [h1] at hv; cases hv; exact h2
    have hin2 := h.inn
    obtain ⟨cs, hr1, hr2, _⟩ := hr
    refine ⟨hin2 g (hr2 g hg), fun hx => ?_⟩
    rcases hx with rfl | rfl | rfl | hx | hx
    · exact own_ne hr1 h.blk (by decide) hg
    · exact h.mP.noRow hr1 hg
    · exact h.mL.noRow hr1 hg
    · cases hg2 : mget pm k with
      | none => rw [hg2] at hpv; subst hpv; simp [Value.ownBlock] at hx
      | some u =>
        rw [hg2] at hpv
        subst hpv
        exact hjk (h.rows _ _ _ _ g hv hg2 hg hx)
    · obtain ⟨cs2, hl1, _⟩ := h.loose
      exact rows_apart hr1 hl1 (by decide) hg hx
  exact
    { blk := hb
      mF := h.mF.same (hm.block _ h.mF.lt hFX)
      mP := hP
      mL := hL
      oD := hO _ h.oD, oF := hO _ h.oF, oP := hO _ h.oP, oL := hO _ h.oL, apart := h.apart
      inn := hin, lo := hlo, right := h.right, kF := h.kF
      kP := keys_set h.kP hk
      kL := keys_set h.kL hk
      len := h.len
      fast := fun j hj => (h.fast j hj).imp id fun ⟨v, h1, h2⟩ => ⟨v, h1, (bytes_moves hm hX h2).mono hO⟩
      plen := fun j x hx => by
        by_cases e : j = k
        · simp [Dev.give, e] at hx
          rcases hx with hx | rfl
          · exact h.plen k x hx
          · exact hlen
        · simp [Dev.give, e] at hx
          exact h.plen j x hx
      past := fun j hj => by
        by_cases e : j = k
        · subst e
          right
          refine ⟨pv', by rw [mget_mset, if_pos rfl], ?_⟩
          simpa [Dev.give] using hrow
        · rw [mget_mset, if_neg (by omega)]
          have e2 : (d.give k bs).past j = d.past j := by simp [Dev.give, e]
          rw [e2]
          exact (h.past j hj).imp id fun ⟨v, h1, h2⟩ => ⟨v, h1, (rows_moves hm hX h2 (fun g hg => (hother j v (by omega) h1 g hg).2)).wide hO⟩
      rows := fun i j u v g hu hv hgu hgv => by
        rw [mget_mset] at hu hv
        have hnew : ∀ (j : Int) v, j ≠ (k : Int) → mget pm j = some v → v.ownBlock = some g → pv'.ownBlock ≠ some g := by
          intro j v hjk hv hgv hg
          have ho := hother j v hjk hv g hgv
          rcases hat with h1 | h1
          · exact ho.2 (.inr (.inr (.inr (.inl (h1.symm.trans hg)))))
          · have := h1 g hg; omega
        by_cases hi : (k : Int) = i
        · by_cases hj : (k : Int) = j
          · omega
          · rw [if_pos hi] at hu
            rw [if_neg hj] at hv
            cases hu
            exact absurd hgu (hnew j v (by omega) hv hgv)
        · rw [if_neg hi] at hu
          by_cases hj : (k : Int) = j
          · rw [if_pos hj] at hv
            cases hv
            exact absurd hgv (hnew i u (by omega) hu hgu)
          · rw [if_neg hj] at hv
            exact h.rows i j u v g hu hv hgu hgv
      loose := hloose
      llen := fun x hx => by
        simp [Dev.give] at hx
        rcases hx with hx | rfl
        · exact h.llen x hx
        · exact ⟨hk, hlen⟩
      last := fun j hj => by
        rw [mget_mset]
        have el : (d.give k bs).loose = d.loose ++ [(k, bs)] := rfl
        rw [el]
        by_cases e : j = k
        · subst e
          right
          refine ⟨d.loose.length, bs, by rw [if_pos rfl], by simp, fun i x hi hx => ?_⟩
          have := (List.getElem?_eq_some_iff.1 hx).1
          simp at this
          omega
        · rw [if_neg (by omega)]
          rcases h.last j hj with ⟨h1, h2⟩ | ⟨i, bs2, h1, h2, h3⟩
          · left
            refine ⟨h1, fun x hx => ?_⟩
            simp at hx
            rcases hx with hx | rfl
            · exact h2 x hx
            · exact fun e2 => e e2.symm
          · right
            have hlt := (List.getElem?_eq_some_iff.1 h2).1
            refine ⟨i, bs2, h1, by rw [List.getElem?_append_left hlt]; exact h2, fun i' x hi hx => ?_⟩
            by_cases hl : i' < d.loose.length
            · rw [List.getElem?_append_left hl] at hx
              exact h3 i' x hi hx
            · rw [List.getElem?_append_right (by omega)] at hx
              have : i' - d.loose.length = 0 := by
                have := (List.getElem?_eq_some_iff.1 hx).1
                simp at this
                omega
              rw [this] at hx
              simp at hx
              subst hx
              exact fun e2 => e e2.symm }

end Go.Proofs.Ytiibpkncdflfcaa
namespace Go.Proofs.Ytiibpkncdflfcaa
open Go.RowKit

theorem Try.infoRow : (Try.prog.info? 30).map (fun i => (i.zero, i.size, i.bytes)) = some (some (.slice none 0 0), 1, 24) := by kernel_rfl
theorem Try.infoWrite : (Try.prog.info? 65).map (fun i => (i.zero, i.size, i.bytes)) = some (some (.agg #[.int .i64 0, .slice none 0 0]), 2, 32) := by kernel_rfl
theorem zeroRows (w : World) : (zeroValue 50).run Try.prog w = .ok (.slice none 0 0) w := by kernel_rfl

/-- What a write does, and tells. -/
def Dev.write (d : Dev) (at_ : Int) (bs : List (BitVec 8)) : Dev := if askErr d.sectors d.down at_ = 0 ∧ bs.length = d.size then (d.give at_.toNat bs).act else d
def writeErr (d : Dev) (at_ : Int) (n : Nat) : Int := if askErr d.sectors d.down at_ ≠ 0 then askErr d.sectors d.down at_ else if n ≠ d.size then 3 else if d.armed = 1 then 4 else 0

set_option maxHeartbeats 2000000 in
/-- A write that is refused. -/
theorem write_out (n₀ : Nat) (O : Foot) (w : World) (D : Nat) (d : Dev) (h : DevAt n₀ O w D d) (at_ : Int) (u : Value) (bs : List (BitVec 8)) (hu : BytesAt w.heap.size w u bs) (hout : ¬(askErr d.sectors d.down at_ = 0 ∧ bs.length = d.size)) :
    Calls Try.prog 5 #[.pointer (some ⟨D, 0, none⟩), .int .i64 at_, u] w (DevLeft n₀ O w D (d.write at_ bs) (.int .i64 (writeErr d at_ bs.length))) := by
  have h0 := h
  obtain ⟨F, P, L, lv, fm, pm, lm, h⟩ := h
  have ha := asked_any h.blk at_
  have hd : d.write at_ bs = d := by unfold Dev.write; rw [if_neg hout]
  have c1 : w.cell? ⟨D, 1, none⟩ = some (.int .i64 d.size) := blk_cell h.blk 1
  have hsz := h.right.2
  by_cases he : askErr d.sectors d.down at_ = 0
  · have hne : bs.length ≠ d.size := fun e => hout ⟨he, e⟩
    have hw : writeErr d at_ bs.length = 3 := by unfold writeErr; rw [if_neg (by simpa using he), if_pos hne]
    rw [hd, hw]
    rw [he] at ha
    have HA := Lib.hid ha
    obtain ⟨a, cap, rfl, _⟩ := hu
    have e1 : ((bs.length : Int) != (d.size : Int)) = true := by simp; omega
    have s4 : (d.size : Int) ≤ 512 := by omega
    clear h ha hd hw hout he hne
    go_enter Try.func5, Try.ntmps5
    go_wp2_with (go_at_call 17; (with_reducible refine HA.out.mono ?_); rintro e w' ⟨rfl, rfl⟩)
    go_ret
    exact ⟨rfl, O, h0, Step.refl _ _⟩
  · have hw : writeErr d at_ bs.length = askErr d.sectors d.down at_ := by unfold writeErr; rw [if_pos he]
    rw [hd, hw]
    have hne : (askErr d.sectors d.down at_ != 0) = true := by simpa using he
    generalize askErr d.sectors d.down at_ = er at ha hne ⊢
    have HA := Lib.hid ha
    clear h ha hd hw hout he hu
    go_enter Try.func5, Try.ntmps5
    go_wp2_with (go_at_call 17; (with_reducible refine HA.out.mono ?_); rintro e w' ⟨rfl, rfl⟩)
    go_ret
    exact ⟨rfl, O, h0, Step.refl _ _⟩

/-- What a write leaves, told by its steps. -/
theorem write_fin {n₀ : Nat} {O : Foot} {w w1 wa w2 wb wc w5 : World} {D F P L g2 c2 g5 c5 : Nat} {lv pv gv : Value} {fm pm lm : List (Int × Value)} {d : Dev} {o3 o4 : Obj}
    (h : DevParts n₀ O w D F P L lv fm pm lm d) (hb1 : Below w.heap.size w w1) (hn : n₀ ≤ w.heap.size) (k_ : Nat) (hk : k_ < d.sectors) (bs : List (BitVec 8)) (hlen : bs.length = d.size)
    (hv : w1.ownsRow w.heap.size 5 1 gv bs.length (cellsOf bs)) (hpv : (mget pm k_).getD (.slice none 0 0) = pv) (hba : Below w1.heap.size w1 wa)
    (cs : List Value) (hcl : cs.length = (d.past k_).length) (hcs : ∀ (i : Nat) x, (d.past k_)[i]? = some x → ∃ u, cs[i]? = some u ∧ BytesIn O w u x)
    (hown2 : w2.ownsRow n₀ 30 1 (.slice (some ⟨g2, 0, none⟩) ((d.past k_).length + 1) c2) ((d.past k_).length + 1) (cs ++ [gv])) (hg2 : wa.grownBy w2 pv.ownBlock) (hat2 : pv.ownBlock = some g2 ∨ w1.heap.size ≤ g2)
    (hP3 : MapIs (w2.putObj P o3) P (mset pm k_ (.slice (some ⟨g2, 0, none⟩) ((d.past k_).length + 1) c2))) (hbb : Below (w2.putObj P o3).heap.size (w2.putObj P o3) wb)
    (hL4 : MapIs (wb.putObj L o4) L (mset lm k_ (.int .i64 (d.loose.length : Int)))) (hbc : Below (wb.putObj L o4).heap.size (wb.putObj L o4) wc)
    (ls : List Value) (hll : ls.length = d.loose.length * 2) (hls : ∀ (i : Nat) x, d.loose[i]? = some x → ls[2 * i]? = some (.int .i64 (x.1 : Int)) ∧ ∃ u, ls[2 * i + 1]? = some u ∧ BytesIn O w u x.2)
    (hown5 : w5.ownsRow n₀ 65 2 (.slice (some ⟨g5, 0, none⟩) (d.loose.length + 1) c5) (d.loose.length + 1) (ls ++ [.int .i64 (k_ : Int), gv])) (hg5 : wc.grownBy w5 lv.ownBlock) (hat5 : lv.ownBlock = some g5 ∨ w1.heap.size ≤ g5) :
    ∃ fm' pm' lm' O', DevParts n₀ O' (w5.setCell ⟨D, 4, none⟩ (.slice (some ⟨g5, 0, none⟩) (d.loose.length + 1) c5)) D F P L (.slice (some ⟨g5, 0, none⟩) (d.loose.length + 1) c5) fm' pm' lm' (d.give k_ bs) ∧
      Step O O' w (w5.setCell ⟨D, 4, none⟩ (.slice (some ⟨g5, 0, none⟩) (d.loose.length + 1) c5)) := by
  generalize hlv' : (Value.slice (some ⟨g5, 0, none⟩) (d.loose.length + 1) c5) = lv' at *
  generalize hpv' : (Value.slice (some ⟨g2, 0, none⟩) ((d.past k_).length + 1) c2) = pv' at *
  have hglv : lv'.ownBlock = some g5 := by rw [← hlv']; rfl
  have hgpv : pv'.ownBlock = some g2 := by rw [← hpv']; rfl
  have hpr : RowsIn n₀ O w pv (d.past k_) := by rw [← hpv]; exact h.pastOf k_ hk
  have lD := h.inn _ h.oD
  have lP := h.inn _ h.oP
  have lL := h.inn _ h.oL
  have llv : ∀ g, lv.ownBlock = some g → g < w.heap.size := fun g hg => by
    obtain ⟨_, _, h2, _⟩ := h.loose
    exact h.inn g (h2 g hg)
  have hpO : ∀ g, pv.ownBlock = some g → O g := by
    obtain ⟨_, _, h2, _⟩ := hpr
    exact h2
  have hlO : ∀ g, lv.ownBlock = some g → O g := by
    obtain ⟨_, _, h2, _⟩ := h.loose
    exact h2
  have hPD := dev_ne_map h h.mP
  have hLD := dev_ne_map h h.mL
  have hPL := h.apart.2.2
  have hpD := rows_ne_dev hpr h
  have hpP := rows_ne_map hpr h.mP
  have hpL := rows_ne_map hpr h.mL
  have hlD := loose_ne_dev h
  have hlP := loose_ne_map h.loose h.mP
  have hlL := loose_ne_map h.loose h.mL
  have hplv : ∀ g, pv.ownBlock = some g → lv.ownBlock ≠ some g := fun g hg => by
    obtain ⟨_, h1, _⟩ := hpr
    obtain ⟨_, h2, _⟩ := h.loose
    exact rows_apart h1 h2 (by decide) hg
  have s1 := hb1.size
  have hg2n : g2 ≠ D ∧ g2 ≠ P ∧ g2 ≠ L ∧ lv.ownBlock ≠ some g2 := by
    rcases hat2 with e | e
    · exact ⟨fun x => hpD (x ▸ e), fun x => hpP (x ▸ e), fun x => hpL (x ▸ e), hplv _ e⟩
    · exact ⟨by omega, by omega, by omega, fun x => by have := llv _ x; omega⟩
  have hg5n : g5 ≠ D := by
    rcases hat5 with e | e
    · exact fun x => hlD (x ▸ e)
    · omega
  -- the steps
  have m0 : Moves (giveX D P L pv lv) w1 wa := Moves.of_below hba
  have m1 : Moves (giveX D P L pv lv) w1 w2 := m0.trans (Moves.of_grown (S := giveX D P L pv lv) hg2 (fun j e => .inr (.inr (.inr (.inl e))))) (fun _ _ h => h)
  have n1 : Moves (fun j => j = P ∨ j = L ∨ lv.ownBlock = some j ∨ j = D) w2 (w2.putObj P o3) := (put_moves w2 P o3).mono (fun i _ e => .inl e)
  have n2 : Moves (fun j => j = L ∨ lv.ownBlock = some j ∨ j = D) (w2.putObj P o3) (wb.putObj L o4) := (Moves.of_below hbb).trans ((put_moves wb L o4).mono (T := fun j => j = L ∨ lv.ownBlock = some j ∨ j = D) (fun i _ e => .inl e)) (fun _ _ h => h)
  have n3 : Moves (fun j => lv.ownBlock = some j ∨ j = D) (wb.putObj L o4) w5 := (Moves.of_below hbc).trans (Moves.of_grown (S := fun j => lv.ownBlock = some j ∨ j = D) hg5 (fun j e => .inl e)) (fun _ _ h => h)
  have n4 : Moves (fun j => j = D) w5 (w5.setCell ⟨D, 4, none⟩ lv') := (Moves.refl (fun j => j = D) w5).setCell (p := ⟨D, 4, none⟩) (fun _ => rfl) _
  have k3 : Moves (fun j => lv.ownBlock = some j ∨ j = D) (wb.putObj L o4) (w5.setCell ⟨D, 4, none⟩ lv') := n3.trans n4 (fun _ _ e => .inr e)
  have k2 : Moves (fun j => j = L ∨ lv.ownBlock = some j ∨ j = D) (w2.putObj P o3) (w5.setCell ⟨D, 4, none⟩ lv') := n2.trans k3 (fun _ _ e => .inr e)
  have k1 : Moves (fun j => j = P ∨ j = L ∨ lv.ownBlock = some j ∨ j = D) w2 (w5.setCell ⟨D, 4, none⟩ lv') := n1.trans k2 (fun _ _ e => .inr e)
  have k0 : Moves (giveX D P L pv lv) w1 (w5.setCell ⟨D, 4, none⟩ lv') := m1.trans k1 (fun i _ e => by
    rcases e with e | e | e | e
    · exact .inr (.inl e)
    · exact .inr (.inr (.inl e))
    · exact .inr (.inr (.inr (.inr e)))
    · exact .inl e)
  have k : Moves (giveX D P L pv lv) w (w5.setCell ⟨D, 4, none⟩ lv') := (Moves.of_below hb1).trans k0 (fun _ _ h => h)
  have l2 : w2.heap.size ≤ (w2.putObj P o3).heap.size := n1.size
  have z2 := m1.size
  have z3 := k1.size
  have z4 : (wb.putObj L o4).heap.size ≤ w5.heap.size := n3.size
  have z5 := n2.size
  -- the device's own block, at w5
  have hD5 : w5.heap[D]? = w.heap[D]? := by
    have e1 : wa.heap[D]? = w.heap[D]? := (hba.block D (by omega)).trans (hb1.block D lD)
    have e2 : w2.heap[D]? = w.heap[D]? := (hg2.block D (by have := hba.size; omega) (fun e => hpD e.symm)).trans e1
    have e3 : (w2.putObj P o3).heap[D]? = w.heap[D]? := (put_other (fun e => hPD e.symm)).trans e2
    have e4 : wb.heap[D]? = w.heap[D]? := (hbb.block D (by omega)).trans e3
    have e5 : (wb.putObj L o4).heap[D]? = w.heap[D]? := (put_other (fun e => hLD e.symm)).trans e4
    have e6 : wc.heap[D]? = w.heap[D]? := (hbc.block D (by omega)).trans e5
    exact (hg5.block D (by have := hbc.size; omega) (fun e => hlD e.symm)).trans e6
  have hblk : DevBlk (w5.setCell ⟨D, 4, none⟩ lv') D d.sectors d.size F P lv' L d.armed d.acts d.down := devSet (hD5.trans h.blk) 4 _
  have hX1 : ∀ j, giveX D P L pv lv j → NoBytes w1 j := by
    have h1 := h.keep (Same.of_below (O := O) hb1 h.inn)
    have hpr1 : RowsIn n₀ O w1 pv (d.past k_) := by rw [← hpv]; exact h1.pastOf k_ hk
    intro j hj
    rcases hj with rfl | rfl | rfl | hj | hj
    · exact noBytes_dev h1
    · exact noBytes_map h1.mP
    · exact noBytes_map h1.mL
    · exact hpr1.own hj
    · exact h1.loose.own hj
  have hXw : ∀ j, giveX D P L pv lv j → NoBytes w j := by
    intro j hj
    rcases hj with rfl | rfl | rfl | hj | hj
    · exact noBytes_dev h
    · exact noBytes_map h.mP
    · exact noBytes_map h.mL
    · exact hpr.own hj
    · exact h.loose.own hj
  generalize hW : w5.setCell ⟨D, 4, none⟩ lv' = W at *
  have zW : w1.heap.size ≤ W.heap.size := k0.size
  have hO : ∀ j, O j → (fun j => O j ∨ (w.heap.size ≤ j ∧ j < W.heap.size)) j := fun j hj => .inl hj
  have hgv : BytesIn (fun j => O j ∨ (w.heap.size ≤ j ∧ j < W.heap.size)) W gv bs :=
    bytes_moves k0 hX1 (BytesIn.of_owns hv (fun j a b => .inr ⟨a, by omega⟩))
  have helem : ∀ {u : Value} {x : List (BitVec 8)}, BytesIn O w u x → BytesIn (fun j => O j ∨ (w.heap.size ≤ j ∧ j < W.heap.size)) W u x := fun hx => (bytes_moves k hXw hx).mono hO
  have hrow : RowsIn n₀ (fun j => O j ∨ (w.heap.size ≤ j ∧ j < W.heap.size)) W pv' (d.past k_ ++ [bs]) := by
    refine ⟨cs ++ [gv], ?_, fun g hg => ?_, fun i x hx => ?_⟩
    · have := k1.row hown2 (fun g hg => by
        obtain rfl : g2 = g := by rw [hgpv] at hg; simpa using hg
        exact fun e => by
          rcases e with e | e | e | e
          · exact hg2n.2.1 e
          · exact hg2n.2.2.1 e
          · exact hg2n.2.2.2 e
          · exact hg2n.1 e)
      simpa using this
    · obtain rfl : g2 = g := by rw [hgpv] at hg; simpa using hg
      rcases hat2 with e | e
      · exact .inl (hpO _ e)
      · have := (hown2.lt g2 hgpv).2
        exact .inr ⟨by omega, by omega⟩
    · by_cases hi : i < (d.past k_).length
      · rw [List.getElem?_append_left hi] at hx
        obtain ⟨u, hu, hb⟩ := hcs i x hx
        exact ⟨u, by rw [List.getElem?_append_left (by omega)]; exact hu, helem hb⟩
      · rw [List.getElem?_append_right (by omega)] at hx
        have hi0 : i - (d.past k_).length = 0 := by
          have := (List.getElem?_eq_some_iff.1 hx).1
          simp at this; omega
        rw [hi0] at hx
        have hxb : bs = x := by simpa using hx
        subst hxb
        exact ⟨gv, by rw [List.getElem?_append_right (by omega), hcl, hi0]; rfl, hgv⟩
  have hloose : LooseIn n₀ (fun j => O j ∨ (w.heap.size ≤ j ∧ j < W.heap.size)) W lv' (d.loose ++ [(k_, bs)]) := by
    refine ⟨ls ++ [.int .i64 (k_ : Int), gv], ?_, fun g hg => ?_, fun i x hx => ?_⟩
    · have := n4.row hown5 (fun g hg => by
        obtain rfl : g5 = g := by rw [hglv] at hg; simpa using hg
        exact hg5n)
      simpa using this
    · obtain rfl : g5 = g := by rw [hglv] at hg; simpa using hg
      rcases hat5 with e | e
      · exact .inl (hlO _ e)
      · have := (hown5.lt g5 hglv).2
        have := n4.size
        exact .inr ⟨by omega, by omega⟩
    · by_cases hi : i < d.loose.length
      · rw [List.getElem?_append_left hi] at hx
        obtain ⟨h0, u, hu, hb⟩ := hls i x hx
        exact ⟨by rw [List.getElem?_append_left (by omega)]; exact h0, u, by rw [List.getElem?_append_left (by omega)]; exact hu, helem hb⟩
      · rw [List.getElem?_append_right (by omega)] at hx
        have hi0 : i - d.loose.length = 0 := by
          have := (List.getElem?_eq_some_iff.1 hx).1
          simp at this; omega
        rw [hi0] at hx
        have hxb : (k_, bs) = x := by simpa using hx
        subst hxb
        have hi2 : i = d.loose.length := by omega
        subst hi2
        exact ⟨by rw [List.getElem?_append_right (by omega), hll, show 2 * d.loose.length - d.loose.length * 2 = 0 by omega]; rfl, gv, by rw [List.getElem?_append_right (by omega), hll, show 2 * d.loose.length + 1 - d.loose.length * 2 = 1 by omega]; rfl, hgv⟩
  refine ⟨fm, _, _, _, h.give k_ hk bs hlen hpv k hO (fun j hj => ?_) (fun j hj => ?_) hblk (hP3.same (k2.block P (by omega) (fun e => ?_))) (hL4.same (k3.block L (by omega) (fun e => ?_))) hrow ?_ hloose, ⟨?_, ?_⟩⟩
  · rcases hj with hj | hj
    · have := h.inn j hj; omega
    · exact hj.2
  · rcases hj with hj | hj
    · exact h.lo j hj
    · omega
  · rcases e with e | e | e
    · exact hPL e
    · exact hlP e
    · exact hPD e
  · rcases e with e | e
    · exact hlL e
    · exact hLD e
  · rcases hat2 with e | e
    · exact .inl (hgpv.trans e.symm)
    · exact .inr fun g hg => by
        obtain rfl : g2 = g := by rw [hgpv] at hg; simpa using hg
        omega
  · exact k.mono (fun i _ e => by
      rcases e with rfl | rfl | rfl | e | e
      · exact h.oD
      · exact h.oP
      · exact h.oL
      · exact hpO _ e
      · exact hlO _ e)
  · exact fun j hj => hj.imp id (fun e => e.1)

theorem write_end {n₀ : Nat} {O : Foot} {w w1 w2 W3 W4 w5 : World} {D F P L g2 c2 g5 c5 pn cl3 cl4 : Nat} {lv pv gv : Value} {fm pm lm : List (Int × Value)} {d : Dev} {es3 es4 : Array MapEntry} {r : Int} {t1 t2 : TypeId} {x1 x2 : Array Value}
    (h : DevParts n₀ O w D F P L lv fm pm lm d) (hb1 : Below w.heap.size w w1) (hn : n₀ ≤ w.heap.size) (k : Nat) (hk : k < d.sectors) (bs : List (BitVec 8)) (hlen : bs.length = d.size)
    (hv : w1.ownsRow w.heap.size 5 1 gv d.size (cellsOf bs)) (hpv : (mget pm k).getD (.slice none 0 0) = pv)
    (cs : List Value) (hcl : cs.length = pn) (hpn : (d.past k).length = pn) (hcs : ∀ (i : Nat) x, (d.past k)[i]? = some x → ∃ u, cs[i]? = some u ∧ BytesIn O w u x)
    (hown2 : w2.ownsRow n₀ 30 1 (.slice (some ⟨g2, 0, none⟩) (pn + 1) c2) (pn + 1) (cs ++ [gv])) (hg2 : ((w1.alloc (.cells x1 t1)).drew).grownBy w2 pv.ownBlock) (hat2 : pv.ownBlock = some g2 ∨ g2 = w1.heap.size + 1)
    (hP3 : MapIs W3 P (mset pm k (.slice (some ⟨g2, 0, none⟩) (pn + 1) c2))) (hW3 : w2.putObj P (.map es3 cl3) = W3)
    (hL4 : MapIs W4 L (mset lm k (.int .i64 (d.loose.length : Int)))) (hW4 : W3.drew.putObj L (.map es4 cl4) = W4)
    (ls : List Value) (hll : ls.length = d.loose.length * 2) (hls : ∀ (i : Nat) x, d.loose[i]? = some x → ls[2 * i]? = some (.int .i64 (x.1 : Int)) ∧ ∃ u, ls[2 * i + 1]? = some u ∧ BytesIn O w u x.2)
    (hown5 : w5.ownsRow n₀ 65 2 (.slice (some ⟨g5, 0, none⟩) (d.loose.length + 1) c5) (d.loose.length + 1) (ls ++ [.int .i64 (k : Int), gv])) (hg5 : (W4.alloc (.cells x2 t2)).grownBy w5 lv.ownBlock) (hat5 : lv.ownBlock = some g5 ∨ g5 = W4.heap.size + 1) (hz : w1.heap.size ≤ W4.heap.size)
    (h2 : d.acts < 9223372036854775807) (h3 : d.armed ≤ 9223372036854775807) (hr : (if d.armed = 1 then (4 : Int) else 0) = r) :
    Calls Try.prog 19 #[.pointer (some ⟨D, 0, none⟩)] (w5.setCell ⟨D, 4, none⟩ (.slice (some ⟨g5, 0, none⟩) (d.loose.length + 1) c5)) (DevLeft n₀ O w D ((d.give k bs).act) (.int .i64 r)) := by
  subst hpn hW3 hW4
  obtain ⟨fm', pm', lm', O', hp, hs⟩ := write_fin h hb1 hn k hk bs hlen (by rw [hlen]; exact hv) hpv (((Below.refl _ w1).alloc (Nat.le_refl _) _).drew) cs hcl hcs hown2 hg2 (hat2.imp id (fun e => by omega)) hP3 ((Below.refl _ _).drew) hL4 ((Below.refl _ _).alloc (Nat.le_refl _) _) ls hll hls hown5 hg5 (hat5.imp id (fun e => by omega))
  refine (act_parts hp h2 h3).mono ?_
  rintro e w' ⟨he, hp2, hm⟩
  refine ⟨by rw [he, ← hr]; rfl, O', ⟨_, _, _, _, _, _, _, hp2⟩, ⟨hs.moves.trans hm (fun i hi e => ?_), hs.own⟩⟩
  rw [e]; exact h.oD

set_option maxRecDepth 100000 in
set_option maxHeartbeats 4000000 in
theorem write_in (n₀ : Nat) (O : Foot) (w : World) (D : Nat) (d : Dev) (h : DevAt n₀ O w D d) (k : Nat) (u : Value) (bs : List (BitVec 8)) (hu : BytesAt w.heap.size w u bs) (hn : n₀ ≤ w.heap.size) (hin : askErr d.sectors d.down k = 0) (hlen : bs.length = d.size)
    (h2 : d.acts < 9223372036854775807) (h3 : d.armed ≤ 9223372036854775807) (hll : d.loose.length ≤ 65536) (hpl : (d.past k).length ≤ 65536) :
    Calls Try.prog 5 #[.pointer (some ⟨D, 0, none⟩), .int .i64 k, u] w (DevLeft n₀ O w D ((d.give k bs).act) (.int .i64 (if d.armed = 1 then 4 else 0))) := by
  obtain ⟨F, P, L, lv, fm, pm, lm, h⟩ := h
  have hk : k < d.sectors := by
    unfold askErr at hin
    split at hin
    · cases hin
    · split at hin
      · omega
      · cases hin
  have ha := asked_any h.blk k
  rw [hin] at ha
  have HA := Lib.hid ha
  have hsz := h.right.2
  have HC := Lib.hid (clone_any w.heap.size u bs w hu (Nat.le_refl _) (by omega))
  have c1 : w.cell? ⟨D, 1, none⟩ = some (.int .i64 d.size) := blk_cell h.blk 1
  obtain ⟨a, cap, rfl, _⟩ := hu
  rw [hlen] at HC ⊢
  obtain ⟨ls, hlrow, hlO, hlcells⟩ := h.loose
  obtain ⟨la, lc, rfl⟩ := owns_slice hlrow
  have H := Lib.hid h
  have HLEN := Lib.hid hlen
  have HLROW := Lib.hid hlrow
  have HLCELLS := Lib.hid hlcells
  have hl1 : (d.loose.length : Int) ≤ 65536 := by omega
  clear hlrow hlO hlcells
  obtain ⟨r, hr⟩ : ∃ r : Int, (if d.armed = 1 then (4 : Int) else 0) = r := ⟨_, rfl⟩
  rw [hr]
  have HR := Lib.hid hr
  have s4 : (d.size : Int) ≤ 512 := by omega
  clear hr hlen
  obtain ⟨iR, hR, hR0, hR1, hR2⟩ := info_parts Try.infoRow
  obtain ⟨iW, hW, hW0, hW1, hW2⟩ := info_parts Try.infoWrite
  clear h ha hin
  go_enter Try.func5, Try.ntmps5
  go_upto_region 7 with (first
    | (go_at_call 17; (with_reducible refine HA.out.mono ?_); rintro e w' ⟨rfl, rfl⟩)
    | (go_at_call 18; (with_reducible refine HC.out.mono ?_); rintro e w1 ⟨v, rfl, hv, hb⟩))
  have h1 := H.out.keep (Same.of_below (O := O) hb H.out.inn)
  obtain ⟨pv, hpv⟩ : ∃ pv, (mget pm k).getD (.slice none 0 0) = pv := ⟨_, rfl⟩
  have hpr := h1.pastOf k hk
  rw [hpv] at hpr
  have hPD := dev_ne_map h1 h1.mP
  have hDp := rows_ne_dev hpr h1
  have hPp := rows_ne_map hpr h1.mP
  have hLp := rows_ne_map hpr h1.mL
  have hPL := h1.apart.2.2
  have hLD := dev_ne_map h1 h1.mL
  have lL : L < w1.heap.size := h1.inn _ h1.oL
  have hpr0 := H.out.pastOf k hk
  rw [hpv] at hpr0
  obtain ⟨cs, hrow0, _, hcells⟩ := hpr0
  have hrow := (Moves.of_below (S := fun _ => False) hb).row hrow0 (fun _ _ h => h)
  obtain ⟨av, cv, rfl⟩ := owns_slice hv
  have lD : D < w1.heap.size := h1.inn _ h1.oD
  have lP : P < w1.heap.size := h1.inn _ h1.oP
  have HK : Hid (∀ W : World, W.heap[D]? = w1.heap[D]? → W.heap[P]? = w1.heap[P]? → W.cell? ⟨D, 3, none⟩ = some (.map (some P)) ∧ (Instr.lookup 55 (.map (some P)) (.int .i64 (k : Int)) false).run Try.prog W = .ok pv W) := by
    intro W hD hP
    refine ⟨?_, ?_⟩
    · have : DevBlk W D d.sectors d.size F P (.slice la d.loose.length lc) L d.armed d.acts d.down := hD.trans h1.blk
      exact blk_cell this 3
    · have hm := h1.mP.same hP
      have := run_lookup_int (P := Try.prog) Try.underlying55 Try.underlying3 hm (k : Int) _ (zeroRows W) false
      simpa [hpv] using this
  have H1 := Lib.hid h1
  have HROW := Lib.hid hrow
  have HCELLS := Lib.hid hcells
  have HV := Lib.hid hv
  have HB := Lib.hid hb
  have HPV := Lib.hid hpv
  have HLL : Hid (ls.length = d.loose.length * 2) := HLROW.out.1
  have HLD : Hid ((Value.slice la d.loose.length lc).ownBlock ≠ some D) := loose_ne_dev H.out
  have HPLV : Hid (∀ g, pv.ownBlock = some g → (Value.slice la d.loose.length lc).ownBlock ≠ some g) := fun g hg => rows_apart hrow0 HLROW.out (by decide) hg
  have HCL : Hid (cs.length = (d.past k).length) := by have := hrow.1; unfold Hid; omega
  obtain ⟨pn, hpn⟩ : ∃ pn, (d.past k).length = pn := ⟨_, rfl⟩
  rw [hpn] at HROW HCL hpl
  have HPN := Lib.hid hpn
  clear hrow hrow0 hcells hv h1 hpr hpv hpn hb
  have hnb : n₀ ≤ w1.heap.size := Nat.le_trans hn HB.out.size
  have hlkA := (HK.out w1.drew rfl rfl).2
  have hlkB := (HK.out (w1.alloc (.cells #[.slice av d.size cv] 30)).drew (Below.heap_alloc _ _ _ lD) (Below.heap_alloc _ _ _ lP)).2
  go_region_held3 (fun W => W.cell? ⟨D, 3, none⟩ = some (.map (some P)))
    (first
      | (exact (HK.out _ rfl rfl).1)
      | (exact (HK.out _ (Below.heap_alloc _ _ _ lD) (Below.heap_alloc _ _ _ lP)).1)
      | (exact (blk_cell hD2b 3))
      | (exact (blk_cell hD3b 3)))
    ((refine step_append_lies _ (by rfl) _ _ 50 (by rfl) n₀ 30 iR _ 1 24 Try.underlying50 hR hR0 hR1 hR2 rfl (by omega) pv pn cs (by rfl) ((HROW.out.alloc _).drew)
        ⟨w1.heap.size, 0, none⟩ 1 1 [.slice av d.size cv] (by rfl) (by rfl) (World.news_of_block (cs := #[.slice av d.size cv]) (t := 30) (fr := (0, 0)) (heap_alloc_new w1 _)) (by simp [Value.oneCell'])
        (by omega) (by unfold maxLen; omega) (by omega) (by simp <;> omega) (w1.heap.size + 1) (by simp) ?_; intro g2 c2 w2 hown2 hgrow2 hat2 hlt2; have hD2 : w2.heap[D]? = w1.heap[D]? := (hgrow2.block D (by simp <;> omega) (fun e => hDp e.symm)).trans (Below.heap_alloc _ _ _ lD); have hP2 : w2.heap[P]? = w1.heap[P]? := (hgrow2.block P (by simp <;> omega) (fun e => hPp e.symm)).trans (Below.heap_alloc _ _ _ lP); have hD2b : DevBlk w2 D d.sectors d.size F P (.slice la d.loose.length lc) L d.armed d.acts d.down := hD2.trans H1.out.blk; obtain ⟨es3, cl3, hup3, hP3⟩ := run_mapUpdate_int (P := Try.prog) Try.underlying55 Try.underlying3 (H1.out.mP.same hP2) (k : Int) (.slice (some ⟨g2, 0, none⟩) (pn + 1) c2); have hD3b : DevBlk (w2.putObj P (.map es3 cl3)) D d.sectors d.size F P (.slice la d.loose.length lc) L d.armed d.acts d.down := (put_other hPD.symm).trans hD2b))
  all_goals
    go_upto_region 8 with (fail)
    have hL2 : w2.heap[L]? = w1.heap[L]? := (hgrow2.block L (by simp; omega) (fun e => hLp e.symm)).trans (Below.heap_alloc _ _ _ lL)
    have hL3 : MapIs (w2.putObj P (.map es3 cl3)) L lm := (H1.out.mL.same hL2).same (put_other hPL.symm)
    have HD3 := Lib.hid hD3b
    have HP3 := Lib.hid hP3
    obtain ⟨W3, hW3⟩ : ∃ W3, w2.putObj P (.map es3 cl3) = W3 := ⟨_, rfl⟩
    rw [hW3] at HD3 HP3 hL3 ⊢
    have HW3 := Lib.hid hW3
    clear hup3 hP3 hD2b hD3b hlkA hlkB hW3 hD2 hP2
    have c5 : W3.cell? ⟨D, 5, none⟩ = some (.map (some L)) := blk_cell HD3.out 5
    have c4 : W3.cell? ⟨D, 4, none⟩ = some (.slice la d.loose.length lc) := blk_cell HD3.out 4
    obtain ⟨es4, cl4, hup4, hL4⟩ := run_mapUpdate_int (P := Try.prog) (w := W3.drew) Try.underlying56 Try.underlying3 (hL3.same rfl) (k : Int) (.int .i64 (d.loose.length : Int))
    have HD4 : Hid (DevBlk (W3.drew.putObj L (.map es4 cl4)) D d.sectors d.size F P (.slice la d.loose.length lc) L d.armed d.acts d.down) := (put_other hLD.symm).trans HD3.out
    go_region_held3 (fun W => W.cell? ⟨D, 5, none⟩ = some (.map (some L)) ∧ W.cell? ⟨D, 4, none⟩ = some (.slice la d.loose.length lc)) (first | exact ⟨c5, c4⟩ | exact ⟨blk_cell HD4.out 5, blk_cell HD4.out 4⟩) ((fail))
    go_upto_region 9 with (fail)
    have M2 : Moves (fun j => pv.ownBlock = some j ∨ j = P ∨ j = L) w w2 := ((((Moves.of_below (S := fun j => pv.ownBlock = some j ∨ j = P ∨ j = L) HB.out)).alloc _).drew).trans (Moves.of_grown (S := fun j => pv.ownBlock = some j ∨ j = P ∨ j = L) hgrow2 (fun j e => .inl e)) (fun _ _ h => h)
    have M3 := M2.trans ((put_moves w2 P (.map es3 cl3)).mono (T := fun j => pv.ownBlock = some j ∨ j = P ∨ j = L) (fun i _ e => .inr (.inl e))) (fun _ _ h => h)
    rw [HW3.out] at M3
    have M4 := M3.drew.trans ((put_moves W3.drew L (.map es4 cl4)).mono (T := fun j => pv.ownBlock = some j ∨ j = P ∨ j = L) (fun i _ e => .inr (.inr e))) (fun _ _ h => h)
    have hlr4 := M4.row HLROW.out (fun g hg hx => by
      rcases hx with hx | rfl | rfl
      · exact HPLV.out g hx hg
      · exact loose_ne_map H.out.loose H.out.mP hg
      · exact loose_ne_map H.out.loose H.out.mL hg)
    have zz : w1.heap.size ≤ (W3.drew.putObj L (.map es4 cl4)).heap.size := by
      have e1 : w1.heap.size ≤ w2.heap.size := by have := hgrow2.size; simp at this; omega
      have e2 : w2.heap.size ≤ W3.heap.size := by rw [← HW3.out, put_size]; exact Nat.le_refl _
      rw [put_size]
      exact Nat.le_trans e1 e2
    have zn : n₀ ≤ (W3.drew.putObj L (.map es4 cl4)).heap.size := Nat.le_trans hnb zz
    have HL4 := Lib.hid hL4
    have HR4 := Lib.hid hlr4
    obtain ⟨W4, hW4⟩ : ∃ W4, W3.drew.putObj L (.map es4 cl4) = W4 := ⟨_, rfl⟩
    rw [hW4] at HD4 HL4 HR4 zz zn ⊢
    have HW4 := Lib.hid hW4
    clear M2 M3 M4 hlr4 hL4 hW4 hup4 c4 c5 hL3
    have d4 : W4.cell? ⟨D, 4, none⟩ = some (.slice la d.loose.length lc) := blk_cell HD4.out 4
    have lD4 : D < W4.heap.size := Nat.lt_of_lt_of_le lD zz
    have h1w : ∀ u ∈ [Value.int .i64 (k : Int), Value.slice av d.size cv], u.oneCell' = true := by simp [Value.oneCell']
    have hlml : d.loose.length + 1 ≤ maxLen := by unfold maxLen; omega
    have hs4 : n₀ ≤ (W4.alloc (.cells #[.int .i64 (k : Int), .slice av d.size cv] 65)).heap.size := by simp; omega
    go_wp2_with (first
      | (at_builtin; go_must (refine wpList_append_lies _ rfl (.tmp 52) (.tmp 57) 57 rfl n₀ 65 iW _ 2 32 Try.underlying57 hW hW0 hW1 hW2 rfl (by omega) _ d.loose.length ls rfl (HR4.out.alloc _) ⟨W4.heap.size, 0, none⟩ 1 1 [.int .i64 (k : Int), .slice av d.size cv] rfl rfl (World.news_of_block (cs := #[.int .i64 (k : Int), .slice av d.size cv]) (t := 65) (fr := (0, 0)) (heap_alloc_new W4 _)) h1w (by omega) hlml (by omega) hs4 (W4.heap.size + 1) (by simp) ?_); intro g5 q5 w5 hown5 hgrow5 hat5 hlt5; have hD5 : DevBlk w5 D d.sectors d.size F P (.slice la d.loose.length lc) L d.armed d.acts d.down := ((hgrow5.block D (by simp; omega) (fun e => HLD.out e.symm)).trans (Below.heap_alloc _ _ _ lD4)).trans HD4.out; have d5 := blk_cell hD5 4; have f5 := blk_frozen hD5 4; have HFIN := Lib.hid (write_end H.out HB.out hn k hk bs HLEN.out HV.out HPV.out cs HCL.out HPN.out HCELLS.out hown2 hgrow2 hat2 HP3.out HW3.out HL4.out HW4.out ls HLL.out HLCELLS.out hown5 hgrow5 hat5 zz h2 h3 HR.out); clear hown5 hgrow5 hat5 hD5)
      | (go_at_call 19; (with_reducible refine HFIN.out.mono ?_); rintro e w7 ⟨rfl, O', hd7, hs7⟩))
    go_ret
    exact ⟨rfl, O', hd7, hs7⟩

theorem write_any (n₀ : Nat) (O : Foot) (w : World) (D : Nat) (d : Dev) (h : DevAt n₀ O w D d) (at_ : Int) (u : Value) (bs : List (BitVec 8)) (hu : BytesAt w.heap.size w u bs) (hn : n₀ ≤ w.heap.size)
    (h2 : d.acts < 9223372036854775807) (h3 : d.armed ≤ 9223372036854775807) (hll : d.loose.length ≤ 65536) (hpl : ∀ k, (d.past k).length ≤ 65536) :
    Calls Try.prog 5 #[.pointer (some ⟨D, 0, none⟩), .int .i64 at_, u] w (DevLeft n₀ O w D (d.write at_ bs) (.int .i64 (writeErr d at_ bs.length))) := by
  by_cases hin : askErr d.sectors d.down at_ = 0 ∧ bs.length = d.size
  · have hd : d.write at_ bs = (d.give at_.toNat bs).act := by unfold Dev.write; rw [if_pos hin]
    have he : writeErr d at_ bs.length = if d.armed = 1 then 4 else 0 := by unfold writeErr; rw [if_neg (by simpa using hin.1), if_neg (by simpa using hin.2)]
    rw [hd, he]
    have h0 : 0 ≤ at_ := by
      have := hin.1
      unfold askErr at this
      split at this
      · cases this
      · split at this
        · omega
        · cases this
    obtain ⟨k, rfl⟩ := Int.eq_ofNat_of_zero_le h0
    exact write_in n₀ O w D d h k u bs hu hn hin.1 hin.2 h2 h3 hll (hpl k)
  · exact write_out n₀ O w D d h at_ u bs hu hin

end Go.Proofs.Ytiibpkncdflfcaa
namespace Go.Proofs.Ytiibpkncdflfcaa
open Go.RowKit

/-- A row of numbers in a block that is none of O. -/
def IntsOff (O : Foot) (w : World) (v : Value) (fs : List Int) : Prop :=
  ∃ a cap, v = .slice a fs.length cap ∧ (fs = [] ∨ ∃ g off, a = some ⟨g, off, none⟩ ∧ g < w.heap.size ∧ ¬ O g ∧ ∀ j, j < fs.length → w.cell? ⟨g, off + j, none⟩ = some (.int .i64 (fs[j]?.getD 0)))
theorem IntsOff.nil (O : Foot) (w : World) : IntsOff O w (.slice none 0 0) [] := ⟨none, 0, rfl, .inl rfl⟩

/-- The beginning of a loose write done. -/
def Dev.patch (d : Dev) (x : (Nat × List (BitVec 8)) × Int) : Dev := d.put x.1.1 (x.1.2.take (doneOf d.size x.2) ++ (d.fast x.1.1).drop (doneOf d.size x.2))
def Dev.patches (d : Dev) (l : List ((Nat × List (BitVec 8)) × Int)) : Dev := l.foldl Dev.patch d
theorem patches_snoc (d : Dev) (l : List ((Nat × List (BitVec 8)) × Int)) (x : (Nat × List (BitVec 8)) × Int) : d.patches (l ++ [x]) = (d.patches l).patch x := by simp [Dev.patches]
theorem patches_same (d : Dev) (l : List ((Nat × List (BitVec 8)) × Int)) : (d.patches l).loose = d.loose ∧ (d.patches l).sectors = d.sectors ∧ (d.patches l).size = d.size ∧ (d.patches l).past = d.past ∧ (d.patches l).armed = d.armed ∧ (d.patches l).acts = d.acts ∧ (d.patches l).down = d.down := by
  induction l generalizing d with
  | nil => exact ⟨rfl, rfl, rfl, rfl, rfl, rfl, rfl⟩
  | cons y l ih => exact ih _
/-- A crash. -/
def Dev.crash (d : Dev) (fs : List Int) : Dev := { ((d.patches (d.loose.zip fs)).forget) with armed := 0, down := false }

theorem own_splice {w w3 : World} {base g n cap : Nat} {bs xs : List (BitVec 8)} {cur : Array Value} (h : w.ownsRow base 5 1 (.slice (some ⟨g, 0, none⟩) n cap) n (cellsOf bs)) (hg : w.heap[g]? = some (.cells cur 5 (0, 0)))
    (h3 : w3.heap[g]? = some (.cells (splice cur.toList 0 (cellsOf xs)).toArray 5 (0, 0))) (hx : xs.length ≤ n) : w3.ownsRow base 5 1 (.slice (some ⟨g, 0, none⟩) n cap) n (cellsOf (xs ++ bs.drop xs.length)) := by
  obtain ⟨h1, h2⟩ := h
  rcases h2 with ⟨h2, _⟩ | ⟨g', cap', cur', hv, hb, hg', hn, hc, hs, ht⟩
  · cases h2
  · simp only [Value.slice.injEq, Option.some.injEq, Addr.mk.injEq] at hv
    obtain ⟨⟨rfl, _⟩, _, rfl⟩ := hv
    rw [hg] at hg'
    simp only [Option.some.injEq, Obj.cells.injEq, and_true] at hg'
    subst hg'
    rw [cellsOf_len] at h1
    have hbl : bs.length = n := by omega
    have hcs : cur.toList.length = cap := by simpa using hs
    refine ⟨by rw [cellsOf_len, List.length_append, List.length_drop]; omega, .inr ⟨g, cap, _, rfl, hb, h3, hn, hc, ?_, ?_⟩⟩
    · simp only [List.size_toArray]
      rw [length_splice _ _ _ (by rw [cellsOf_len]; omega)]
      omega
    · show (splice cur.toList 0 (cellsOf xs)).take (n * 1) = _
      unfold splice
      rw [List.take_zero, List.nil_append, Nat.zero_add, cellsOf_len, cellsOf_append, Nat.mul_one, List.take_append, cellsOf_len, List.take_of_length_le (by rw [cellsOf_len]; exact hx)]
      congr 1
      rw [← List.drop_take, show cellsOf (bs.drop xs.length) = (cellsOf bs).drop xs.length by simp [cellsOf, List.map_drop], ← ht, Nat.mul_one]
theorem sizeU8 : (Try.prog.info? 5).map (·.size) = some 1 := by kernel_rfl
theorem own_block {w : World} {base g n cap size : Nat} {e : TypeId} {xs : List Value} (h : w.ownsRow base e size (.slice (some ⟨g, 0, none⟩) n cap) n xs) : ∃ cur, w.heap[g]? = some (.cells cur e (0, 0)) ∧ base ≤ g ∧ n ≤ cap ∧ cur.size = cap * size := by
  rcases h.2 with ⟨h2, _⟩ | ⟨g', cap', cur', hv, hb, hg', hn, hc, hs, ht⟩
  · cases h2
  · simp only [Value.slice.injEq, Option.some.injEq, Addr.mk.injEq] at hv
    obtain ⟨⟨rfl, _⟩, _, rfl⟩ := hv
    exact ⟨cur', hg', hb, hn, hs⟩

/-- The last two stores. -/
theorem crash_end {n₀ : Nat} {O O2 : Foot} {w w2 : World} {D : Nat} {d : Dev} (h : DevAt n₀ O2 w2 D d) (hs : Step O O2 w w2) : ∀ e W, e = Ending.returned (.tuple #[]) → W = (w2.setCell ⟨D, 6, none⟩ (.int .i64 0)).setCell ⟨D, 8, none⟩ (.bool false) → DevLeft n₀ O w D { d with armed := 0, down := false } (.tuple #[]) e W := by
  rintro e W rfl rfl
  obtain ⟨F, P, L, lv, fm, pm, lm, h⟩ := h
  have hm : Moves (fun k => k = D) w2 ((w2.setCell ⟨D, 6, none⟩ (.int .i64 0)).setCell ⟨D, 8, none⟩ (.bool false)) := ((Moves.refl (fun k => k = D) w2).setCell (p := ⟨D, 6, none⟩) (fun _ => rfl) _).setCell (p := ⟨D, 8, none⟩) (fun _ => rfl) _
  have h2 := h.turn hm 0 d.acts false (devSet (devSet h.blk 6 _) 8 _)
  exact ⟨rfl, O2, ⟨F, P, L, lv, fm, pm, lm, h2⟩, hs.trans ⟨hm.mono (fun i _ e => by rw [e]; exact h.oD), fun _ hk => .inl hk⟩⟩

theorem zip_take_succ {α β : Type} (l : List α) (m : List β) (k : Nat) (x : α) (y : β) (hx : l[k]? = some x) (hy : m[k]? = some y) : (l.zip m).take (k + 1) = (l.zip m).take k ++ [(x, y)] := by
  have h1 := (List.getElem?_eq_some_iff.1 hx)
  have h2 := (List.getElem?_eq_some_iff.1 hy)
  obtain ⟨h1, rfl⟩ := h1
  obtain ⟨h2, rfl⟩ := h2
  rw [List.take_succ_eq_append_getElem (by simp; omega)]
  simp

/-- Between two rounds of a crash. -/
def CrashAt (n₀ : Nat) (O : Foot) (w : World) (D F P L : Nat) (lv : Value) (pm lm : List (Int × Value)) (d : Dev) (fs : List Int) (k : Nat) (wr : World) : Prop :=
  ∃ O' fm', DevParts n₀ O' wr D F P L lv fm' pm lm (d.patches ((d.loose.zip fs).take k)) ∧ Step O O' w wr

/-- A round's end. -/
theorem crash_step {n₀ : Nat} {O O' : Foot} {w wr w3 : World} {D F P L : Nat} {lv : Value} {fm pm lm : List (Int × Value)} {d : Dev} {fs : List Int} {k g cap : Nat} {x : Nat × List (BitVec 8)} {f : Int} {cur : Array Value} {wB : World}
    (h : DevParts n₀ O' wr D F P L lv fm pm lm (d.patches ((d.loose.zip fs).take k))) (hs : Step O O' w wr) (hn : n₀ ≤ wr.heap.size) (hx : d.loose[k]? = some x) (hf : fs[k]? = some f)
    {b0 : Nat} (hb0 : wr.heap.size ≤ b0) (hrow : wB.ownsRow b0 5 1 (.slice (some ⟨g, 0, none⟩) d.size cap) d.size (cellsOf ((d.patches ((d.loose.zip fs).take k)).fast x.1))) (hg : wB.heap[g]? = some (.cells cur 5 (0, 0)))
    (h3 : w3.heap[g]? = some (.cells (splice cur.toList 0 (cellsOf (x.2.take (doneOf d.size f)))).toArray 5 (0, 0))) (hb : Below wr.heap.size wr w3) :
    Calls Try.prog 26 #[.pointer (some ⟨D, 0, none⟩), .int .i64 (x.1 : Int), .slice (some ⟨g, 0, none⟩) d.size cap] w3 fun e w' => e = .returned (.tuple #[]) ∧ CrashAt n₀ O w D F P L lv pm lm d fs (k + 1) w' ∧ wr.heap.size ≤ w'.heap.size := by
  have hsame := patches_same d ((d.loose.zip fs).take k)
  have hl : (d.patches ((d.loose.zip fs).take k)).loose = d.loose := hsame.1
  have hz : (d.patches ((d.loose.zip fs).take k)).size = d.size := hsame.2.2.1
  have hxs := h.llen x (by rw [hl]; exact List.mem_of_getElem? hx)
  rw [hz] at hxs
  have hle := doneOf_le d.size f
  have htl : (x.2.take (doneOf d.size f)).length = doneOf d.size f := by rw [List.length_take]; omega
  have hr := own_splice hrow hg h3 (by rw [htl]; exact hle)
  rw [htl] at hr
  have hlen : (x.2.take (doneOf d.size f) ++ ((d.patches ((d.loose.zip fs).take k)).fast x.1).drop (doneOf d.size f)).length = d.size := by
    have := h.len x.1
    rw [List.length_append, htl, List.length_drop, this, hz]; omega
  have hsz := hb.size
  have hd := (h.keep (Same.of_below hb h.inn)).widen (Q := fun j => O' j ∨ (wr.heap.size ≤ j ∧ j < w3.heap.size)) (fun _ h => .inl h) (fun j hj => hj.elim (fun e => by have := h.inn j e; omega) (fun e => e.2)) (fun j hj => hj.elim (h.lo j) (fun e => by omega))
  have hbi : BytesIn (fun j => O' j ∨ (wr.heap.size ≤ j ∧ j < w3.heap.size)) w3 (.slice (some ⟨g, 0, none⟩) d.size cap) (x.2.take (doneOf d.size f) ++ ((d.patches ((d.loose.zip fs).take k)).fast x.1).drop (doneOf d.size f)) := by
    refine BytesIn.of_owns (base := b0) ?_ (fun j h1 h2 => .inr ⟨by omega, h2⟩)
    rw [hlen]; exact hr
  refine (setFast_parts hd x.1 hxs.1 _ _ hbi (by rw [hlen, hz])).mono ?_
  rintro e w' ⟨he, ⟨fm2, hp2⟩, hm2⟩
  refine ⟨he, ⟨(fun j => O' j ∨ (wr.heap.size ≤ j ∧ j < w3.heap.size)), fm2, ?_, hs.trans ⟨?_, ?_⟩⟩, Nat.le_trans hsz hm2.size⟩
  · rw [zip_take_succ _ _ k x f hx hf, patches_snoc]
    unfold Dev.patch
    rw [hz]
    exact hp2
  · exact (Moves.of_below (S := O') hb).trans hm2 (fun i hi e => by rw [e]; exact h.oF)
  · exact fun j hj => hj.imp id (fun e => e.1)

set_option maxRecDepth 100000 in
set_option maxHeartbeats 4000000 in
theorem crash_any (n₀ : Nat) (O : Foot) (w : World) (D : Nat) (d : Dev) (h : DevAt n₀ O w D d) (u : Value) (fs : List Int) (hu : IntsOff O w u fs) (hn : n₀ ≤ w.heap.size) (hll : d.loose.length ≤ 1099511627776) (hfl : fs.length ≤ 1099511627776) :
    Calls Try.prog 9 #[.pointer (some ⟨D, 0, none⟩), u] w (DevLeft n₀ O w D (d.crash fs) (.tuple #[])) := by
  obtain ⟨F, P, L, lv, fm, pm, lm, h⟩ := h
  obtain ⟨ls, hlrow, _, _⟩ := h.loose
  obtain ⟨la, lc, hlv⟩ := owns_slice hlrow
  have c4 : w.cell? ⟨D, 4, none⟩ = some (.slice la d.loose.length lc) := by rw [← hlv]; exact blk_cell h.blk 4
  have hin := h.inn
  obtain ⟨fa, fc, rfl, hfs⟩ := hu
  have l1 : (d.loose.length : Int) ≤ 1099511627776 := by omega
  have l2 : (fs.length : Int) ≤ 1099511627776 := by omega
  have HIN := Lib.hid hin
  have HLV := Lib.hid hlv
  have hst : CrashAt n₀ O w D F P L lv pm lm d fs 0 w := ⟨O, fm, by simpa [Dev.patches] using h, Step.refl _ _⟩
  have HST := Lib.hid hst
  have HFIN : Hid (∀ k wr, CrashAt n₀ O w D F P L lv pm lm d fs k wr → (d.loose.length ≤ k ∨ fs.length ≤ k) → ∀ W, Below wr.heap.size wr W → Calls Try.prog 27 #[.pointer (some ⟨D, 0, none⟩)] W fun e w2 => e = .returned (.tuple #[]) ∧ ∃ O2, DevAt n₀ O2 w2 D ((d.patches (d.loose.zip fs)).forget) ∧ Step O O2 w w2) := by
    rintro k wr ⟨O', fm', hp, hs⟩ hk W hW
    have e1 : (d.loose.zip fs).take k = d.loose.zip fs := List.take_of_length_le (by rw [List.length_zip]; omega)
    rw [e1] at hp
    refine (forget_any n₀ O' W D _ ⟨F, P, L, lv, fm', pm, lm, hp.keep (Same.of_below hW hp.inn)⟩).mono ?_
    rintro e w2 ⟨he, hd, hs2⟩
    exact ⟨he, O', hd, hs.trans (Step.behind hW hs2)⟩
  clear h hlrow hlv hin hst
  go_enter Try.func9, Try.ntmps9
  go_wp2
  go_loopw [14] (fun iv wr => ∃ k : Nat, k ≤ d.loose.length ∧ k ≤ fs.length ∧ iv = .int .i64 k ∧ CrashAt n₀ O w D F P L lv pm lm d fs k wr ∧ w.heap.size ≤ wr.heap.size) (fun iv _ => d.loose.length - (intOf iv).toNat)
  case atStart => exact ⟨0, Nat.zero_le _, Nat.zero_le _, rfl, HST.out, Nat.le_refl _⟩
  case round =>
    obtain ⟨k, hk, hkf, rfl, hC, hsz⟩ := hrel
    by_cases hlt : k < d.loose.length
    · have HC := Lib.hid hC
      obtain ⟨O', fm', hp, hs⟩ := hC
      have hsame := patches_same d ((d.loose.zip fs).take k)
      have hdl : (d.patches ((d.loose.zip fs).take k)).loose = d.loose := hsame.1
      have hdz : (d.patches ((d.loose.zip fs).take k)).size = d.size := hsame.2.2.1
      have hds : (d.patches ((d.loose.zip fs).take k)).sectors = d.sectors := hsame.2.1
      obtain ⟨cs, hrow, _, hcells⟩ := hp.loose
      rw [hdl] at hrow hcells
      obtain ⟨x, hx⟩ : ∃ x, d.loose[k]? = some x := ⟨d.loose[k], by simp [hlt]⟩
      obtain ⟨hc0, u, hu, hub⟩ := hcells k x hx
      have hxs := hp.llen x (by rw [hdl]; exact List.mem_of_getElem? hx)
      obtain ⟨g, cap, hg, _⟩ := slice_cells hrow (by omega)
      have hlv2 := HLV.out.symm.trans hg
      simp only [Value.slice.injEq] at hlv2
      obtain ⟨rfl, _, rfl⟩ := hlv2
      have q0 : wr.cell? ⟨g, k * 2, none⟩ = some (.int .i64 (x.1 : Int)) := by rw [Nat.mul_comm]; exact cell_at2 hrow (by rw [hg]; rfl) hc0
      have q1 : wr.cell? ⟨g, k * 2 + 1, none⟩ = some u := by rw [Nat.mul_comm]; exact cell_at2 hrow (by rw [hg]; rfl) hu
      have hb : Below wr.heap.size wr (wr.alloc (.cells #[.int .i64 (x.1 : Int), u] 65)) := (Below.refl _ _).alloc (Nat.le_refl _) _
      have k0 : (0 : Int) ≤ k := by omega
      have k1 : (k : Int) < d.loose.length := by omega
      obtain ⟨au, cu, rfl, hcu1, _⟩ := id hub.1
      by_cases hfl2 : k < fs.length
      · rcases hfs with hfs | ⟨gf, off, rfl, hgf, hgO, hcf⟩
        · subst hfs; simp at hfl2
        obtain ⟨f, hf⟩ : ∃ f, fs[k]? = some f := ⟨fs[k], by simp [hfl2]⟩
        have cf : wr.cell? ⟨gf, off + k, none⟩ = some (.int .i64 f) := by
          have := hcf k hfl2
          rw [hf] at this
          exact (hs.moves.cell (p := ⟨gf, off + k, none⟩) hgf hgO).trans this
        have hkx : x.1 < (d.patches ((d.loose.zip fs).take k)).sectors := hxs.1
        have hFB := fastBytes_any n₀ O' (wr.alloc (.cells #[.int .i64 (x.1 : Int), .slice au x.2.length cu] 65)) D _ ⟨F, P, L, lv, fm', pm, lm, hp.keep (Same.of_below hb hp.inn)⟩ x.1 hkx
        have hDN := fun W (hW : Below wr.heap.size wr W) => done_any n₀ O' W D _ ⟨F, P, L, lv, fm', pm, lm, hp.keep (Same.of_below hW hp.inn)⟩ f
        have hST := fun g cap cur wB w3 b0 => crash_step (g := g) (cap := cap) (cur := cur) (wB := wB) (w3 := w3) (b0 := b0) hp hs (Nat.le_trans hn hsz) hx hf
        have hub2 := hub.1
        have hlgf : gf < wr.heap.size := by omega
        rw [hdz] at hFB hDN
        have hdn := doneOf_le d.size f
        have hxl : x.2.length = d.size := by rw [← hdz]; exact hxs.2
        have hszd := hp.right.2
        rw [hdz] at hszd
        have HB := Lib.hid hb
        have HFB := Lib.hid hFB
        have HDN := Lib.hid hDN
        have HST2 := Lib.hid hST
        have HU := Lib.hid hub2
        have HXL := Lib.hid hxl
        obtain ⟨m, hm⟩ : ∃ m, doneOf d.size f = m := ⟨_, rfl⟩
        rw [hm] at HDN HST2 hdn
        obtain ⟨fb, hfb⟩ : ∃ fb, (d.patches ((d.loose.zip fs).take k)).fast x.1 = fb := ⟨_, rfl⟩
        rw [hfb] at HFB HST2
        have m1 : (m : Int) ≤ d.size := by omega
        have m2 : (m : Int) ≤ x.2.length := by omega
        have m3 : m ≤ x.2.length := by omega
        have s4 : (d.size : Int) ≤ 512 := by omega
        have kf1 : (k : Int) < fs.length := by omega
        clear hcells hrow hp hs hsame hdl hdz hds hx hub hub2 hxs hc0 hu hb hFB hDN hST hf hcf hfb hm hxl hkx
        go_upto_region 6 with (go_at_call 24; (with_reducible refine HFB.out.mono ?_); rintro e wB ⟨v, rfl, hv, hbB⟩)
        obtain ⟨gv, cv, rfl, _⟩ := slice_cells hv (by omega)
        obtain ⟨cur, hgB, hgv, hcv1, hcurs⟩ := own_block hv
        have hVB : wB.heap[wr.heap.size]? = some (.cells #[.int .i64 (x.1 : Int), .slice au x.2.length cu] 65 (0, 0)) := (hbB.block _ (by simp)).trans (heap_alloc_new wr _)
        have hBB : Below wr.heap.size wr wB := HB.out.trans (hbB.mono (by simp))
        have v1 : wB.cell? ⟨wr.heap.size, 1, none⟩ = some (.slice au x.2.length cu) := blk_cell hVB 1
        have cfB : wB.cell? ⟨gf, off + k, none⟩ = some (.int .i64 f) := (hBB.cell (p := ⟨gf, off + k, none⟩) hlgf).trans cf
        have huB := (HU.out.below hBB).pre m m3
        have hnn : (cellsOf (x.2.take m)).length = Nat.min m d.size := by rw [cellsOf_len, List.length_take, Nat.min_eq_left m3]; exact (Nat.min_eq_left hdn).symm
        have hfit : 0 + (cellsOf (x.2.take m)).length ≤ cur.toList.length := by
          have e1 : cur.toList.length = cv := by simpa using hcurs
          rw [cellsOf_len, List.length_take, e1, Nat.min_eq_left m3]; omega
        have m4 : (m : Int) ≤ cu := by omega
        have m0 : (0 : Int) ≤ m := by omega
        have h1c := cellsOf_one (x.2.take m)
        have hpos : 0 < (cellsOf (x.2.take m)).length → ∃ ad, au = some ad ∧ ∀ j v, (cellsOf (x.2.take m))[j]? = some v → wB.drew.cell? (ad.add j) = some v := by
          intro hp
          rw [cellsOf_len] at hp
          obtain ⟨a', c', e', _, _, h'⟩ := id huB
          simp only [Value.slice.injEq] at e'
          obtain ⟨rfl, _, rfl⟩ := e'
          rcases h' with h' | ⟨g', off', rfl, _⟩
          · rw [h'] at hp; simp at hp
          · exact ⟨_, rfl, huB.news.2⟩
        have HV := Lib.hid hv
        have HGB := Lib.hid hgB
        have HVB := Lib.hid hVB
        have HBB := Lib.hid hBB
        have HbB := Lib.hid hbB
        have HNN := Lib.hid hnn
        have HFIT := Lib.hid hfit
        have H1C := Lib.hid h1c
        have HPOS := Lib.hid hpos
        clear hv hgB hVB hBB hbB hnn hfit h1c hpos huB hcurs hcv1
        obtain ⟨ad, rfl⟩ : ∃ ad, au = some ad := by
          obtain ⟨a', c', e', _, _, h'⟩ := HU.out
          simp only [Value.slice.injEq] at e'
          obtain ⟨rfl, _, rfl⟩ := e'
          rcases h' with h' | ⟨g', off', rfl, _⟩
          · have := HXL.out; rw [h'] at this; simp at this; omega
          · exact ⟨_, rfl⟩
        go_region_held3 (fun W => W.cell? ⟨wr.heap.size, 1, none⟩ = some (.slice (some ad) x.2.length cu) ∧ W.cell? ⟨gf, off + k, none⟩ = some (.int .i64 f))
          (first
            | exact ⟨v1, cfB⟩
            | exact ⟨blk_cell hV3 1, (hB3.cell (p := ⟨gf, off + k, none⟩) hlgf).trans cf⟩)
          (first
            | (go_at_call 25; (with_reducible refine (HDN.out _ HBB.out.drew).mono ?_); rintro e w' ⟨rfl, rfl⟩)
            | (refine step_copy_splice rfl (.tmp 28) (.tmp 37) 30 30 rfl 5 Try.underlying30 sizeU8 (some ⟨gv, 0, none⟩) (some ad) d.size cv m cu rfl rfl gv 0 cur.toList 5 (show wB.drew.heap[gv]? = _ from HGB.out) (cellsOf (x.2.take m)) HNN.out (fun hp => ⟨rfl, HPOS.out hp⟩) HFIT.out H1C.out _ _ HbB.out.drew hgv ?_; intro w3 HG3 hb3; have hV3 : w3.heap[wr.heap.size]? = some (.cells #[.int .i64 (x.1 : Int), .slice (some ad) x.2.length cu] 65 (0, 0)) := (hb3.block _ (by simp)).trans (heap_alloc_new wr _); have hB3 : Below wr.heap.size wr w3 := HB.out.trans (hb3.mono (by simp)); have y0 : w3.cell? ⟨wr.heap.size, 0, none⟩ = some (.int .i64 (x.1 : Int)) := blk_cell hV3 0; have HSET := Lib.hid (HST2.out gv cv cur wB w3 _ (by simp) HV.out HGB.out HG3.out hB3)))
        go_wp2_with (go_at_call 26; (with_reducible refine HSET.out.mono ?_); rintro e w4 ⟨rfl, hC4, hz4⟩; have HC4 := Lib.hid hC4; clear hC4)
        go_roundw
        case rel => exact ⟨k + 1, by omega, by omega, by go_num, HC4.out, by omega⟩
        case measure => simp [intOf]; omega
      · obtain rfl : k = fs.length := by omega
        have HFG := Lib.hid (HFIN.out _ wr HC.out (.inr (Nat.le_refl _)) _ hb)
        clear hcells hrow hp hs hsame hdl hdz hds hx hub hxs hc0 hu hb
        go_wp2_with (go_at_call 27; (with_reducible refine HFG.out.mono ?_); rintro e w2 ⟨rfl, O2, hd2, hs2⟩; obtain ⟨F2, P2, L2, lv2, fm2, pm2, lm2, hd3⟩ := id hd2; have e6 := blk_cell hd3.blk 6; have e8 := blk_cell hd3.blk 8; have f6 := blk_frozen hd3.blk 6; have f8 := blk_frozen hd3.blk 8; have HD2 := Lib.hid hd2; have HS2 := Lib.hid hs2; clear hd2 hd3 hs2)
        go_end0
        exact crash_end HD2.out HS2.out _ _ rfl rfl
    · obtain rfl : k = d.loose.length := by omega
      have HFG := Lib.hid (HFIN.out _ wr hC (.inl (Nat.le_refl _)) _ (Below.refl _ _))
      clear hC
      go_wp2_with (go_at_call 27; (with_reducible refine HFG.out.mono ?_); rintro e w2 ⟨rfl, O2, hd2, hs2⟩; obtain ⟨F2, P2, L2, lv2, fm2, pm2, lm2, hd3⟩ := id hd2; have e6 := blk_cell hd3.blk 6; have e8 := blk_cell hd3.blk 8; have f6 := blk_frozen hd3.blk 6; have f8 := blk_frozen hd3.blk 8; have HD2 := Lib.hid hd2; have HS2 := Lib.hid hs2; clear hd2 hd3 hs2)
      go_end0
      exact crash_end HD2.out HS2.out _ _ rfl rfl

end Go.Proofs.Ytiibpkncdflfcaa
namespace Go.Proofs.Ytiibpkncdflfcaa
open Go.RowKit

/-- A device in block D that was made since w; nothing that was there then has turned. -/
def DevHere (w : World) (D : Nat) (d : Dev) (W : World) : Prop := ∃ O, DevAt w.heap.size O W D d ∧ Below w.heap.size w W
/-- A device is small enough for what is to come. -/
structure Dev.Small (d : Dev) (k : Nat) : Prop where
  acts : d.acts ≤ k
  loose : d.loose.length ≤ k
  past : ∀ j, (d.past j).length ≤ k
  armed : d.armed ≤ 9223372036854775807
section
variable {w W W' : World} {D : Nat} {d : Dev}
theorem DevAt.inn {n₀ : Nat} {O : Foot} (h : DevAt n₀ O W D d) : Foot.In O W := by obtain ⟨F, P, L, lv, fm, pm, lm, h⟩ := h; exact h.inn
theorem DevAt.lo {n₀ : Nat} {O : Foot} (h : DevAt n₀ O W D d) : ∀ k, O k → n₀ ≤ k := by obtain ⟨F, P, L, lv, fm, pm, lm, h⟩ := h; exact h.lo
theorem DevAt.right {n₀ : Nat} {O : Foot} (h : DevAt n₀ O W D d) : (1 ≤ d.sectors ∧ d.sectors ≤ 16384) ∧ (96 ≤ d.size ∧ d.size ≤ 512) := by obtain ⟨F, P, L, lv, fm, pm, lm, h⟩ := h; exact h.right
theorem DevAt.oD {n₀ : Nat} {O : Foot} (h : DevAt n₀ O W D d) : O D := by obtain ⟨F, P, L, lv, fm, pm, lm, h⟩ := h; exact h.oD
theorem DevAt.flen {n₀ : Nat} {O : Foot} (h : DevAt n₀ O W D d) (k : Nat) : (d.fast k).length = d.size := by obtain ⟨F, P, L, lv, fm, pm, lm, h⟩ := h; exact h.len k
theorem DevAt.llen {n₀ : Nat} {O : Foot} (h : DevAt n₀ O W D d) : ∀ x ∈ d.loose, x.1 < d.sectors ∧ x.2.length = d.size := by obtain ⟨F, P, L, lv, fm, pm, lm, h⟩ := h; exact h.llen
theorem DevAt.plen {n₀ : Nat} {O : Foot} (h : DevAt n₀ O W D d) : ∀ k x, x ∈ d.past k → x.length = d.size := by obtain ⟨F, P, L, lv, fm, pm, lm, h⟩ := h; exact h.plen
theorem DevHere.below (h : DevHere w D d W) : Below w.heap.size w W := by obtain ⟨O, _, h⟩ := h; exact h
theorem DevHere.size (h : DevHere w D d W) : w.heap.size ≤ W.heap.size := h.below.size
theorem DevHere.right (h : DevHere w D d W) : (1 ≤ d.sectors ∧ d.sectors ≤ 16384) ∧ (96 ≤ d.size ∧ d.size ≤ 512) := by obtain ⟨O, h, _⟩ := h; exact h.right
theorem DevHere.flen (h : DevHere w D d W) (k : Nat) : (d.fast k).length = d.size := by obtain ⟨O, h, _⟩ := h; exact h.flen k
theorem DevHere.llen (h : DevHere w D d W) : ∀ x ∈ d.loose, x.1 < d.sectors ∧ x.2.length = d.size := by obtain ⟨O, h, _⟩ := h; exact h.llen
theorem DevHere.plen (h : DevHere w D d W) : ∀ k x, x ∈ d.past k → x.length = d.size := by obtain ⟨O, h, _⟩ := h; exact h.plen
theorem DevHere.on (h : DevHere w D d W) (hb : Below W.heap.size W W') : DevHere w D d W' := by
  obtain ⟨O, h, h2⟩ := h
  exact ⟨O, h.keep (Same.of_below hb h.inn), h2.trans (hb.mono h2.size)⟩
theorem DevHere.drew (h : DevHere w D d W) : DevHere w D d W.drew := h.on (Below.refl _ _).drew
theorem DevHere.alloc (h : DevHere w D d W) (o : Obj) : DevHere w D d (W.alloc o) := h.on ((Below.refl _ _).alloc (Nat.le_refl _) _)
/-- What a call leaves of it. -/
def Did (w : World) (D : Nat) (d : Dev) (r : Value) (e : Ending) (W' : World) : Prop := e = .returned r ∧ DevHere w D d W'
theorem DevHere.left {O : Foot} (h : DevAt w.heap.size O W D d) (hb : Below w.heap.size w W) {d' : Dev} {r : Value} {e : Ending} (hl : DevLeft w.heap.size O W D d' r e W') : Did w D d' r e W' := by
  obtain ⟨he, O', h2, hs⟩ := hl
  exact ⟨he, O', h2, hb.trans (hs.below h.lo hb.size)⟩
theorem DevHere.step {O : Foot} (h : DevAt w.heap.size O W D d) (hb : Below w.heap.size w W) {d' : Dev} {r : Value} {e : Ending} (he : e = .returned r) (h2 : DevAt w.heap.size O W' D d') (hs : Step O O W W') : Did w D d' r e W' :=
  ⟨he, O, h2, hb.trans (hs.below h.lo hb.size)⟩

theorem here_new (sectors size : Nat) (hr : (1 ≤ sectors ∧ sectors ≤ 16384) ∧ (96 ≤ size ∧ size ≤ 512)) (hb : Below w.heap.size w W) :
    Calls Try.prog 4 #[.int .i64 sectors, .int .i64 size] W fun e W' => ∃ D, e = .returned (.pointer (some ⟨D, 0, none⟩)) ∧ DevHere w D (Dev.new sectors size) W' ∧ Below W.heap.size W W' :=
  (fnew_any w.heap.size sectors size hr W hb.size).mono fun _ _ ⟨he, hd, h2⟩ => ⟨_, he, ⟨_, hd, hb.trans (h2.mono hb.size)⟩, h2⟩
theorem here_write (h : DevHere w D d W) (at_ : Int) {u : Value} {bs : List (BitVec 8)} (hu : BytesAt W.heap.size W u bs) {k : Nat} (hs : d.Small k) (hk : k ≤ 65536) :
    Calls Try.prog 5 #[.pointer (some ⟨D, 0, none⟩), .int .i64 at_, u] W (Did w D (d.write at_ bs) (.int .i64 (writeErr d at_ bs.length))) := by
  obtain ⟨O, h, hb⟩ := h
  have h1 := hs.acts
  have h2 := hs.loose
  exact (write_any w.heap.size O W D d h at_ u bs hu hb.size (by omega) hs.armed (by omega) (fun j => by have := hs.past j; omega)).mono fun _ _ hl => DevHere.left h hb hl
/-- Numbers that came in. -/
def IntsIn (n₀ : Nat) (w : World) (v : Value) (fs : List Int) : Prop :=
  ∃ a cap, v = .slice a fs.length cap ∧ (fs = [] ∨ ∃ g off, a = some ⟨g, off, none⟩ ∧ g < n₀ ∧ ∀ j, j < fs.length → w.cell? ⟨g, off + j, none⟩ = some (.int .i64 (fs[j]?.getD 0)))
theorem IntsIn.below {n₀ : Nat} {v : Value} {fs : List Int} (h : IntsIn n₀ W v fs) (hb : Below n₀ W W') : IntsIn n₀ W' v fs := by
  obtain ⟨a, cap, rfl, h⟩ := h
  refine ⟨a, cap, rfl, h.imp id ?_⟩
  rintro ⟨g, off, rfl, hg, hc⟩
  exact ⟨g, off, rfl, hg, fun j hj => (hb.cell (p := ⟨g, off + j, none⟩) hg).trans (hc j hj)⟩
theorem here_crash (h : DevHere w D d W) {v : Value} {fs : List Int} (hv : IntsIn w.heap.size W v fs) {k : Nat} (hs : d.Small k) (hk : k ≤ 65536) (hf : fs.length ≤ 1099511627776) :
    Calls Try.prog 9 #[.pointer (some ⟨D, 0, none⟩), v] W (Did w D (d.crash fs) (.tuple #[])) := by
  obtain ⟨O, h, hb⟩ := h
  have h2 := hs.loose
  have hv2 : IntsOff O W v fs := by
    obtain ⟨a, cap, rfl, hv⟩ := hv
    refine ⟨a, cap, rfl, hv.imp id ?_⟩
    rintro ⟨g, off, rfl, hg, hc⟩
    exact ⟨g, off, rfl, by have := hb.size; omega, fun ho => by have := h.lo g ho; omega, hc⟩
  exact (crash_any w.heap.size O W D d h v fs hv2 hb.size (by omega) hf).mono fun _ _ hl => DevHere.left h hb hl
/-- The same, of numbers in a new block. -/
theorem here_crash_new (h : DevHere w D d W) (fs : List Int) (hb2 : Below W.heap.size W W') {c : Nat} (hg : W'.heap[W.heap.size]? = some (.cells (fs.map (Value.int .i64)).toArray 3 (0, 0))) {k : Nat} (hs : d.Small k) (hk : k ≤ 65536) (hf : fs.length ≤ 1099511627776) {n : Nat} (hn : n = fs.length) :
    Calls Try.prog 9 #[.pointer (some ⟨D, 0, none⟩), .slice (some ⟨W.heap.size, 0, none⟩) n c] W' (Did w D (d.crash fs) (.tuple #[])) := by
  subst hn
  obtain ⟨O, h, hb⟩ := h
  have h2 := hs.loose
  have hv2 : IntsOff O W' (.slice (some ⟨W.heap.size, 0, none⟩) fs.length c) fs := by
    refine ⟨_, _, rfl, .inr ⟨_, 0, rfl, blk_lt hg, fun ho => by have := h.inn _ ho; omega, fun j hj => ?_⟩⟩
    rw [Nat.zero_add, blk_cell hg]
    simp [hj]
  have h3 := h.keep (Same.of_below hb2 h.inn)
  have hb3 := hb.trans (hb2.mono hb.size)
  exact (crash_any w.heap.size O W' D d h3 _ fs hv2 hb3.size (by omega) hf).mono fun _ _ hl => DevHere.left h3 hb3 hl
/-- What Read leaves. -/
def GotAt (w : World) (D : Nat) (d : Dev) (at_ : Int) (W : World) (e : Ending) (W' : World) : Prop :=
  DevHere w D d W' ∧ Below W.heap.size W W' ∧ ∃ v, e = .returned (.tuple #[v, .int .i64 (askErr d.sectors d.down at_)]) ∧
    ((askErr d.sectors d.down at_ ≠ 0 ∧ v = .slice none 0 0) ∨ (askErr d.sectors d.down at_ = 0 ∧ W'.ownsRow W.heap.size 5 1 v d.size (cellsOf (d.cur at_.toNat)) ∧ (d.cur at_.toNat).length = d.size))
theorem cur_len {d : Dev} (h1 : ∀ k, (d.fast k).length = d.size) (h2 : ∀ x ∈ d.loose, x.2.length = d.size) (k : Nat) : (d.cur k).length = d.size := by
  unfold Dev.cur
  cases h : d.loose.reverse.find? (fun x => decide (x.1 = k)) with
  | none => exact h1 k
  | some x => exact h2 x (by simpa using List.mem_of_find?_eq_some h)
theorem here_read (h : DevHere w D d W) (at_ : Int) : Calls Try.prog 11 #[.pointer (some ⟨D, 0, none⟩), .int .i64 at_] W (GotAt w D d at_ W) := by
  have h0 := h
  obtain ⟨O, h, hb⟩ := h
  refine (fread_any w.heap.size O W D d h at_).mono fun e W' ⟨hb2, v, he, hv⟩ => ⟨h0.on hb2, hb2, v, he, ?_⟩
  exact hv.imp id fun ⟨h1, h2⟩ => ⟨h1, h2, cur_len h.flen (fun x hx => (h.llen x hx).2) _⟩
theorem here_quiet {f : FuncId} {r : Value} (h : DevHere w D d W) (c : ∀ {n₀ : Nat} {O : Foot}, DevAt n₀ O W D d → Calls Try.prog f #[.pointer (some ⟨D, 0, none⟩)] W fun e w' => e = .returned r ∧ W = w') : Calls Try.prog f #[.pointer (some ⟨D, 0, none⟩)] W fun e w' => e = .returned r ∧ W = w' := by
  obtain ⟨O, h, _⟩ := h
  exact c h
theorem here_sectors (h : DevHere w D d W) : Calls Try.prog 47 #[.pointer (some ⟨D, 0, none⟩)] W fun e w' => e = .returned (.int .i64 d.sectors) ∧ W = w' := here_quiet h sectors_any
theorem here_size (h : DevHere w D d W) : Calls Try.prog 23 #[.pointer (some ⟨D, 0, none⟩)] W fun e w' => e = .returned (.int .i64 d.size) ∧ W = w' := here_quiet h fsize_any
end

/-! How small a device stays -/
section
variable {d : Dev} {k : Nat}
theorem Dev.Small.mono (h : d.Small k) {j : Nat} (hj : k ≤ j) : d.Small j := ⟨Nat.le_trans h.acts hj, Nat.le_trans h.loose hj, fun i => Nat.le_trans (h.past i) hj, h.armed⟩
theorem small_new (sectors size : Nat) : (Dev.new sectors size).Small 0 := ⟨Nat.le_refl _, Nat.le_refl _, fun _ => Nat.le_refl _, by simp [Dev.new]⟩
theorem Dev.Small.act (h : d.Small k) : d.act.Small (k + 1) := ⟨by have := h.acts; simp [Dev.act]; omega, Nat.le_succ_of_le h.loose, fun i => Nat.le_succ_of_le (h.past i), by have := h.armed; simp [Dev.act]; omega⟩
theorem Dev.Small.write (h : d.Small k) (at_ : Int) (bs : List (BitVec 8)) : (d.write at_ bs).Small (k + 1) := by
  unfold Dev.write
  split
  · refine ⟨by have := h.acts; simp [Dev.act, Dev.give]; omega, by have := h.loose; simp [Dev.act, Dev.give]; omega, fun j => ?_, by have := h.armed; simp [Dev.act, Dev.give]; omega⟩
    have := h.past j
    show ((d.give at_.toNat bs).past j).length ≤ _
    unfold Dev.give
    dsimp only
    split
    · rw [List.length_append]; simp; omega
    · omega
  · exact h.mono (Nat.le_succ _)
theorem Dev.Small.sync (h : d.Small k) : d.sync.Small (k + 1) := by
  unfold Dev.sync
  split
  · exact h.mono (Nat.le_succ _)
  · split
    · exact h.act
    · have h2 := h.act
      have e := settle_same d.act d.loose
      exact ⟨by show (d.act.settle d.loose).acts ≤ _; rw [e.2.2.2.2.2.1]; exact h2.acts, by simp [Dev.forget], fun j => by show ((d.act.settle d.loose).past j).length ≤ _; rw [e.2.2.2.1]; exact h2.past j, by show (d.act.settle d.loose).armed ≤ _; rw [e.2.2.2.2.1]; exact h2.armed⟩
theorem Dev.Small.crash (h : d.Small k) (fs : List Int) : (d.crash fs).Small k := by
  have e := patches_same d (d.loose.zip fs)
  exact ⟨by show (d.patches (d.loose.zip fs)).acts ≤ _; rw [e.2.2.2.2.2.1]; exact h.acts, by simp [Dev.crash, Dev.forget], fun j => by show ((d.patches (d.loose.zip fs)).past j).length ≤ _; rw [e.2.2.2.1]; exact h.past j, by simp [Dev.crash]⟩
theorem Dev.Small.rot (h : d.Small k) (at_ byteAt : Int) (mask : BitVec 8) : (d.rot at_ byteAt mask).Small k := by
  unfold Dev.rot
  split
  · exact ⟨h.acts, h.loose, h.past, h.armed⟩
  · exact h
theorem Dev.Small.arm (h : d.Small k) {n : Int} (hn : n ≤ 9223372036854775807) : ({ d with armed := n.toNat } : Dev).Small k := ⟨h.acts, h.loose, h.past, by show n.toNat ≤ _; omega⟩
end

end Go.Proofs.Ytiibpkncdflfcaa

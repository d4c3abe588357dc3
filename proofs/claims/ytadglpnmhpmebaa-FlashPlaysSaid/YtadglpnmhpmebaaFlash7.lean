/-
  flash: a larger footprint; Sync.
  Conditions: none.
-/
import Derived.Test.YtadglpnmhpmebaaFlash6
namespace Go.Proofs.Ytadglpnmhpmebaa
open Go.RowKit

theorem DevParts.widen {n₀ : Nat} {O Q : Foot} {w : World} {D F P L : Nat} {lv : Value} {fm pm lm : List (Int × Value)} {d : Dev} (h : DevParts n₀ O w D F P L lv fm pm lm d) (hO : ∀ k, O k → Q k) (hin : Foot.In Q w) (hlo : ∀ k, Q k → n₀ ≤ k) : DevParts n₀ Q w D F P L lv fm pm lm d :=
  { h with
    oD := hO _ h.oD, oF := hO _ h.oF, oP := hO _ h.oP, oL := hO _ h.oL
    inn := hin
    lo := hlo
    fast := fun k hk => (h.fast k hk).imp id fun ⟨v, h1, h2⟩ => ⟨v, h1, h2.mono hO⟩
    past := fun k hk => (h.past k hk).imp id fun ⟨v, h1, h2⟩ => ⟨v, h1, h2.wide hO⟩
    loose := h.loose.wide hO }
theorem DevAt.widen {n₀ : Nat} {O Q : Foot} {w : World} {D : Nat} {d : Dev} (h : DevAt n₀ O w D d) (hO : ∀ k, O k → Q k) (hin : Foot.In Q w) (hlo : ∀ k, Q k → n₀ ≤ k) : DevAt n₀ Q w D d := by
  obtain ⟨F, P, L, lv, fm, pm, lm, h⟩ := h
  exact ⟨F, P, L, lv, fm, pm, lm, h.widen hO hin hlo⟩

/-- Behind the first k loose writes made fast. -/
def Dev.settle (d : Dev) : List (Nat × List (BitVec 8)) → Dev
  | [] => d
  | x :: l => (d.put x.1 x.2).settle l
theorem settle_snoc (d : Dev) (l : List (Nat × List (BitVec 8))) (x : Nat × List (BitVec 8)) : d.settle (l ++ [x]) = (d.settle l).put x.1 x.2 := by
  induction l generalizing d with
  | nil => rfl
  | cons y l ih => exact ih _
theorem settle_same (d : Dev) (l : List (Nat × List (BitVec 8))) : (d.settle l).loose = d.loose ∧ (d.settle l).sectors = d.sectors ∧ (d.settle l).size = d.size ∧ (d.settle l).past = d.past ∧ (d.settle l).armed = d.armed ∧ (d.settle l).acts = d.acts ∧ (d.settle l).down = d.down := by
  induction l generalizing d with
  | nil => exact ⟨rfl, rfl, rfl, rfl, rfl, rfl, rfl⟩
  | cons y l ih => exact ih _

theorem slice_cells {w : World} {n₀ : Nat} {e : TypeId} {size n : Nat} {v : Value} {cs : List Value} (h : w.ownsRow n₀ e size v n cs) (hn : 0 < n) : ∃ g cap, v = .slice (some ⟨g, 0, none⟩) n cap ∧ n ≤ maxLen := by
  rcases h.2 with ⟨_, h2⟩ | ⟨g, cap, _, h1, _, _, h2, h3, _⟩
  · omega
  · exact ⟨g, cap, h1, by omega⟩

/-- What a sync does. -/
def Dev.sync (d : Dev) : Dev := if d.down then d else if d.armed = 1 then d.act else ((d.act).settle d.loose).forget
def syncErr (d : Dev) : Int := if d.down then 4 else if d.armed = 1 then 4 else 0

set_option maxHeartbeats 2000000 in
theorem sync_any (n₀ : Nat) (O : Foot) (w : World) (D : Nat) (d : Dev) (h : DevAt n₀ O w D d) (h2 : d.acts < 9223372036854775807) (h3 : d.armed ≤ 9223372036854775807) (hl : d.loose.length ≤ 1099511627776) :
    Calls Try.prog 12 #[.pointer (some ⟨D, 0, none⟩)] w fun e w' => e = .returned (.int .i64 (syncErr d)) ∧ DevAt n₀ O w' D d.sync ∧ Step O O w w' := by
  have h0 := h
  obtain ⟨F, P, L, lv, fm, pm, lm, h⟩ := h
  have hr := ready_any h.blk
  cases hd : d.down with
  | true =>
    rw [hd] at hr
    have HR := Lib.hid hr
    have hs : d.sync = d := by simp [Dev.sync, hd]
    have he : syncErr d = 4 := by simp [syncErr, hd]
    rw [hs, he]
    clear hr h hd hs he
    go_enter Try.func12, Try.ntmps12
    go_wp2_with (go_at_call 32; refine HR.out.mono ?_; rintro e w' ⟨rfl, rfl⟩)
    go_ret
    exact ⟨rfl, h0, Step.refl _ _⟩
  | false =>
    rw [hd] at hr
    have HR := Lib.hid hr
    have ha := act_parts h h2 h3
    by_cases hb : d.armed = 1
    · rw [if_pos hb] at ha
      have HA := Lib.hid ha
      have hs : d.sync = d.act := by simp [Dev.sync, hd, hb]
      have he : syncErr d = 4 := by simp [syncErr, hd, hb]
      have hoD := h.oD
      rw [hs, he]
      clear hr h hd hs he ha hb
      go_enter Try.func12, Try.ntmps12
      go_wp2_with (first
        | (go_at_call 32; refine HR.out.mono ?_; rintro e w' ⟨rfl, rfl⟩)
        | (go_at_call 33; refine HA.out.mono ?_; rintro e w' ⟨rfl, hp, hm⟩))
      go_ret
      exact ⟨rfl, ⟨F, P, L, lv, fm, pm, lm, hp⟩, hm.mono (fun i _ e => by rw [e]; exact hoD), fun _ hk => .inl hk⟩
    · rw [if_neg hb] at ha
      have HA := Lib.hid ha
      have hs : d.sync = ((d.act).settle d.loose).forget := by simp [Dev.sync, hd, hb]
      have he : syncErr d = 0 := by simp [syncErr, hd, hb]
      have hO : O D ∧ O F := ⟨h.oD, h.oF⟩
      rw [hs, he]
      obtain ⟨cs0, hrow0, _⟩ := h.loose
      obtain ⟨la, lc, rfl⟩ := owns_slice hrow0
      have c4 : w.cell? ⟨D, 4, none⟩ = some (.slice la d.loose.length lc) := blk_cell h.blk 4
      have l1 : (d.loose.length : Int) ≤ 1099511627776 := by omega
      clear hr h hd hs he ha hb h0 hrow0
      go_enter Try.func12, Try.ntmps12
      go_wp2_with (first
        | (go_at_call 32; refine HR.out.mono ?_; rintro e w' ⟨rfl, rfl⟩)
        | (go_at_call 33; refine HA.out.mono ?_; rintro e w1 ⟨rfl, hp, hm⟩; have c41 : w1.cell? ⟨D, 4, none⟩ = some (.slice la d.loose.length lc) := blk_cell hp.blk 4; have HP := Lib.hid hp; have HM := Lib.hid hm; clear hp hm))
      go_loopw [22] (fun iv wr => ∃ (k : Nat) (fm' : List (Int × Value)), k ≤ d.loose.length ∧ iv = .int .i64 k ∧ DevParts n₀ O wr D F P L (.slice la d.loose.length lc) fm' pm lm ((d.act).settle (d.loose.take k)) ∧ Moves O w wr) (fun iv _ => d.loose.length - (intOf iv).toNat)
      case atStart => exact ⟨0, fm, Nat.zero_le _, rfl, by simpa [Dev.settle] using HP.out, HM.out.mono (fun i _ e => by rw [e]; exact hO.1)⟩
      case round =>
        obtain ⟨k, fm', hk, rfl, hp, hmv⟩ := hrel
        by_cases hlt : k < d.loose.length
        · have hsame : ((d.act).settle (d.loose.take k)).loose = d.loose := (settle_same d.act (d.loose.take k)).1
          obtain ⟨cs, hrow, _, hcells⟩ := hp.loose
          rw [hsame] at hrow hcells
          obtain ⟨x, hx⟩ : ∃ x, d.loose[k]? = some x := ⟨d.loose[k], by simp [hlt]⟩
          obtain ⟨hc0, u, hu, hub⟩ := hcells k x hx
          have hxs := hp.llen x (by rw [hsame]; exact List.mem_of_getElem? hx)
          obtain ⟨g, cap, hg, _⟩ := slice_cells hrow (by omega)
          simp only [Value.slice.injEq] at hg
          obtain ⟨rfl, _, rfl⟩ := hg
          have q0 : wr.cell? ⟨g, k * 2, none⟩ = some (.int .i64 (x.1 : Int)) := by rw [Nat.mul_comm]; exact cell_at2 hrow rfl hc0
          have q1 : wr.cell? ⟨g, k * 2 + 1, none⟩ = some u := by rw [Nat.mul_comm]; exact cell_at2 hrow rfl hu
          have hb : Below wr.heap.size wr (wr.alloc (.cells #[.int .i64 (x.1 : Int), u] 72)) := (Below.refl _ _).alloc (Nat.le_refl _) _
          have hsm := Same.of_below (O := O) hb hp.inn
          have hset := setFast_parts (hp.keep hsm) x.1 hxs.1 u x.2 (hsm.bytes hub) hxs.2
          have htk : d.loose.take (k + 1) = d.loose.take k ++ [x] := by
            rw [List.take_succ_eq_append_getElem hlt]
            congr 2
            simpa [hlt] using hx
          obtain ⟨au, cu, rfl, _⟩ := hub.1
          have HT := Lib.hid htk
          have HSet := Lib.hid hset
          have HB := Lib.hid hb
          have k0 : (0 : Int) ≤ k := by omega
          have k1 : (k : Int) < d.loose.length := by omega
          clear hsame hrow hcells hx hc0 hu hub hxs hb hsm hset htk hp
          go_wp2_with (go_at_call 34; (with_reducible refine HSet.out.mono ?_); rintro e w2 ⟨rfl, ⟨fm2, hp2⟩, hm2⟩; have HP2 := Lib.hid hp2; have HM2 := Lib.hid hm2; clear hp2 hm2)
          go_roundw
          case rel => exact ⟨k + 1, fm2, by omega, by go_num, by rw [HT.out, settle_snoc]; exact HP2.out, (hmv.trans (Moves.of_below (S := fun _ => False) HB.out) (fun _ _ h => h.elim)).trans HM2.out (fun i _ e => by rw [e]; exact hO.2)⟩
          case measure => simp [intOf]; omega
        · obtain rfl : k = d.loose.length := by omega
          rw [List.take_length] at hp
          have HFG := Lib.hid (forget_any n₀ O wr D _ ⟨F, P, L, _, fm', pm, lm, hp⟩)
          clear hp
          go_wp2_with (go_at_call 35; (with_reducible refine HFG.out.mono ?_); rintro e w2 ⟨rfl, hd2, hs2⟩)
          go_ret
          exact ⟨rfl, hd2, ⟨hmv.trans hs2.moves (fun _ _ h => h), fun _ hk => .inl hk⟩⟩

end Go.Proofs.Ytadglpnmhpmebaa

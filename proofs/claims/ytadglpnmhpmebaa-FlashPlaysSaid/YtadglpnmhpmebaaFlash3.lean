/-
  flash: fastBytes and setFast.
  Conditions: none.
-/
import Derived.Test.YtadglpnmhpmebaaFlashDev
import Derived.Test.YtadglpnmhpmebaaClone
import Derived.Laws.MakeOwn
namespace Go.Proofs.Ytadglpnmhpmebaa
open Go.RowKit

theorem zeroSlice (w : World) : (zeroValue 42).run Try.prog w = .ok (.slice none 0 0) w := by kernel_rfl
theorem makeBytes (n : Nat) (hn : n ≤ 1000) (W : World) : (Instr.makeSlice 42 (.int .i64 n) (.int .i64 n)).run Try.prog W = .ok (.slice (some ⟨W.heap.size, 0, none⟩) n n) (W.alloc (.cells (madeCells #[.int .u8 0] n) 5)) := by
  obtain ⟨i0, hi, hz0, hz1, hz2⟩ := info_parts Try.infoU8
  have h := run_make (P := Try.prog) W 42 5 i0 (.int .u8 0) Try.underlying42 hi hz0 .i64 .i64 n n (by omega) (by omega) (by rw [hz2]; omega) (by omega)
  rw [hz1] at h
  simpa [Value.cells] using h
theorem made_zeros (n : Nat) : (madeCells #[Value.int .u8 0] n).toList = cellsOf (zeros n) := by
  apply List.ext_getElem
  · simp [madeCells, cellsOf, zeros]
  · intro i h1 h2
    simp [madeCells, cellsOf, zeros, Nat.mod_one]
    rfl
theorem own_zeros (w : World) (base n : Nat) (hb : base ≤ w.heap.size) (hn : n ≤ 1000) : (w.alloc (.cells (madeCells #[.int .u8 0] n) 5)).ownsRow base 5 1 (.slice (some ⟨w.heap.size, 0, none⟩) n n) n (cellsOf (zeros n)) := by
  refine ⟨by simp [cellsOf_len, zeros_len], .inr ⟨w.heap.size, n, _, rfl, hb, heap_alloc_new _ _, Nat.le_refl _, by unfold maxLen; omega, ?_, ?_⟩⟩
  · rw [← Array.length_toList, made_zeros, cellsOf_len, zeros_len]; omega
  · rw [made_zeros, List.take_of_length_le (by rw [cellsOf_len, zeros_len]; omega)]

set_option maxHeartbeats 1000000 in
theorem fastBytes_any (n₀ : Nat) (O : Foot) (w : World) (D : Nat) (d : Dev) (h : DevAt n₀ O w D d) (k : Nat) (hk : k < d.sectors) :
    Calls Try.prog 39 #[.pointer (some ⟨D, 0, none⟩), .int .i64 k] w fun e w' => ∃ v, e = .returned v ∧ w'.ownsRow w.heap.size 5 1 v d.size (cellsOf (d.fast k)) ∧ Below w.heap.size w w' := by
  obtain ⟨F, P, L, lv, fm, pm, lm, h⟩ := h
  have c2 : w.cell? ⟨D, 2, none⟩ = some (.map (some F)) := blk_cell h.blk 2
  have c1 : w.cell? ⟨D, 1, none⟩ = some (.int .i64 d.size) := blk_cell h.blk 1
  have hlk := run_lookup_int (P := Try.prog) Try.underlying63 Try.underlying3 h.mF (k : Int) _ (zeroSlice w) true
  have hsz := h.right.2
  rcases h.fast k hk with ⟨hn, hf⟩ | ⟨v, hv, hb⟩
  · rw [hn] at hlk
    simp only [Option.getD_none, Option.isSome_none, if_true] at hlk
    have HF := Lib.hid hf
    have HO := Lib.hid (own_zeros w w.heap.size d.size (Nat.le_refl _) (by omega))
    have hmk := makeBytes d.size (by omega)
    have HB := Lib.hid ((Below.refl w.heap.size w).alloc (Nat.le_refl _) (.cells (madeCells #[.int .u8 0] d.size) 5))
    clear h hn hf hk
    go_enter Try.func39, Try.ntmps39
    go_wp2
    go_ret
    exact ⟨_, rfl, by rw [HF.out]; exact HO.out, HB.out⟩
  · rw [hv] at hlk
    simp only [Option.getD_some, Option.isSome_some, if_true] at hlk
    have hlen := h.len k
    have HC := Lib.hid (clone_any w.heap.size v (d.fast k) w hb.1 (Nat.le_refl _) (by omega))
    have HL := Lib.hid hlen
    clear h hv hb hk hlen
    go_enter Try.func39, Try.ntmps39
    go_wp2_with (go_at_call 38; refine HC.out.mono ?_; rintro e w' ⟨u, rfl, hu, hb⟩)
    go_ret
    exact ⟨_, rfl, by rw [← HL.out]; exact hu, hb⟩

theorem put_other {w : World} {b k : Nat} {o : Obj} (h : k ≠ b) : (w.putObj b o).heap[k]? = w.heap[k]? := World.putObj_heap_other h
theorem put_size (w : World) (b : Nat) (o : Obj) : (w.putObj b o).heap.size = w.heap.size := by simp [World.putObj]
theorem put_moves (w : World) (b : Nat) (o : Obj) : Moves (fun k => k = b) w (w.putObj b o) := ⟨rfl, rfl, rfl, by rw [put_size]; exact Nat.le_refl _, fun _ _ hk => put_other hk⟩
/-- A map's block turned: what is no map stands. -/
theorem put_same (w : World) (b : Nat) (o : Obj) (O : Foot) : Same (fun k => O k ∧ k ≠ b) w (w.putObj b o) := ⟨by rw [put_size]; exact Nat.le_refl _, fun _ hk => put_other hk.2⟩
theorem MapIs.noCell {w : World} {b : Nat} {m : List (Int × Value)} (h : MapIs w b m) (i : Nat) : w.cell? ⟨b, i, none⟩ = none := by
  obtain ⟨_, es, c, hb, _⟩ := h
  simp [World.cell?, hb]
theorem MapIs.noRow {w : World} {b base : Nat} {m : List (Int × Value)} {e : TypeId} {size n : Nat} {v : Value} {xs : List Value} (h : MapIs w b m) (hr : w.ownsRow base e size v n xs) : v.ownBlock ≠ some b := by
  obtain ⟨_, es, c, hb, _⟩ := h
  rcases hr.2 with ⟨rfl, _⟩ | ⟨g, cap, cur, rfl, _, hg, _⟩
  · simp [Value.ownBlock]
  · intro e2
    obtain rfl : g = b := by simpa [Value.ownBlock] using e2
    rw [hb] at hg; cases hg
theorem BytesIn.noMap {w : World} {O : Foot} {b : Nat} {m : List (Int × Value)} {v : Value} {bs : List (BitVec 8)} (h : BytesIn O w v bs) (hm : MapIs w b m) : BytesIn (fun k => O k ∧ k ≠ b) w v bs :=
  ⟨h.1, fun hne k e => ⟨⟨(h.2 hne k e).1, fun ek => by subst ek; exact noBytes_map hm (h.2 hne k e).2⟩, (h.2 hne k e).2⟩⟩
theorem RowsIn.noMap {n₀ : Nat} {w : World} {O : Foot} {b : Nat} {m : List (Int × Value)} {v : Value} {l : List (List (BitVec 8))} (h : RowsIn n₀ O w v l) (hm : MapIs w b m) : RowsIn n₀ (fun k => O k ∧ k ≠ b) w v l := by
  obtain ⟨cs, h1, h2, h3⟩ := h
  refine ⟨cs, h1, fun k e => ⟨h2 k e, fun ek => hm.noRow h1 (by rw [← ek]; exact e)⟩, fun i x hx => ?_⟩
  obtain ⟨u, hu, hb⟩ := h3 i x hx
  exact ⟨u, hu, hb.noMap hm⟩
theorem LooseIn.noMap {n₀ : Nat} {w : World} {O : Foot} {b : Nat} {m : List (Int × Value)} {v : Value} {l : List (Nat × List (BitVec 8))} (h : LooseIn n₀ O w v l) (hm : MapIs w b m) : LooseIn n₀ (fun k => O k ∧ k ≠ b) w v l := by
  obtain ⟨cs, h1, h2, h3⟩ := h
  refine ⟨cs, h1, fun k e => ⟨h2 k e, fun ek => hm.noRow h1 (by rw [← ek]; exact e)⟩, fun i x hx => ?_⟩
  obtain ⟨h0, u, hu, hb⟩ := h3 i x hx
  exact ⟨h0, u, hu, hb.noMap hm⟩
theorem RowsIn.wide {n₀ : Nat} {w : World} {O Q : Foot} {v : Value} {l : List (List (BitVec 8))} (h : RowsIn n₀ O w v l) (hO : ∀ k, O k → Q k) : RowsIn n₀ Q w v l := by
  obtain ⟨cs, h1, h2, h3⟩ := h
  refine ⟨cs, h1, fun k e => hO k (h2 k e), fun i x hx => ?_⟩
  obtain ⟨u, hu, hb⟩ := h3 i x hx
  exact ⟨u, hu, hb.mono hO⟩
theorem LooseIn.wide {n₀ : Nat} {w : World} {O Q : Foot} {v : Value} {l : List (Nat × List (BitVec 8))} (h : LooseIn n₀ O w v l) (hO : ∀ k, O k → Q k) : LooseIn n₀ Q w v l := by
  obtain ⟨cs, h1, h2, h3⟩ := h
  refine ⟨cs, h1, fun k e => hO k (h2 k e), fun i x hx => ?_⟩
  obtain ⟨h0, u, hu, hb⟩ := h3 i x hx
  exact ⟨h0, u, hu, hb.mono hO⟩

/-- A sector's fast bytes put. -/
def Dev.put (d : Dev) (k : Nat) (bs : List (BitVec 8)) : Dev := { d with fast := fun j => if j = k then bs else d.fast j }
theorem keys_set {m : List (Int × Value)} {n k : Nat} {v : Value} (h : KeysIn m n) (hk : k < n) : KeysIn (mset m k v) n := fun p hp => by
  rcases mem_mset hp with rfl | hp
  · exact ⟨k, hk, rfl⟩
  · exact h p hp
theorem keys_del {m : List (Int × Value)} {n : Nat} {k : Int} (h : KeysIn m n) : KeysIn (mdel m k) n := fun p hp => h p (mem_mdel hp)
/-- The map of what is fast turned. -/
theorem DevParts.putFast {n₀ : Nat} {O : Foot} {w : World} {D F P L : Nat} {lv : Value} {fm pm lm fm' : List (Int × Value)} {d : Dev} (h : DevParts n₀ O w D F P L lv fm pm lm d) {o : Obj} (hm : MapIs (w.putObj F o) F fm') (k : Nat) (bs : List (BitVec 8)) (hlen : bs.length = d.size)
    (hkeys : KeysIn fm' d.sectors) (hother : ∀ j : Nat, j ≠ k → mget fm' j = mget fm j) (hk : (mget fm' k = none ∧ bs = zeros d.size) ∨ ∃ v, mget fm' k = some v ∧ BytesIn O w v bs) : DevParts n₀ O (w.putObj F o) D F P L lv fm' pm lm (d.put k bs) := by
  have hs := put_same w F o O
  have hDF : D ≠ F := fun e => by
    have h1 := h.blk
    obtain ⟨_, es, c, hb, _⟩ := h.mF
    rw [e] at h1
    unfold DevBlk at h1
    rw [hb] at h1; cases h1
  have hw : ∀ k, (O k ∧ k ≠ F) → O k := fun k h => h.1
  exact
    { blk := (put_other hDF).trans h.blk
      mF := hm
      mP := h.mP.same (put_other h.apart.1.symm)
      mL := h.mL.same (put_other h.apart.2.1.symm)
      oD := h.oD, oF := h.oF, oP := h.oP, oL := h.oL, apart := h.apart
      inn := fun j hj => by rw [put_size]; exact h.inn j hj
      lo := h.lo, right := h.right, kF := hkeys, kP := h.kP, kL := h.kL
      len := fun j => by
        show (if j = k then bs else d.fast j).length = d.size
        split
        · exact hlen
        · exact h.len j
      fast := fun j hj => by
        show _ ∨ _
        by_cases e : j = k
        · subst e
          rw [show (d.put j bs).fast j = bs by simp [Dev.put]]
          exact hk.imp id fun ⟨v, h1, h2⟩ => ⟨v, h1, (hs.bytes (h2.noMap h.mF)).mono hw⟩
        · rw [show (d.put k bs).fast j = d.fast j by simp [Dev.put, e], hother j e]
          exact (h.fast j hj).imp id fun ⟨v, h1, h2⟩ => ⟨v, h1, (hs.bytes (h2.noMap h.mF)).mono hw⟩
      plen := h.plen
      past := fun j hj => (h.past j hj).imp id fun ⟨v, h1, h2⟩ => ⟨v, h1, ((h2.noMap h.mF).keep hs).wide hw⟩
      rows := h.rows
      loose := ((h.loose.noMap h.mF).keep hs).wide hw
      llen := h.llen
      last := h.last }

set_option maxHeartbeats 1000000 in
theorem setFast_parts {n₀ : Nat} {O : Foot} {w : World} {D F P L : Nat} {lv : Value} {fm pm lm : List (Int × Value)} {d : Dev} (h : DevParts n₀ O w D F P L lv fm pm lm d) (k : Nat) (hk : k < d.sectors) (v : Value) (bs : List (BitVec 8)) (hv : BytesIn O w v bs) (hlen : bs.length = d.size) :
    Calls Try.prog 34 #[.pointer (some ⟨D, 0, none⟩), .int .i64 k, v] w fun e w' => e = .returned (.tuple #[]) ∧ (∃ fm', DevParts n₀ O w' D F P L lv fm' pm lm (d.put k bs)) ∧ Moves (fun j => j = F) w w' := by
  have c2 : w.cell? ⟨D, 2, none⟩ = some (.map (some F)) := blk_cell h.blk 2
  have hsz := h.right.2
  have hz := isZero_any w.heap.size bs v w hv.1 (by omega)
  cases hzb : zeroB bs with
  | true =>
    rw [hzb] at hz
    have hbs : bs = zeros d.size := by
      unfold zeroB at hzb
      rw [← hlen]
      apply List.ext_getElem
      · rw [zeros_len]
      · intro i h1 h2
        have := List.all_eq_true.1 hzb bs[i] (List.getElem_mem h1)
        simpa [zeros] using this
    obtain ⟨es, c, hdel, hm⟩ := run_delete_int (P := Try.prog) Try.underlying63 Try.underlying3 h.mF (k : Int)
    have hp := h.putFast hm k bs hlen (keys_del h.kF) (fun j hj => by rw [mget_mdel h.mF.1, if_neg (by omega)]) (.inl ⟨by rw [mget_mdel h.mF.1, if_pos rfl], hbs⟩)
    have HP := Lib.hid hp
    have HZ := Lib.hid hz
    obtain ⟨av, cv, rfl, _⟩ := hv.1
    clear h hk hv hlen hz hp hm hbs hzb
    go_enter Try.func34, Try.ntmps34
    go_wp2_with (go_at_call 45; refine HZ.out.mono ?_; rintro e w' ⟨rfl, rfl⟩)
    go_end0
    exact ⟨rfl, ⟨_, HP.out⟩, put_moves _ _ _⟩
  | false =>
    rw [hzb] at hz
    obtain ⟨es, c, hset, hm⟩ := run_mapUpdate_int (P := Try.prog) Try.underlying63 Try.underlying3 h.mF (k : Int) v
    have hp := h.putFast hm k bs hlen (keys_set h.kF hk) (fun j hj => by rw [mget_mset, if_neg (by omega)]) (.inr ⟨v, by rw [mget_mset, if_pos rfl], hv⟩)
    have HP := Lib.hid hp
    have HZ := Lib.hid hz
    obtain ⟨av, cv, rfl, _⟩ := hv.1
    clear h hk hv hlen hz hp hm hzb
    go_enter Try.func34, Try.ntmps34
    go_wp2_with (go_at_call 45; refine HZ.out.mono ?_; rintro e w' ⟨rfl, rfl⟩)
    go_end0
    exact ⟨rfl, ⟨_, HP.out⟩, put_moves _ _ _⟩
theorem setFast_any (n₀ : Nat) (O : Foot) (w : World) (D : Nat) (d : Dev) (h : DevAt n₀ O w D d) (k : Nat) (hk : k < d.sectors) (v : Value) (bs : List (BitVec 8)) (hv : BytesIn O w v bs) (hlen : bs.length = d.size) :
    Calls Try.prog 34 #[.pointer (some ⟨D, 0, none⟩), .int .i64 k, v] w fun e w' => e = .returned (.tuple #[]) ∧ DevAt n₀ O w' D (d.put k bs) ∧ Step O O w w' := by
  obtain ⟨F, P, L, lv, fm, pm, lm, h⟩ := h
  exact (setFast_parts h k hk v bs hv hlen).mono fun _ _ ⟨he, ⟨fm', hp⟩, hm⟩ => ⟨he, ⟨F, P, L, lv, fm', pm, lm, hp⟩, hm.mono (fun i _ e => by rw [e]; exact h.oF), fun _ hk => .inl hk⟩

end Go.Proofs.Ytadglpnmhpmebaa

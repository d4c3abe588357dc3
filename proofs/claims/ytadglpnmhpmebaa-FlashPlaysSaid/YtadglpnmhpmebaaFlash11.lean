/-
  flash: Write.
  Conditions: none.
-/
import Derived.Test.YtadglpnmhpmebaaFlash10
import Derived.StillTailTactics
import Derived.Deep.RegionHeld3
import Derived.Deep.DeepCutAuto
import Derived.Deep.RegionLaw
import Derived.Deep.AppendLies
import Derived.Outline
namespace Go.Proofs.Ytadglpnmhpmebaa
open Go.RowKit

theorem Try.infoRow : (Try.prog.info? 42).map (fun i => (i.zero, i.size, i.bytes)) = some (some (.slice none 0 0), 1, 24) := by kernel_rfl
theorem Try.infoWrite : (Try.prog.info? 72).map (fun i => (i.zero, i.size, i.bytes)) = some (some (.agg #[.int .i64 0, .slice none 0 0]), 2, 32) := by kernel_rfl
theorem zeroRows (w : World) : (zeroValue 56).run Try.prog w = .ok (.slice none 0 0) w := by kernel_rfl

/-- What a write does, and tells. -/
def Dev.write (d : Dev) (at_ : Int) (bs : List (BitVec 8)) : Dev := if askErr d.sectors d.down at_ = 0 ∧ bs.length = d.size then (d.give at_.toNat bs).act else d
def writeErr (d : Dev) (at_ : Int) (n : Nat) : Int := if askErr d.sectors d.down at_ ≠ 0 then askErr d.sectors d.down at_ else if n ≠ d.size then 3 else if d.armed = 1 then 4 else 0

set_option maxHeartbeats 2000000 in
/-- A write that is refused. -/
theorem write_out (n₀ : Nat) (O : Foot) (w : World) (D : Nat) (d : Dev) (h : DevAt n₀ O w D d) (at_ : Int) (u : Value) (bs : List (BitVec 8)) (hu : BytesAt w.heap.size w u bs) (hout : ¬(askErr d.sectors d.down at_ = 0 ∧ bs.length = d.size)) :
    Calls Try.prog 22 #[.pointer (some ⟨D, 0, none⟩), .int .i64 at_, u] w (DevLeft n₀ O w D (d.write at_ bs) (.int .i64 (writeErr d at_ bs.length))) := by
  have h0 := h
  obtain ⟨F, P, L, lv, fm, pm, lm, h⟩ := h
  have ha := asked_any h.blk at_
  have hd : d.write at_ bs = d := by unfold Dev.write; rw [if_neg hout]
  have c1 : w.cell? ⟨D, 1, none⟩ = some (.int .i64 d.size) := blk_cell h.blk 1
  have hsz := h.right.2
  by_cases he : askErr d.sectors d.down at_ = 0
  · have hne : bs.length ≠ d.size := fun e => hout ⟨he, e⟩
    have hw : writeErr d at_ bs.length = 3 := by unfold writeErr; rw [if_neg (by simpa using he), if_pos hne]
    rw [hd, hw]
    rw [he] at ha
    have HA := Lib.hid ha
    obtain ⟨a, cap, rfl, _⟩ := hu
    have e1 : ((bs.length : Int) != (d.size : Int)) = true := by simp; omega
    have s4 : (d.size : Int) ≤ 512 := by omega
    clear h ha hd hw hout he hne
    go_enter Try.func22, Try.ntmps22
    go_wp2_with (go_at_call 37; (with_reducible refine HA.out.mono ?_); rintro e w' ⟨rfl, rfl⟩)
    go_ret
    exact ⟨rfl, O, h0, Step.refl _ _⟩
  · have hw : writeErr d at_ bs.length = askErr d.sectors d.down at_ := by unfold writeErr; rw [if_pos he]
    rw [hd, hw]
    have hne : (askErr d.sectors d.down at_ != 0) = true := by simpa using he
    generalize askErr d.sectors d.down at_ = er at ha hne ⊢
    have HA := Lib.hid ha
    clear h ha hd hw hout he hu
    go_enter Try.func22, Try.ntmps22
    go_wp2_with (go_at_call 37; (with_reducible refine HA.out.mono ?_); rintro e w' ⟨rfl, rfl⟩)
    go_ret
    exact ⟨rfl, O, h0, Step.refl _ _⟩

/-- What a write leaves, told by its steps. -/
theorem write_fin {n₀ : Nat} {O : Foot} {w w1 wa w2 wb wc w5 : World} {D F P L g2 c2 g5 c5 : Nat} {lv pv gv : Value} {fm pm lm : List (Int × Value)} {d : Dev} {o3 o4 : Obj}
    (h : DevParts n₀ O w D F P L lv fm pm lm d) (hb1 : Below w.heap.size w w1) (hn : n₀ ≤ w.heap.size) (k_ : Nat) (hk : k_ < d.sectors) (bs : List (BitVec 8)) (hlen : bs.length = d.size)
    (hv : w1.ownsRow w.heap.size 5 1 gv bs.length (cellsOf bs)) (hpv : (mget pm k_).getD (.slice none 0 0) = pv) (hba : Below w1.heap.size w1 wa)
    (cs : List Value) (hcl : cs.length = (d.past k_).length) (hcs : ∀ (i : Nat) x, (d.past k_)[i]? = some x → ∃ u, cs[i]? = some u ∧ BytesIn O w u x)
    (hown2 : w2.ownsRow n₀ 42 1 (.slice (some ⟨g2, 0, none⟩) ((d.past k_).length + 1) c2) ((d.past k_).length + 1) (cs ++ [gv])) (hg2 : wa.grownBy w2 pv.ownBlock) (hat2 : pv.ownBlock = some g2 ∨ w1.heap.size ≤ g2)
    (hP3 : MapIs (w2.putObj P o3) P (mset pm k_ (.slice (some ⟨g2, 0, none⟩) ((d.past k_).length + 1) c2))) (hbb : Below (w2.putObj P o3).heap.size (w2.putObj P o3) wb)
    (hL4 : MapIs (wb.putObj L o4) L (mset lm k_ (.int .i64 (d.loose.length : Int)))) (hbc : Below (wb.putObj L o4).heap.size (wb.putObj L o4) wc)
    (ls : List Value) (hll : ls.length = d.loose.length * 2) (hls : ∀ (i : Nat) x, d.loose[i]? = some x → ls[2 * i]? = some (.int .i64 (x.1 : Int)) ∧ ∃ u, ls[2 * i + 1]? = some u ∧ BytesIn O w u x.2)
    (hown5 : w5.ownsRow n₀ 72 2 (.slice (some ⟨g5, 0, none⟩) (d.loose.length + 1) c5) (d.loose.length + 1) (ls ++ [.int .i64 (k_ : Int), gv])) (hg5 : wc.grownBy w5 lv.ownBlock) (hat5 : lv.ownBlock = some g5 ∨ w1.heap.size ≤ g5) :
    ∃ fm' pm' lm' O', DevParts n₀ O' (w5.setCell ⟨D, 4, none⟩ (.slice (some ⟨g5, 0, none⟩) (d.loose.length + 1) c5)) D F P L (.slice (some ⟨g5, 0, none⟩) (d.loose.length + 1) c5) fm' pm' lm' (d.give k_ bs) ∧
      Step O O' w (w5.setCell ⟨D, 4, none⟩ (.slice (some ⟨g5, 0, none⟩) (d.loose.length + 1) c5)) := by
  generalize hlv' : (Value.slice (some ⟨g5, 0, none⟩) (d.loose.length + 1) c5) = lv' at *
  generalize hpv' : (Value.slice (some ⟨g2, 0, none⟩) ((d.past k_).length + 1) c2) = pv' at *
  have hglv : lv'.ownBlock = some g5 := by rw [← hlv']; rfl
  have hgpv : pv'.ownBlock = some g2 := by rw [← hpv']; rfl
  have hpr : RowsIn n₀ O w pv (d.past k_) := by rw [← hpv]; exact h.pastOf k_ hk
  have lD := h.inn _ h.oD
  have lP := h.inn _ h.oP
  have lL := h.inn _ h.oL
  have llv : ∀ g, lv.ownBlock = some g → g < w.heap.size := fun g hg => by
    obtain ⟨_, _, h2, _⟩ := h.loose
    exact h.inn g (h2 g hg)
  have hpO : ∀ g, pv.ownBlock = some g → O g := by
    obtain ⟨_, _, h2, _⟩ := hpr
    exact h2
  have hlO : ∀ g, lv.ownBlock = some g → O g := by
    obtain ⟨_, _, h2, _⟩ := h.loose
    exact h2
  have hPD := dev_ne_map h h.mP
  have hLD := dev_ne_map h h.mL
  have hPL := h.apart.2.2
  have hpD := rows_ne_dev hpr h
  have hpP := rows_ne_map hpr h.mP
  have hpL := rows_ne_map hpr h.mL
  have hlD := loose_ne_dev h
  have hlP := loose_ne_map h.loose h.mP
  have hlL := loose_ne_map h.loose h.mL
  have hplv : ∀ g, pv.ownBlock = some g → lv.ownBlock ≠ some g := fun g hg => by
    obtain ⟨_, h1, _⟩ := hpr
    obtain ⟨_, h2, _⟩ := h.loose
    exact rows_apart h1 h2 (by decide) hg
  have s1 := hb1.size
  have hg2n : g2 ≠ D ∧ g2 ≠ P ∧ g2 ≠ L ∧ lv.ownBlock ≠ some g2 := by
    rcases hat2 with e | e
    · exact ⟨fun x => hpD (x ▸ e), fun x => hpP (x ▸ e), fun x => hpL (x ▸ e), hplv _ e⟩
    · exact ⟨by omega, by omega, by omega, fun x => by have := llv _ x; omega⟩
  have hg5n : g5 ≠ D := by
    rcases hat5 with e | e
    · exact fun x => hlD (x ▸ e)
    · omega
  -- the steps
  have m0 : Moves (giveX D P L pv lv) w1 wa := Moves.of_below hba
  have m1 : Moves (giveX D P L pv lv) w1 w2 := m0.trans (Moves.of_grown (S := giveX D P L pv lv) hg2 (fun j e => .inr (.inr (.inr (.inl e))))) (fun _ _ h => h)
  have n1 : Moves (fun j => j = P ∨ j = L ∨ lv.ownBlock = some j ∨ j = D) w2 (w2.putObj P o3) := (put_moves w2 P o3).mono (fun i _ e => .inl e)
  have n2 : Moves (fun j => j = L ∨ lv.ownBlock = some j ∨ j = D) (w2.putObj P o3) (wb.putObj L o4) := (Moves.of_below hbb).trans ((put_moves wb L o4).mono (T := fun j => j = L ∨ lv.ownBlock = some j ∨ j = D) (fun i _ e => .inl e)) (fun _ _ h => h)
  have n3 : Moves (fun j => lv.ownBlock = some j ∨ j = D) (wb.putObj L o4) w5 := (Moves.of_below hbc).trans (Moves.of_grown (S := fun j => lv.ownBlock = some j ∨ j = D) hg5 (fun j e => .inl e)) (fun _ _ h => h)
  have n4 : Moves (fun j => j = D) w5 (w5.setCell ⟨D, 4, none⟩ lv') := (Moves.refl (fun j => j = D) w5).setCell (p := ⟨D, 4, none⟩) (fun _ => rfl) _
  have k3 : Moves (fun j => lv.ownBlock = some j ∨ j = D) (wb.putObj L o4) (w5.setCell ⟨D, 4, none⟩ lv') := n3.trans n4 (fun _ _ e => .inr e)
  have k2 : Moves (fun j => j = L ∨ lv.ownBlock = some j ∨ j = D) (w2.putObj P o3) (w5.setCell ⟨D, 4, none⟩ lv') := n2.trans k3 (fun _ _ e => .inr e)
  have k1 : Moves (fun j => j = P ∨ j = L ∨ lv.ownBlock = some j ∨ j = D) w2 (w5.setCell ⟨D, 4, none⟩ lv') := n1.trans k2 (fun _ _ e => .inr e)
  have k0 : Moves (giveX D P L pv lv) w1 (w5.setCell ⟨D, 4, none⟩ lv') := m1.trans k1 (fun i _ e => by
    rcases e with e | e | e | e
    · exact .inr (.inl e)
    · exact .inr (.inr (.inl e))
    · exact .inr (.inr (.inr (.inr e)))
    · exact .inl e)
  have k : Moves (giveX D P L pv lv) w (w5.setCell ⟨D, 4, none⟩ lv') := (Moves.of_below hb1).trans k0 (fun _ _ h => h)
  have l2 : w2.heap.size ≤ (w2.putObj P o3).heap.size := n1.size
  have z2 := m1.size
  have z3 := k1.size
  have z4 : (wb.putObj L o4).heap.size ≤ w5.heap.size := n3.size
  have z5 := n2.size
  -- the device's own block, at w5
  have hD5 : w5.heap[D]? = w.heap[D]? := by
    have e1 : wa.heap[D]? = w.heap[D]? := (hba.block D (by omega)).trans (hb1.block D lD)
    have e2 : w2.heap[D]? = w.heap[D]? := (hg2.block D (by have := hba.size; omega) (fun e => hpD e.symm)).trans e1
    have e3 : (w2.putObj P o3).heap[D]? = w.heap[D]? := (put_other (fun e => hPD e.symm)).trans e2
    have e4 : wb.heap[D]? = w.heap[D]? := (hbb.block D (by omega)).trans e3
    have e5 : (wb.putObj L o4).heap[D]? = w.heap[D]? := (put_other (fun e => hLD e.symm)).trans e4
    have e6 : wc.heap[D]? = w.heap[D]? := (hbc.block D (by omega)).trans e5
    exact (hg5.block D (by have := hbc.size; omega) (fun e => hlD e.symm)).trans e6
  have hblk : DevBlk (w5.setCell ⟨D, 4, none⟩ lv') D d.sectors d.size F P lv' L d.armed d.acts d.down := devSet (hD5.trans h.blk) 4 _
  have hX1 : ∀ j, giveX D P L pv lv j → NoBytes w1 j := by
    have h1 := h.keep (Same.of_below (O := O) hb1 h.inn)
    have hpr1 : RowsIn n₀ O w1 pv (d.past k_) := by rw [← hpv]; exact h1.pastOf k_ hk
    intro j hj
    rcases hj with rfl | rfl | rfl | hj | hj
    · exact noBytes_dev h1
    · exact noBytes_map h1.mP
    · exact noBytes_map h1.mL
    · exact hpr1.own hj
    · exact h1.loose.own hj
  have hXw : ∀ j, giveX D P L pv lv j → NoBytes w j := by
    intro j hj
    rcases hj with rfl | rfl | rfl | hj | hj
    · exact noBytes_dev h
    · exact noBytes_map h.mP
    · exact noBytes_map h.mL
    · exact hpr.own hj
    · exact h.loose.own hj
  generalize hW : w5.setCell ⟨D, 4, none⟩ lv' = W at *
  have zW : w1.heap.size ≤ W.heap.size := k0.size
  have hO : ∀ j, O j → (fun j => O j ∨ (w.heap.size ≤ j ∧ j < W.heap.size)) j := fun j hj => .inl hj
  have hgv : BytesIn (fun j => O j ∨ (w.heap.size ≤ j ∧ j < W.heap.size)) W gv bs :=
    bytes_moves k0 hX1 (BytesIn.of_owns hv (fun j a b => .inr ⟨a, by omega⟩))
  have helem : ∀ {u : Value} {x : List (BitVec 8)}, BytesIn O w u x → BytesIn (fun j => O j ∨ (w.heap.size ≤ j ∧ j < W.heap.size)) W u x := fun hx => (bytes_moves k hXw hx).mono hO
  have hrow : RowsIn n₀ (fun j => O j ∨ (w.heap.size ≤ j ∧ j < W.heap.size)) W pv' (d.past k_ ++ [bs]) := by
    refine ⟨cs ++ [gv], ?_, fun g hg => ?_, fun i x hx => ?_⟩
    · have := k1.row hown2 (fun g hg => by
        obtain rfl : g2 = g := by rw [hgpv] at hg; simpa using hg
        exact fun e => by
          rcases e with e | e | e | e
          · exact hg2n.2.1 e
          · exact hg2n.2.2.1 e
          · exact hg2n.2.2.2 e
          · exact hg2n.1 e)
      simpa using this
    · obtain rfl : g2 = g := by rw [hgpv] at hg; simpa using hg
      rcases hat2 with e | e
      · exact .inl (hpO _ e)
      · have := (hown2.lt g2 hgpv).2
        exact .inr ⟨by omega, by omega⟩
    · by_cases hi : i < (d.past k_).length
      · rw [List.getElem?_append_left hi] at hx
        obtain ⟨u, hu, hb⟩ := hcs i x hx
        exact ⟨u, by rw [List.getElem?_append_left (by omega)]; exact hu, helem hb⟩
      · rw [List.getElem?_append_right (by omega)] at hx
        have hi0 : i - (d.past k_).length = 0 := by
          have := (List.getElem?_eq_some_iff.1 hx).1
          simp at this; omega
        rw [hi0] at hx
        have hxb : bs = x := by simpa using hx
        subst hxb
        exact ⟨gv, by rw [List.getElem?_append_right (by omega), hcl, hi0]; rfl, hgv⟩
  have hloose : LooseIn n₀ (fun j => O j ∨ (w.heap.size ≤ j ∧ j < W.heap.size)) W lv' (d.loose ++ [(k_, bs)]) := by
    refine ⟨ls ++ [.int .i64 (k_ : Int), gv], ?_, fun g hg => ?_, fun i x hx => ?_⟩
    · have := n4.row hown5 (fun g hg => by
        obtain rfl : g5 = g := by rw [hglv] at hg; simpa using hg
        exact hg5n)
      simpa using this
    · obtain rfl : g5 = g := by rw [hglv] at hg; simpa using hg
      rcases hat5 with e | e
      · exact .inl (hlO _ e)
      · have := (hown5.lt g5 hglv).2
        have := n4.size
        exact .inr ⟨by omega, by omega⟩
    · by_cases hi : i < d.loose.length
      · rw [List.getElem?_append_left hi] at hx
        obtain ⟨h0, u, hu, hb⟩ := hls i x hx
        exact ⟨by rw [List.getElem?_append_left (by omega)]; exact h0, u, by rw [List.getElem?_append_left (by omega)]; exact hu, helem hb⟩
      · rw [List.getElem?_append_right (by omega)] at hx
        have hi0 : i - d.loose.length = 0 := by
          have := (List.getElem?_eq_some_iff.1 hx).1
          simp at this; omega
        rw [hi0] at hx
        have hxb : (k_, bs) = x := by simpa using hx
        subst hxb
        have hi2 : i = d.loose.length := by omega
        subst hi2
        exact ⟨by rw [List.getElem?_append_right (by omega), hll, show 2 * d.loose.length - d.loose.length * 2 = 0 by omega]; rfl, gv, by rw [List.getElem?_append_right (by omega), hll, show 2 * d.loose.length + 1 - d.loose.length * 2 = 1 by omega]; rfl, hgv⟩
  refine ⟨fm, _, _, _, h.give k_ hk bs hlen hpv k hO (fun j hj => ?_) (fun j hj => ?_) hblk (hP3.same (k2.block P (by omega) (fun e => ?_))) (hL4.same (k3.block L (by omega) (fun e => ?_))) hrow ?_ hloose, ⟨?_, ?_⟩⟩
  · rcases hj with hj | hj
    · have := h.inn j hj; omega
    · exact hj.2
  · rcases hj with hj | hj
    · exact h.lo j hj
    · omega
  · rcases e with e | e | e
    · exact hPL e
    · exact hlP e
    · exact hPD e
  · rcases e with e | e
    · exact hlL e
    · exact hLD e
  · rcases hat2 with e | e
    · exact .inl (hgpv.trans e.symm)
    · exact .inr fun g hg => by
        obtain rfl : g2 = g := by rw [hgpv] at hg; simpa using hg
        omega
  · exact k.mono (fun i _ e => by
      rcases e with rfl | rfl | rfl | e | e
      · exact h.oD
      · exact h.oP
      · exact h.oL
      · exact hpO _ e
      · exact hlO _ e)
  · exact fun j hj => hj.imp id (fun e => e.1)

theorem write_end {n₀ : Nat} {O : Foot} {w w1 w2 W3 W4 w5 : World} {D F P L g2 c2 g5 c5 pn cl3 cl4 : Nat} {lv pv gv : Value} {fm pm lm : List (Int × Value)} {d : Dev} {es3 es4 : Array MapEntry} {r : Int} {t1 t2 : TypeId} {x1 x2 : Array Value}
    (h : DevParts n₀ O w D F P L lv fm pm lm d) (hb1 : Below w.heap.size w w1) (hn : n₀ ≤ w.heap.size) (k : Nat) (hk : k < d.sectors) (bs : List (BitVec 8)) (hlen : bs.length = d.size)
    (hv : w1.ownsRow w.heap.size 5 1 gv d.size (cellsOf bs)) (hpv : (mget pm k).getD (.slice none 0 0) = pv)
    (cs : List Value) (hcl : cs.length = pn) (hpn : (d.past k).length = pn) (hcs : ∀ (i : Nat) x, (d.past k)[i]? = some x → ∃ u, cs[i]? = some u ∧ BytesIn O w u x)
    (hown2 : w2.ownsRow n₀ 42 1 (.slice (some ⟨g2, 0, none⟩) (pn + 1) c2) (pn + 1) (cs ++ [gv])) (hg2 : ((w1.alloc (.cells x1 t1)).drew).grownBy w2 pv.ownBlock) (hat2 : pv.ownBlock = some g2 ∨ g2 = w1.heap.size + 1)
    (hP3 : MapIs W3 P (mset pm k (.slice (some ⟨g2, 0, none⟩) (pn + 1) c2))) (hW3 : w2.putObj P (.map es3 cl3) = W3)
    (hL4 : MapIs W4 L (mset lm k (.int .i64 (d.loose.length : Int)))) (hW4 : W3.drew.putObj L (.map es4 cl4) = W4)
    (ls : List Value) (hll : ls.length = d.loose.length * 2) (hls : ∀ (i : Nat) x, d.loose[i]? = some x → ls[2 * i]? = some (.int .i64 (x.1 : Int)) ∧ ∃ u, ls[2 * i + 1]? = some u ∧ BytesIn O w u x.2)
    (hown5 : w5.ownsRow n₀ 72 2 (.slice (some ⟨g5, 0, none⟩) (d.loose.length + 1) c5) (d.loose.length + 1) (ls ++ [.int .i64 (k : Int), gv])) (hg5 : (W4.alloc (.cells x2 t2)).grownBy w5 lv.ownBlock) (hat5 : lv.ownBlock = some g5 ∨ g5 = W4.heap.size + 1) (hz : w1.heap.size ≤ W4.heap.size)
    (h2 : d.acts < 9223372036854775807) (h3 : d.armed ≤ 9223372036854775807) (hr : (if d.armed = 1 then (4 : Int) else 0) = r) :
    Calls Try.prog 33 #[.pointer (some ⟨D, 0, none⟩)] (w5.setCell ⟨D, 4, none⟩ (.slice (some ⟨g5, 0, none⟩) (d.loose.length + 1) c5)) (DevLeft n₀ O w D ((d.give k bs).act) (.int .i64 r)) := by
  subst hpn hW3 hW4
  obtain ⟨fm', pm', lm', O', hp, hs⟩ := write_fin h hb1 hn k hk bs hlen (by rw [hlen]; exact hv) hpv (((Below.refl _ w1).alloc (Nat.le_refl _) _).drew) cs hcl hcs hown2 hg2 (hat2.imp id (fun e => by omega)) hP3 ((Below.refl _ _).drew) hL4 ((Below.refl _ _).alloc (Nat.le_refl _) _) ls hll hls hown5 hg5 (hat5.imp id (fun e => by omega))
  refine (act_parts hp h2 h3).mono ?_
  rintro e w' ⟨he, hp2, hm⟩
  refine ⟨by rw [he, ← hr]; rfl, O', ⟨_, _, _, _, _, _, _, hp2⟩, ⟨hs.moves.trans hm (fun i hi e => ?_), hs.own⟩⟩
  rw [e]; exact h.oD

set_option maxRecDepth 100000 in
set_option maxHeartbeats 4000000 in
theorem write_in (n₀ : Nat) (O : Foot) (w : World) (D : Nat) (d : Dev) (h : DevAt n₀ O w D d) (k : Nat) (u : Value) (bs : List (BitVec 8)) (hu : BytesAt w.heap.size w u bs) (hn : n₀ ≤ w.heap.size) (hin : askErr d.sectors d.down k = 0) (hlen : bs.length = d.size)
    (h2 : d.acts < 9223372036854775807) (h3 : d.armed ≤ 9223372036854775807) (hll : d.loose.length ≤ 65536) (hpl : (d.past k).length ≤ 65536) :
    Calls Try.prog 22 #[.pointer (some ⟨D, 0, none⟩), .int .i64 k, u] w (DevLeft n₀ O w D ((d.give k bs).act) (.int .i64 (if d.armed = 1 then 4 else 0))) := by
  obtain ⟨F, P, L, lv, fm, pm, lm, h⟩ := h
  have hk : k < d.sectors := by
    unfold askErr at hin
    split at hin
    · cases hin
    · split at hin
      · omega
      · cases hin
  have ha := asked_any h.blk k
  rw [hin] at ha
  have HA := Lib.hid ha
  have hsz := h.right.2
  have HC := Lib.hid (clone_any w.heap.size u bs w hu (Nat.le_refl _) (by omega))
  have c1 : w.cell? ⟨D, 1, none⟩ = some (.int .i64 d.size) := blk_cell h.blk 1
  obtain ⟨a, cap, rfl, _⟩ := hu
  rw [hlen] at HC ⊢
  obtain ⟨ls, hlrow, hlO, hlcells⟩ := h.loose
  obtain ⟨la, lc, rfl⟩ := owns_slice hlrow
  have H := Lib.hid h
  have HLEN := Lib.hid hlen
  have HLROW := Lib.hid hlrow
  have HLCELLS := Lib.hid hlcells
  have hl1 : (d.loose.length : Int) ≤ 65536 := by omega
  clear hlrow hlO hlcells
  obtain ⟨r, hr⟩ : ∃ r : Int, (if d.armed = 1 then (4 : Int) else 0) = r := ⟨_, rfl⟩
  rw [hr]
  have HR := Lib.hid hr
  have s4 : (d.size : Int) ≤ 512 := by omega
  clear hr hlen
  obtain ⟨iR, hR, hR0, hR1, hR2⟩ := info_parts Try.infoRow
  obtain ⟨iW, hW, hW0, hW1, hW2⟩ := info_parts Try.infoWrite
  clear h ha hin
  go_enter Try.func22, Try.ntmps22
  go_upto_region 7 with (first
    | (go_at_call 37; (with_reducible refine HA.out.mono ?_); rintro e w' ⟨rfl, rfl⟩)
    | (go_at_call 38; (with_reducible refine HC.out.mono ?_); rintro e w1 ⟨v, rfl, hv, hb⟩))
  have h1 := H.out.keep (Same.of_below (O := O) hb H.out.inn)
  obtain ⟨pv, hpv⟩ : ∃ pv, (mget pm k).getD (.slice none 0 0) = pv := ⟨_, rfl⟩
  have hpr := h1.pastOf k hk
  rw [hpv] at hpr
  have hPD := dev_ne_map h1 h1.mP
  have hDp := rows_ne_dev hpr h1
  have hPp := rows_ne_map hpr h1.mP
  have hLp := rows_ne_map hpr h1.mL
  have hPL := h1.apart.2.2
  have hLD := dev_ne_map h1 h1.mL
  have lL : L < w1.heap.size := h1.inn _ h1.oL
  have hpr0 := H.out.pastOf k hk
  rw [hpv] at hpr0
  obtain ⟨cs, hrow0, _, hcells⟩ := hpr0
  have hrow := (Moves.of_below (S := fun _ => False) hb).row hrow0 (fun _ _ h => h)
  obtain ⟨av, cv, rfl⟩ := owns_slice hv
  have lD : D < w1.heap.size := h1.inn _ h1.oD
  have lP : P < w1.heap.size := h1.inn _ h1.oP
  have HK : Hid (∀ W : World, W.heap[D]? = w1.heap[D]? → W.heap[P]? = w1.heap[P]? → W.cell? ⟨D, 3, none⟩ = some (.map (some P)) ∧ (Instr.lookup 64 (.map (some P)) (.int .i64 (k : Int)) false).run Try.prog W = .ok pv W) := by
    intro W hD hP
    refine ⟨?_, ?_⟩
    · have : DevBlk W D d.sectors d.size F P (.slice la d.loose.length lc) L d.armed d.acts d.down := hD.trans h1.blk
      exact blk_cell this 3
    · have hm := h1.mP.same hP
      have := run_lookup_int (P := Try.prog) Try.underlying64 Try.underlying3 hm (k : Int) _ (zeroRows W) false
      simpa [hpv] using this
  have H1 := Lib.hid h1
  have HROW := Lib.hid hrow
  have HCELLS := Lib.hid hcells
  have HV := Lib.hid hv
  have HB := Lib.hid hb
  have HPV := Lib.hid hpv
  have HLL : Hid (ls.length = d.loose.length * 2) := HLROW.out.1
  have HLD : Hid ((Value.slice la d.loose.length lc).ownBlock ≠ some D) := loose_ne_dev H.out
  have HPLV : Hid (∀ g, pv.ownBlock = some g → (Value.slice la d.loose.length lc).ownBlock ≠ some g) := fun g hg => rows_apart hrow0 HLROW.out (by decide) hg
  have HCL : Hid (cs.length = (d.past k).length) := by have := hrow.1; unfold Hid; omega
  obtain ⟨pn, hpn⟩ : ∃ pn, (d.past k).length = pn := ⟨_, rfl⟩
  rw [hpn] at HROW HCL hpl
  have HPN := Lib.hid hpn
  clear hrow hrow0 hcells hv h1 hpr hpv hpn hb
  have hnb : n₀ ≤ w1.heap.size := Nat.le_trans hn HB.out.size
  have hlkA := (HK.out w1.drew rfl rfl).2
  have hlkB := (HK.out (w1.alloc (.cells #[.slice av d.size cv] 42)).drew (Below.heap_alloc _ _ _ lD) (Below.heap_alloc _ _ _ lP)).2
  go_region_held3 (fun W => W.cell? ⟨D, 3, none⟩ = some (.map (some P)))
    (first
      | (exact (HK.out _ rfl rfl).1)
      | (exact (HK.out _ (Below.heap_alloc _ _ _ lD) (Below.heap_alloc _ _ _ lP)).1)
      | (exact (blk_cell hD2b 3))
      | (exact (blk_cell hD3b 3)))
    ((refine step_append_lies _ (by rfl) _ _ 56 (by rfl) n₀ 42 iR _ 1 24 Try.underlying56 hR hR0 hR1 hR2 rfl (by omega) pv pn cs (by rfl) ((HROW.out.alloc _).drew)
        ⟨w1.heap.size, 0, none⟩ 1 1 [.slice av d.size cv] (by rfl) (by rfl) (World.news_of_block (cs := #[.slice av d.size cv]) (t := 42) (fr := (0, 0)) (heap_alloc_new w1 _)) (by simp [Value.oneCell'])
        (by omega) (by unfold maxLen; omega) (by omega) (by simp <;> omega) (w1.heap.size + 1) (by simp) ?_; intro g2 c2 w2 hown2 hgrow2 hat2 hlt2; have hD2 : w2.heap[D]? = w1.heap[D]? := (hgrow2.block D (by simp <;> omega) (fun e => hDp e.symm)).trans (Below.heap_alloc _ _ _ lD); have hP2 : w2.heap[P]? = w1.heap[P]? := (hgrow2.block P (by simp <;> omega) (fun e => hPp e.symm)).trans (Below.heap_alloc _ _ _ lP); have hD2b : DevBlk w2 D d.sectors d.size F P (.slice la d.loose.length lc) L d.armed d.acts d.down := hD2.trans H1.out.blk; obtain ⟨es3, cl3, hup3, hP3⟩ := run_mapUpdate_int (P := Try.prog) Try.underlying64 Try.underlying3 (H1.out.mP.same hP2) (k : Int) (.slice (some ⟨g2, 0, none⟩) (pn + 1) c2); have hD3b : DevBlk (w2.putObj P (.map es3 cl3)) D d.sectors d.size F P (.slice la d.loose.length lc) L d.armed d.acts d.down := (put_other hPD.symm).trans hD2b))
  all_goals
    go_upto_region 8 with (fail)
    have hL2 : w2.heap[L]? = w1.heap[L]? := (hgrow2.block L (by simp; omega) (fun e => hLp e.symm)).trans (Below.heap_alloc _ _ _ lL)
    have hL3 : MapIs (w2.putObj P (.map es3 cl3)) L lm := (H1.out.mL.same hL2).same (put_other hPL.symm)
    have HD3 := Lib.hid hD3b
    have HP3 := Lib.hid hP3
    obtain ⟨W3, hW3⟩ : ∃ W3, w2.putObj P (.map es3 cl3) = W3 := ⟨_, rfl⟩
    rw [hW3] at HD3 HP3 hL3 ⊢
    have HW3 := Lib.hid hW3
    clear hup3 hP3 hD2b hD3b hlkA hlkB hW3 hD2 hP2
    have c5 : W3.cell? ⟨D, 5, none⟩ = some (.map (some L)) := blk_cell HD3.out 5
    have c4 : W3.cell? ⟨D, 4, none⟩ = some (.slice la d.loose.length lc) := blk_cell HD3.out 4
    obtain ⟨es4, cl4, hup4, hL4⟩ := run_mapUpdate_int (P := Try.prog) (w := W3.drew) Try.underlying65 Try.underlying3 (hL3.same rfl) (k : Int) (.int .i64 (d.loose.length : Int))
    have HD4 : Hid (DevBlk (W3.drew.putObj L (.map es4 cl4)) D d.sectors d.size F P (.slice la d.loose.length lc) L d.armed d.acts d.down) := (put_other hLD.symm).trans HD3.out
    go_region_held3 (fun W => W.cell? ⟨D, 5, none⟩ = some (.map (some L)) ∧ W.cell? ⟨D, 4, none⟩ = some (.slice la d.loose.length lc)) (first | exact ⟨c5, c4⟩ | exact ⟨blk_cell HD4.out 5, blk_cell HD4.out 4⟩) ((fail))
    go_upto_region 9 with (fail)
    have M2 : Moves (fun j => pv.ownBlock = some j ∨ j = P ∨ j = L) w w2 := ((((Moves.of_below (S := fun j => pv.ownBlock = some j ∨ j = P ∨ j = L) HB.out)).alloc _).drew).trans (Moves.of_grown (S := fun j => pv.ownBlock = some j ∨ j = P ∨ j = L) hgrow2 (fun j e => .inl e)) (fun _ _ h => h)
    have M3 := M2.trans ((put_moves w2 P (.map es3 cl3)).mono (T := fun j => pv.ownBlock = some j ∨ j = P ∨ j = L) (fun i _ e => .inr (.inl e))) (fun _ _ h => h)
    rw [HW3.out] at M3
    have M4 := M3.drew.trans ((put_moves W3.drew L (.map es4 cl4)).mono (T := fun j => pv.ownBlock = some j ∨ j = P ∨ j = L) (fun i _ e => .inr (.inr e))) (fun _ _ h => h)
    have hlr4 := M4.row HLROW.out (fun g hg hx => by
      rcases hx with hx | rfl | rfl
      · exact HPLV.out g hx hg
      · exact loose_ne_map H.out.loose H.out.mP hg
      · exact loose_ne_map H.out.loose H.out.mL hg)
    have zz : w1.heap.size ≤ (W3.drew.putObj L (.map es4 cl4)).heap.size := by
      have e1 : w1.heap.size ≤ w2.heap.size := by have := hgrow2.size; simp at this; omega
      have e2 : w2.heap.size ≤ W3.heap.size := by rw [← HW3.out, put_size]; exact Nat.le_refl _
      rw [put_size]
      exact Nat.le_trans e1 e2
    have zn : n₀ ≤ (W3.drew.putObj L (.map es4 cl4)).heap.size := Nat.le_trans hnb zz
    have HL4 := Lib.hid hL4
    have HR4 := Lib.hid hlr4
    obtain ⟨W4, hW4⟩ : ∃ W4, W3.drew.putObj L (.map es4 cl4) = W4 := ⟨_, rfl⟩
    rw [hW4] at HD4 HL4 HR4 zz zn ⊢
    have HW4 := Lib.hid hW4
    clear M2 M3 M4 hlr4 hL4 hW4 hup4 c4 c5 hL3
    have d4 : W4.cell? ⟨D, 4, none⟩ = some (.slice la d.loose.length lc) := blk_cell HD4.out 4
    have lD4 : D < W4.heap.size := Nat.lt_of_lt_of_le lD zz
    have h1w : ∀ u ∈ [Value.int .i64 (k : Int), Value.slice av d.size cv], u.oneCell' = true := by simp [Value.oneCell']
    have hlml : d.loose.length + 1 ≤ maxLen := by unfold maxLen; omega
    have hs4 : n₀ ≤ (W4.alloc (.cells #[.int .i64 (k : Int), .slice av d.size cv] 72)).heap.size := by simp; omega
    go_wp2_with (first
      | (at_builtin; go_must (refine wpList_append_lies _ rfl (.tmp 52) (.tmp 57) 66 rfl n₀ 72 iW _ 2 32 Try.underlying66 hW hW0 hW1 hW2 rfl (by omega) _ d.loose.length ls rfl (HR4.out.alloc _) ⟨W4.heap.size, 0, none⟩ 1 1 [.int .i64 (k : Int), .slice av d.size cv] rfl rfl (World.news_of_block (cs := #[.int .i64 (k : Int), .slice av d.size cv]) (t := 72) (fr := (0, 0)) (heap_alloc_new W4 _)) h1w (by omega) hlml (by omega) hs4 (W4.heap.size + 1) (by simp) ?_); intro g5 q5 w5 hown5 hgrow5 hat5 hlt5; have hD5 : DevBlk w5 D d.sectors d.size F P (.slice la d.loose.length lc) L d.armed d.acts d.down := ((hgrow5.block D (by simp; omega) (fun e => HLD.out e.symm)).trans (Below.heap_alloc _ _ _ lD4)).trans HD4.out; have d5 := blk_cell hD5 4; have f5 := blk_frozen hD5 4; have HFIN := Lib.hid (write_end H.out HB.out hn k hk bs HLEN.out HV.out HPV.out cs HCL.out HPN.out HCELLS.out hown2 hgrow2 hat2 HP3.out HW3.out HL4.out HW4.out ls HLL.out HLCELLS.out hown5 hgrow5 hat5 zz h2 h3 HR.out); clear hown5 hgrow5 hat5 hD5)
      | (go_at_call 33; (with_reducible refine HFIN.out.mono ?_); rintro e w7 ⟨rfl, O', hd7, hs7⟩))
    go_ret
    exact ⟨rfl, O', hd7, hs7⟩

theorem write_any (n₀ : Nat) (O : Foot) (w : World) (D : Nat) (d : Dev) (h : DevAt n₀ O w D d) (at_ : Int) (u : Value) (bs : List (BitVec 8)) (hu : BytesAt w.heap.size w u bs) (hn : n₀ ≤ w.heap.size)
    (h2 : d.acts < 9223372036854775807) (h3 : d.armed ≤ 9223372036854775807) (hll : d.loose.length ≤ 65536) (hpl : ∀ k, (d.past k).length ≤ 65536) :
    Calls Try.prog 22 #[.pointer (some ⟨D, 0, none⟩), .int .i64 at_, u] w (DevLeft n₀ O w D (d.write at_ bs) (.int .i64 (writeErr d at_ bs.length))) := by
  by_cases hin : askErr d.sectors d.down at_ = 0 ∧ bs.length = d.size
  · have hd : d.write at_ bs = (d.give at_.toNat bs).act := by unfold Dev.write; rw [if_pos hin]
    have he : writeErr d at_ bs.length = if d.armed = 1 then 4 else 0 := by unfold writeErr; rw [if_neg (by simpa using hin.1), if_neg (by simpa using hin.2)]
    rw [hd, he]
    have h0 : 0 ≤ at_ := by
      have := hin.1
      unfold askErr at this
      split at this
      · cases this
      · split at this
        · omega
        · cases this
    obtain ⟨k, rfl⟩ := Int.eq_ofNat_of_zero_le h0
    exact write_in n₀ O w D d h k u bs hu hn hin.1 hin.2 h2 h3 hll (hpl k)
  · exact write_out n₀ O w D d h at_ u bs hu hin

end Go.Proofs.Ytadglpnmhpmebaa

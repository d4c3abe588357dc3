/-
  Proved: whatever acts are done to a device of up to 8 sectors (and to one of a wrong size), the program's device and the document's answer the same at each of them, and behind a crash both read the same in each sector and tell the same past. Whatever sectors, size and acts come in, the law FlashPlays answers true and the arguments read as they did.
  Conditions: none.
-/
import Derived.Test.YtadglpnmhpmebaaJB
import Derived.Test.YtadglpnmhpmebaaFlashApart
import Derived.Test.YtadglpnmhpmebaaJD
import Derived.BigQuiet
namespace Go.Proofs.Ytadglpnmhpmebaa
open Go.RowKit

theorem refSync_any {vF vL vP : Value} {d : Dev} {w : World} (hR : RefAt w.heap.size w vF vL vP d) (h1 : 1 ≤ d.sectors) (hs : d.sectors ≤ 16384) (hl : d.loose.length ≤ 65536) (hk : ∀ x ∈ d.loose, x.1 < d.sectors) (ha : d.acts ≤ 1000000) (hr : d.armed ≤ 9223372036854775807) :
    Calls Try.prog 13 #[.agg (rdC d.size vF vL vP d.armed d.acts d.down)] w (RefRet d.sync (syncErr d) w) := by
  by_cases hd : d.down = true
  · exact refSync_down hR hd
  · have hd : d.down = false := by simpa using hd
    by_cases hb : d.armed = 1
    · exact refSync_ends hR hd hb ha
    · exact refSync_yes hR h1 hs hl hk hd hb ha hr
theorem refRot_any {vF vL vP : Value} {d : Dev} {w : World} (hR : RefAt w.heap.size w vF vL vP d) (at_ b : Int) (m : BitVec 8) (hlen : ∀ k, (d.fast k).length = d.size) (hs : d.sectors ≤ 16384) :
    Calls Try.prog 20 #[.agg (rdC d.size vF vL vP d.armed d.acts d.down), .int .i64 at_, .int .i64 b, .int .u8 (U m)] w (RefRet (d.rot at_ b m) (rotErr d at_ b) w) := by
  by_cases hin : (0 ≤ at_ ∧ at_ < (d.sectors : Int)) ∧ 0 ≤ b ∧ b < (d.size : Int)
  · have e1 : d.rot at_ b m = d.put at_.toNat (rotB d at_.toNat b.toNat m) := by unfold Dev.rot rotB; rw [if_pos hin]
    have e2 : rotErr d at_ b = 0 := by unfold rotErr; rw [if_pos hin]
    rw [e1, e2]
    obtain ⟨k, rfl⟩ := Int.eq_ofNat_of_zero_le hin.1.1
    obtain ⟨q, rfl⟩ := Int.eq_ofNat_of_zero_le hin.2.1
    rw [Int.toNat_natCast, Int.toNat_natCast]
    exact refRot_yes hR k q m (by omega) (by omega) (hlen k) hs
  · have e1 : d.rot at_ b m = d := by unfold Dev.rot; rw [if_neg hin]
    have e2 : rotErr d at_ b = 2 := by unfold rotErr; rw [if_neg hin]
    rw [e1, e2]
    by_cases h1 : 0 ≤ at_ ∧ at_ < (d.sectors : Int)
    · by_cases h2 : b < 0
      · exact refrotB hR at_ b m h1 h2
      · exact refrotC hR at_ b m h1 (by omega) (by omega)
    · exact refrotA hR at_ b m h1
theorem refPut_any {vF vL vP : Value} {d : Dev} {w : World} (hR : RefAt w.heap.size w vF vL vP d) (at_ : Int) (bs : List (BitVec 8)) (hs : d.sectors ≤ 16384) (hl : d.loose.length ≤ 65536) (hp : ∀ j, (d.past j).length ≤ 65536) (ha : d.acts ≤ 1000000) (hr : d.armed ≤ 9223372036854775807) :
    Calls Try.prog 23 #[.agg (rdC d.size vF vL vP d.armed d.acts d.down), .int .i64 at_, .string (strB bs)] w (RefRet (d.write at_ bs) (writeErr d at_ bs.length) w) := by
  by_cases h : askErr d.sectors d.down at_ = 0 ∧ bs.length = d.size
  · have hd : d.down = false := by
      by_cases hd : d.down = true
      · have h1 := h.1
        unfold askErr at h1
        rw [if_pos hd] at h1
        exact absurd h1 (by decide)
      · simpa using hd
    have hin : 0 ≤ at_ ∧ at_ < (d.sectors : Int) := by
      have h1 := h.1
      unfold askErr at h1
      rw [hd, if_neg (by decide)] at h1
      by_cases hin : 0 ≤ at_ ∧ at_ < (d.sectors : Int)
      · exact hin
      · rw [if_neg hin] at h1
        exact absurd h1 (by decide)
    have e1 : d.write at_ bs = (d.give at_.toNat bs).act := by unfold Dev.write; rw [if_pos h]
    have e2 : writeErr d at_ bs.length = if d.act.down then 4 else 0 := by
      unfold writeErr Dev.act
      rw [h.1, if_neg (by decide), if_neg (fun e => e h.2), hd]
      dsimp only
      by_cases h9 : d.armed = 1
      · rw [if_pos h9, if_pos h9]; rfl
      · rw [if_neg h9, if_neg h9]; rfl
    rw [e1, e2]
    obtain ⟨k, rfl⟩ := Int.eq_ofNat_of_zero_le hin.1
    rw [Int.toNat_natCast]
    exact refPut_yes hR k bs (by omega) hd h.2 hs hl hp ha hr
  · exact refPut_not hR at_ bs h

/-- The blocks that hold what is the document's. -/
def Doc (W : World) : Foot := fun k => ∃ cs T sp, W.heap[k]? = some (.cells cs T sp) ∧ (T = 9 ∨ T = 76 ∨ T = 29 ∨ T = 33 ∨ T = 37)
theorem doc_in (W : World) : Foot.In (Doc W) W := fun _ ⟨_, _, _, h, _⟩ => blk_lt h
section
variable {w W W' : World} {D R n : Nat} {d dp dd dp' dd' : Dev} {vF vL vP vF' vL' vP' v : Value} {e : TypeId} {size m : Nat} {f : Nat → Value}
theorem nodoc {g : Nat} {cs : Array Value} {T : TypeId} {sp : Nat × Nat} (h : W.heap[g]? = some (.cells cs T sp)) (hT : ¬ (T = 9 ∨ T = 76 ∨ T = 29 ∨ T = 33 ∨ T = 37)) : ¬ Doc W g := by
  rintro ⟨cs', T', sp', h', hT'⟩
  rw [h] at h'
  cases h'
  exact hT hT'
theorem nodoc_map {g : Nat} {fm : List (Int × Value)} (h : MapIs W g fm) : ¬ Doc W g := by
  obtain ⟨_, es, c, hb, _⟩ := h
  rintro ⟨cs', T', sp', h', hT'⟩
  rw [hb] at h'
  cases h'
theorem nodoc_own {base g sz k : Nat} {T : TypeId} {xs : List Value} (h : W.ownsRow base T sz v k xs) (hg : v.ownBlock = some g) (hT : ¬ (T = 9 ∨ T = 76 ∨ T = 29 ∨ T = 33 ∨ T = 37)) : ¬ Doc W g := by
  rcases h.2 with ⟨rfl, _⟩ | ⟨g', cap, cur, rfl, _, hh, _⟩
  · simp [Value.ownBlock] at hg
  · obtain rfl : g' = g := by simpa [Value.ownBlock] using hg
    exact nodoc hh hT
theorem nodoc_bytes {O : Foot} {bs : List (BitVec 8)} (h : BytesIn O W v bs) : BytesIn (fun k => O k ∧ ¬ Doc W k) W v bs :=
  ⟨h.1, fun hne k e => by
    obtain ⟨h1, cs, z, h2⟩ := h.2 hne k e
    exact ⟨⟨h1, nodoc h2 (by decide)⟩, cs, z, h2⟩⟩
theorem apart_doc (h : DevHere w D d W) : DevApart w (Doc W) D d W := by
  obtain ⟨O, ⟨F, P, L, lv, fm, pm, lm, h⟩, hb⟩ := h
  refine ⟨fun k => O k ∧ ¬ Doc W k, ⟨F, P, L, lv, fm, pm, lm, ?_⟩, hb, fun k ho hq => ho.2 hq, doc_in W⟩
  exact { h with
    oD := ⟨h.oD, nodoc h.blk (by decide)⟩
    oF := ⟨h.oF, nodoc_map h.mF⟩
    oP := ⟨h.oP, nodoc_map h.mP⟩
    oL := ⟨h.oL, nodoc_map h.mL⟩
    inn := fun k hk => h.inn k hk.1
    lo := fun k hk => h.lo k hk.1
    fast := fun k hk => (h.fast k hk).imp id fun ⟨v, h1, h2⟩ => ⟨v, h1, nodoc_bytes h2⟩
    past := fun k hk => (h.past k hk).imp id fun ⟨v, h1, cells, h2, h3, h4⟩ => ⟨v, h1, cells, h2, fun j hj => ⟨h3 j hj, nodoc_own h2 hj (by decide)⟩, fun i x hx => by
      obtain ⟨u, hu, hb⟩ := h4 i x hx
      exact ⟨u, hu, nodoc_bytes hb⟩⟩
    loose := by
      obtain ⟨cells, h2, h3, h4⟩ := h.loose
      refine ⟨cells, h2, fun j hj => ⟨h3 j hj, nodoc_own h2 hj (by decide)⟩, fun i x hx => ?_⟩
      obtain ⟨h5, u, hu, hb⟩ := h4 i x hx
      exact ⟨h5, u, hu, nodoc_bytes hb⟩ }
theorem RowF.same (h : RowF n W v e size m f) (hs : Same (Doc W) W W') (he : e = 9 ∨ e = 76 ∨ e = 29 ∨ e = 33 ∨ e = 37) : RowF n W' v e size m f := by
  rcases h with h | ⟨g, c, hm, hv, hc, hg, h, cs, sp, ht⟩
  · exact .inl h
  · have hb := hs.2 g ⟨cs, e, sp, ht, he⟩
    exact .inr ⟨g, c, hm, hv, hc, hg, fun i hi => (World.cell?_of_block (w := W) (a := ⟨g, i, none⟩) hb).trans (h i hi), cs, sp, hb.trans ht⟩
theorem RefAt.same (h : RefAt n W vF vL vP d) (hs : Same (Doc W) W W') : RefAt n W' vF vL vP d := by
  obtain ⟨h1, h2, us, h3, h4⟩ := h
  exact ⟨h1.same hs (by decide), h2.same hs (by decide), us, h3.same hs (by decide), fun k hk => (h4 k hk).same hs (by decide)⟩
/-- The program's device in block D, the document's boxed in block R. -/
structure Two (w : World) (D R : Nat) (dp dd : Dev) (vF vL vP : Value) (W : World) : Prop where
  here : DevHere w D dp W
  lo : w.heap.size ≤ R
  r : W.heap[R]? = some (.cells (rdC dd.size vF vL vP dd.armed dd.acts dd.down) 33 (0, 0))
  ref : RefAt W.heap.size W vF vL vP dd
theorem Two.on (h : Two w D R dp dd vF vL vP W) (hb : Below W.heap.size W W') : Two w D R dp dd vF vL vP W' :=
  ⟨h.here.on hb, h.lo, (hb.block _ (blk_lt h.r)).trans h.r, h.ref.next hb⟩
/-- The program has done something. -/
theorem Two.prog (h : Two w D R dp dd vF vL vP W) {r : Value} {e : Ending} (hd : DidApart w (Doc W) D dp' r W e W') : Two w D R dp' dd vF vL vP W' :=
  ⟨hd.2.1.here, h.lo, (hd.2.2.2 R ⟨_, _, _, h.r, by decide⟩).trans h.r, (h.ref.same hd.2.2).mono hd.2.2.1⟩
theorem here_row (h : DevHere w D d W) {cs cs' : Array Value} (hr : W.heap[R]? = some (.cells cs 33 (0, 0))) (hlo : w.heap.size ≤ R) : DevHere w D d (W.setRow R cs') := by
  obtain ⟨O, h1, h2, h3, h4⟩ := apart_doc h
  have hR : ¬ O R := fun ho => h3 R ho ⟨_, _, _, hr, by decide⟩
  exact ⟨O, h1.keep ⟨by rw [size_setRow]; exact Nat.le_refl _, fun k hk => setRow_other W R k cs' (fun e => hR (e ▸ hk))⟩, below_setRow h2 hlo _⟩
theorem here_cell (h : DevHere w D d W) {cs : Array Value} (hr : W.heap[R]? = some (.cells cs 33 (0, 0))) (hlo : w.heap.size ≤ R) (i : Nat) (u : Value) : DevHere w D d (W.setCell ⟨R, i, none⟩ u) := by
  obtain ⟨O, h1, h2, h3, h4⟩ := apart_doc h
  have hR : ¬ O R := fun ho => h3 R ho ⟨_, _, _, hr, by decide⟩
  exact ⟨O, h1.keep ⟨(set_moves04 (W := W) R i u).size, fun k hk => set_other W R i k u (fun e => hR (e ▸ hk))⟩, h2.setCell (p := ⟨R, i, none⟩) hlo _⟩
/-- The document has answered, and the answer is stored. -/
theorem Two.doc (h : Two w D R dp dd vF vL vP W) (hb : Below W.heap.size W W') (hr : RefAt W'.heap.size W' vF' vL' vP' dd') : Two w D R dp dd' vF' vL' vP' (W'.setRow R (rdC dd'.size vF' vL' vP' dd'.armed dd'.acts dd'.down)) := by
  have h2 := h.on hb
  exact ⟨here_row h2.here h2.r h.lo, h.lo, setRow_heap _ _ _ _ _ _ h2.r, (hr.turn h2.r (Nat.le_refl _) (row_moves04 _ _)).mono (by rw [size_setRow]; exact Nat.le_refl _)⟩
/-- The document's device is armed. -/
theorem Two.arm (h : Two w D R dp dd vF vL vP W) (k : Nat) : Two w D R dp { dd with armed := k } vF vL vP (W.setCell ⟨R, 4, none⟩ (.int .i64 k)) :=
  ⟨here_cell h.here h.r h.lo 4 _, h.lo, blk_set h.r 4 _, (h.ref.turn h.r (Nat.le_refl _) (set_moves04 R 4 (.int .i64 k))).mono (set_moves04 (W := W) R 4 (.int .i64 k)).size⟩
end
end Go.Proofs.Ytadglpnmhpmebaa
namespace Go.Proofs.Ytadglpnmhpmebaa
open Go.RowKit

set_option maxRecDepth 100000 in
set_option maxHeartbeats 4000000 in
theorem past04_any {n0 n1 : Nat} {W : World} {u v : Value} {l : List (List (BitVec 8))} (hu : PRows n0 W u l) (hv : StrsF n1 W v l.length fun i => l[i]?.getD []) (hl : l.length ≤ 1000000) :
    Calls Try.prog 27 #[u, v] W fun e w' => e = .returned (.bool true) ∧ Below W.heap.size W w' := by
  obtain ⟨us, ho, hx⟩ := hu
  obtain ⟨ua, uc, rfl⟩ := owns_slice ho
  obtain ⟨va, vc, rfl⟩ := hv.slice
  obtain ⟨n, hn⟩ : ∃ n, l.length = n := ⟨_, rfl⟩
  rw [hn] at ho hv hl ⊢
  have HO := Lib.hid ho
  have HV := Lib.hid hv
  have HX := Lib.hid hx
  have HN := Lib.hid hn
  have k1 : (n : Int) ≤ 1000000 := by omega
  clear ho hv hx hn hl
  go_enter Try.func27, Try.ntmps27
  go_wp2
  go_loopw [5] (fun i wr => ∃ j : Nat, j ≤ n ∧ i = .int .i64 j ∧ Below W.heap.size W wr) (fun i _ => n - (intOf i).toNat)
  case atStart => exact ⟨0, Nat.zero_le _, rfl, Below.refl _ _⟩
  case round =>
    obtain ⟨j, hj, rfl, hB⟩ := hrel
    have HB := Lib.hid hB
    clear hB
    by_cases hlt : j < n
    · have j1 : (j : Int) < n := by omega
      have j0 : (0 : Int) ≤ j := by omega
      obtain ⟨gu, uc', hgu, _⟩ := slice_cells HO.out (by omega)
      cases hgu
      obtain ⟨gv, vc', hm, hgv, hc, hlv, hcv, _⟩ := (HV.out).resolve_left (fun h => by omega)
      cases hgv
      obtain ⟨x, hx⟩ : ∃ x, l[j]? = some x := ⟨l[j]'(by have := HN.out; omega), List.getElem?_eq_getElem _⟩
      obtain ⟨y, hy, hyo⟩ := HX.out j x hx
      obtain ⟨ya, yc, rfl⟩ := owns_slice hyo
      have c1 := HO.out.cells (g := gu) rfl j _ hy
      rw [add_plain, Nat.zero_add] at c1
      have c2 : W.cell? ⟨gv, j, none⟩ = some (.string (strB (l[j]?.getD []))) := hcv j (by omega)
      rw [hx] at c2
      have hgl : gu < W.heap.size := (HO.out.lt gu rfl).2
      have hvl : gv < W.heap.size := by
        obtain ⟨cs, sp, h⟩ := ‹∃ cs sp, W.heap[gv]? = some (.cells cs 9 sp)›
        exact blk_lt h
      have e1 := (HB.out.cell (p := ⟨gu, j, none⟩) hgl).trans c1
      have e2 := (HB.out.cell (p := ⟨gv, j, none⟩) hvl).trans c2
      have e3 := conv_str (((BytesAt.of_owns hyo).below HB.out))
      have HS := Lib.hid (And.intro (show wr.drew.cell? ⟨gu, j, none⟩ = _ from e1) (And.intro (show wr.drew.cell? ⟨gv, j, none⟩ = _ from e2) (conv_str ((((BytesAt.of_owns hyo).below HB.out)).below ((Below.refl _ _).drew)))))
      have HD := Lib.hid HB.out.drew
      have HLT := Lib.hid hlt
      clear hj hlt hm hc hlv hcv hx hy hyo c1 c2 hgl hvl e1 e2 e3
      go_upto_region 6 with (fail)
      go_region_held3 (fun (V : World) => V.cell? ⟨gu, j, none⟩ = some (.slice ya x.length yc) ∧ V.cell? ⟨gv, j, none⟩ = some (.string (strB x)) ∧ (convert 42 9 (.slice ya x.length yc)).run Try.prog V = .ok (.string (strB x)) V)
        (exact HS.out)
        (fail)
      all_goals
        go_wp2
        go_roundw
        case rel => exact ⟨j + 1, HLT.out, by go_num, HD.out⟩
        case measure => have := HLT.out; simp [intOf]; omega
    · obtain rfl : j = n := by omega
      clear hj hlt
      go_wp2
      go_ret
      exact ⟨rfl, HB.out⟩
end Go.Proofs.Ytadglpnmhpmebaa
namespace Go.Proofs.Ytadglpnmhpmebaa
open Go.RowKit

theorem fsectors_nil4 (w : World) : Calls Try.prog 8 #[.pointer none] w fun e w' => e = .returned (.int .i64 0) ∧ w = w' := by
  go_enter Try.func8, Try.ntmps8
  go_wp2
  go_ret
  exact ⟨rfl, rfl⟩
theorem fsize_nil4 (w : World) : Calls Try.prog 9 #[.pointer none] w fun e w' => e = .returned (.int .i64 0) ∧ w = w' := by
  go_enter Try.func9, Try.ntmps9
  go_wp2
  go_ret
  exact ⟨rfl, rfl⟩
set_option maxHeartbeats 1000000 in
theorem fnew_not (s z : Int) (h : ¬ ((1 ≤ s ∧ s ≤ 16384) ∧ (96 ≤ z ∧ z ≤ 512))) (w : World) : Calls Try.prog 6 #[.int .i64 s, .int .i64 z] w fun e w' => e = .returned (.pointer none) ∧ w = w' := by
  by_cases h1 : s < 1
  · clear h
    go_enter Try.func6, Try.ntmps6
    go_wp2
    go_ret
    exact ⟨rfl, rfl⟩
  · by_cases h2 : 16384 < s
    · clear h
      go_enter Try.func6, Try.ntmps6
      go_wp2
      go_ret
      exact ⟨rfl, rfl⟩
    · by_cases h3 : z < 96
      · clear h
        go_enter Try.func6, Try.ntmps6
        go_wp2
        go_ret
        exact ⟨rfl, rfl⟩
      · have h4 : 512 < z := by omega
        clear h
        go_enter Try.func6, Try.ntmps6
        go_wp2
        go_ret
        exact ⟨rfl, rfl⟩
set_option maxRecDepth 100000 in
set_option maxHeartbeats 4000000 in
theorem plays_many (s z : Int) (v : Value) (l : List Act4) (w : World) (hv : ActsAt4 w.heap.size w v l) (hl : l.length ≤ maxLen) (h : light4B l = false ∨ (8 < s ∧ s ≤ 16384)) : Calls Try.prog 3 #[.int .i64 s, .int .i64 z, v] w (Good w) := by
  have HL := Lib.hid (light4_any l v w.heap.size w hv hl)
  cases hb : light4B l with
  | false =>
    rw [hb] at HL
    clear h hb hv hl
    go_enter Try.func3, Try.ntmps3
    go_wp2_with (go_at_call 5; (with_reducible refine HL.out.mono ?_); rintro e w1 ⟨rfl, rfl⟩)
    go_ret
    exact ⟨rfl, Below.refl _ _⟩
  | true =>
    obtain ⟨h1, h2⟩ := h.resolve_left (by rw [hb]; decide)
    rw [hb] at HL
    clear h hb hv hl
    go_enter Try.func3, Try.ntmps3
    go_wp2_with (go_at_call 5; (with_reducible refine HL.out.mono ?_); rintro e w1 ⟨rfl, rfl⟩)
    go_ret
    exact ⟨rfl, Below.refl _ _⟩
set_option maxRecDepth 100000 in
set_option maxHeartbeats 4000000 in
theorem plays_wrong (s z : Int) (v : Value) (l : List Act4) (w : World) (hv : ActsAt4 w.heap.size w v l) (hl : l.length ≤ maxLen) (hb : light4B l = true) (h8 : ¬ (8 < s ∧ s ≤ 16384)) (h : ¬ ((1 ≤ s ∧ s ≤ 16384) ∧ (96 ≤ z ∧ z ≤ 512))) : Calls Try.prog 3 #[.int .i64 s, .int .i64 z, v] w (Good w) := by
  have HL := Lib.hid (light4_any l v w.heap.size w hv hl)
  rw [hb] at HL
  have HN := Lib.hid (fun W => fnew_not s z h W)
  have HRT := Lib.hid (fun W => refRight04_any s z W)
  rw [show decide ((1 ≤ s ∧ s ≤ 16384) ∧ (96 ≤ z ∧ z ≤ 512)) = false by simpa using h] at HRT
  by_cases h9 : 8 < s
  · have h10 : ¬ s ≤ 16384 := fun e => h8 ⟨h9, e⟩
    clear h h8 hb hv hl
    go_enter Try.func3, Try.ntmps3
    go_wp2_with (first
      | (go_at_call 5; (with_reducible refine HL.out.mono ?_); rintro e w1 ⟨rfl, rfl⟩)
      | (go_at_call 6; (with_reducible refine (HN.out _).mono ?_); rintro e w1 ⟨rfl, rfl⟩)
      | (go_at_call 7; (with_reducible refine (HRT.out _).mono ?_); rintro e w1 ⟨rfl, rfl⟩)
      | (go_at_call 8; (with_reducible refine (fsectors_nil4 _).mono ?_); rintro e w1 ⟨rfl, rfl⟩)
      | (go_at_call 9; (with_reducible refine (fsize_nil4 _).mono ?_); rintro e w1 ⟨rfl, rfl⟩)
      | (go_at_call 10; (with_reducible refine (awake04 _).mono ?_); rintro e w7 ⟨rfl, hb7⟩))
    go_ret
    exact ⟨rfl, hb7⟩
  · clear h h8 hb hv hl
    go_enter Try.func3, Try.ntmps3
    go_wp2_with (first
      | (go_at_call 5; (with_reducible refine HL.out.mono ?_); rintro e w1 ⟨rfl, rfl⟩)
      | (go_at_call 6; (with_reducible refine (HN.out _).mono ?_); rintro e w1 ⟨rfl, rfl⟩)
      | (go_at_call 7; (with_reducible refine (HRT.out _).mono ?_); rintro e w1 ⟨rfl, rfl⟩)
      | (go_at_call 8; (with_reducible refine (fsectors_nil4 _).mono ?_); rintro e w1 ⟨rfl, rfl⟩)
      | (go_at_call 9; (with_reducible refine (fsize_nil4 _).mono ?_); rintro e w1 ⟨rfl, rfl⟩)
      | (go_at_call 10; (with_reducible refine (awake04 _).mono ?_); rintro e w7 ⟨rfl, hb7⟩))
    go_ret
    exact ⟨rfl, hb7⟩
end Go.Proofs.Ytadglpnmhpmebaa
namespace Go.Proofs.Ytadglpnmhpmebaa
open Go.RowKit

theorem below_drewN (w : World) (n : Nat) : Below w.heap.size w (w.drewN n) := ⟨rfl, rfl, rfl, Nat.le_refl _, fun _ _ => rfl⟩
theorem acts_below4 {n₀ : Nat} {w w' : World} {v : Value} {l : List Act4} (h : ActsAt4 n₀ w v l) (hb : Below n₀ w w') : ActsAt4 n₀ w' v l := by
  obtain ⟨a, cap, rfl, hc, hw, h⟩ := h
  refine ⟨a, cap, rfl, hc, hw, h.imp id ?_⟩
  rintro ⟨g, off, rfl, hg, hx⟩
  exact ⟨g, off, rfl, hg, fun i hi => (hx i hi).below hb hg⟩
theorem light4_parts {l : List Act4} (h : light4B l = true) : l.length ≤ 40 ∧ ∀ x ∈ l, x.fates.length ≤ 60 := by
  unfold light4B at h
  rw [Bool.and_eq_true, List.all_eq_true] at h
  exact ⟨by simpa using h.1, fun x hx => by simpa using h.2 x hx⟩
theorem Two.step {w W W' : World} {D R : Nat} {dp dd dp' : Dev} {vF vL vP : Value} (h : Two w D R dp dd vF vL vP W) (hd : DevHere w D dp' W') (hs : Same (Doc W) W W') : Two w D R dp' dd vF vL vP W' :=
  ⟨hd, h.lo, (hs.2 R ⟨_, _, _, h.r, by decide⟩).trans h.r, (h.ref.same hs).mono hs.1⟩
theorem got_bytes {w W W' : World} {D : Nat} {d : Dev} {at_ : Int} {e : Ending} (h : GotAt w D d at_ W e W') : ∃ a q, e = .returned (.tuple #[.slice a (readS04 d at_).length q, .int .i64 (askErr d.sectors d.down at_)]) ∧ BytesAt W'.heap.size W' (.slice a (readS04 d at_).length q) (readS04 d at_) ∧ Below W.heap.size W W' := by
  obtain ⟨_, hb, v, he, h⟩ := h
  rcases h with ⟨h1, rfl⟩ | ⟨h1, h2, h3⟩
  · have e0 : readS04 d at_ = [] := by unfold readS04; rw [if_neg h1]
    rw [e0]
    exact ⟨none, 0, he, BytesAt.nil _ _, hb⟩
  · have e0 : readS04 d at_ = d.cur at_.toNat := by unfold readS04; rw [if_pos h1]
    rw [e0]
    obtain ⟨a, c, rfl⟩ := owns_slice h2
    rw [← h3] at h2 he
    exact ⟨a, c, he, BytesAt.of_owns h2, hb⟩
theorem ints_mono4 {n₀ n₁ : Nat} {W : World} {v : Value} {fs : List Int} (h : IntsIn n₀ W v fs) (hn : n₀ ≤ n₁) : IntsIn n₁ W v fs := by
  obtain ⟨a, cap, rfl, h⟩ := h
  refine ⟨a, cap, rfl, h.imp id ?_⟩
  rintro ⟨g, off, rfl, hg, hc⟩
  exact ⟨g, off, rfl, by omega, hc⟩
theorem infoInt4 : (Try.prog.info? 3).map (fun i => (i.zero, i.size, i.bytes)) = some (some (.int .i64 0), 1, 8) := by kernel_rfl
theorem wpList_append_intsIn {w : World} {ops : Array Oper} {rest : List Oper} {o : Oper} {a : Act} {Q : Exit → Act → World → Prop} (hgd : o.guard = none) (s x : Operand) (hty : o.type = 35)
    (ho : o.op = .call { callee := .builtin .append, args := #[s, x], argTypes := #[35, 35] }) (base : Nat)
    (v : Value) (hs : a.eval s = v) (hown : w.ownsRow base 3 1 v 0 []) (u : Value) (hx : a.eval x = u) (n₀ : Nat) (fs : List Int) (hu : IntsIn n₀ w u fs) (hlen : fs.length ≤ 1000000) (hb : base ≤ w.heap.size)
    (h : ∀ v' w', w'.ownsRow base 3 1 v' fs.length (fs.map (Value.int .i64)) → w.grownBy w' v.ownBlock → wpList Try.prog ops Q rest (a.put o.dst v') w') : wpList Try.prog ops Q (o :: rest) a w := by
  obtain ⟨i0, hi, hz0, hz1, hz2⟩ := info_parts3 infoInt4
  have key : ∃ v' w', (Builtin.append_ #[35, 35] 35 #[v, u]).run Try.prog w = .ok v' w' ∧ w'.ownsRow base 3 1 v' fs.length (fs.map (Value.int .i64)) ∧ w.grownBy w' v.ownBlock := by
    obtain ⟨ad, cap, rfl, hu⟩ := hu
    by_cases hf : fs = []
    · subst hf
      refine ⟨v, w, ?_, hown, ⟨rfl, rfl, rfl, Nat.le_refl _, fun _ _ _ => rfl⟩⟩
      cases ad with
      | none =>
        rcases hown.2 with ⟨rfl, _⟩ | ⟨g, cap, cur, rfl, _, _, hnc, _⟩
        · simp [Builtin.append_, run_underlying Try.underlying35, sizeOf, typeInfo, hi, Builtin.lenOf, Builtin.firstCells]
        · simp [Builtin.append_, run_underlying Try.underlying35, sizeOf, typeInfo, hi, Builtin.lenOf, Builtin.firstCells, hnc, storeCells]
      | some ad =>
        rcases hown.2 with ⟨rfl, _⟩ | ⟨g, cap, cur, rfl, _, _, hnc, _⟩
        · simp [Builtin.append_, run_underlying Try.underlying35, sizeOf, typeInfo, hi, Builtin.lenOf, Builtin.firstCells, loadCells, loadCellsFrom]
        · simp [Builtin.append_, run_underlying Try.underlying35, sizeOf, typeInfo, hi, Builtin.lenOf, Builtin.firstCells, hnc, storeCells, loadCells, loadCellsFrom]
    · rcases hu with hu | ⟨g, off, rfl, hg, hc⟩
      · exact absurd hu hf
      · obtain ⟨v', w', hr, h2, h3, _, _⟩ := run_append_own_at (P := Try.prog) w base 35 35 3 i0 (.int .i64 0) 1 8 Try.underlying35 hi hz0 hz1 hz2 rfl (by decide) v 0 [] hown ⟨g, off, none⟩ fs.length cap (fs.map (Value.int .i64))
          (by simp) (fun j u hj => by
            rw [List.getElem?_map] at hj
            by_cases hjm : j < fs.length
            · rw [List.getElem?_eq_getElem hjm] at hj
              cases hj
              rw [add_plain, hc j hjm, List.getElem?_eq_getElem hjm]
              rfl
            · rw [List.getElem?_eq_none (by simpa using hjm)] at hj
              cases hj) (fun u hu => by
            obtain ⟨i, _, rfl⟩ := List.mem_map.1 hu
            rfl) (by unfold maxLen; omega) (by omega) hb
        rw [Nat.zero_add, List.nil_append] at h2
        exact ⟨v', w', hr, h2, h3⟩
  obtain ⟨v', w', hr, h2, h3⟩ := key
  refine wpList_plain hgd fun _ hK => ?_
  unfold Oper.wp
  simp [execOp, ho, resolve, invoke, builtin, hs, hx, hty, hr, Result.andThen]
  exact hK _ _ (h v' w' h2 h3)
theorem apart_crash_own {w W W' : World} {Q : Foot} {D : Nat} {d : Dev} (h : DevApart w Q D d W) (fs : List Int) (hb2 : Below W.heap.size W W') {v : Value} (ho2 : W'.ownsRow W.heap.size 3 1 v fs.length (fs.map (Value.int .i64))) {k : Nat} (hs : d.Small k) (hk : k ≤ 65536) (hf : fs.length ≤ 1099511627776) :
    Calls Try.prog 17 #[.pointer (some ⟨D, 0, none⟩), v] W' (DidApart w Q D (d.crash fs) (.tuple #[]) W') := by
  obtain ⟨O, h, hb, ho, hi⟩ := h
  have h2 := hs.loose
  have hv2 : IntsOff O W' v fs := by
    obtain ⟨a, c, rfl⟩ := owns_slice ho2
    refine ⟨a, c, rfl, ?_⟩
    by_cases hf : fs = []
    · exact .inl hf
    · obtain ⟨g, cap, hg, _⟩ := slice_cells ho2 (List.length_pos_iff.2 hf)
      simp only [Value.slice.injEq] at hg
      obtain ⟨rfl, _, rfl⟩ := hg
      obtain ⟨hlo, hhi⟩ := ho2.lt g rfl
      refine .inr ⟨g, 0, rfl, hhi, fun hO => by have := h.inn _ hO; omega, fun j hj => ?_⟩
      have h1 := ho2.cells (g := g) rfl j (.int .i64 (fs[j]?.getD 0)) (by rw [List.getElem?_map, List.getElem?_eq_getElem hj]; rfl)
      rw [add_plain] at h1
      exact h1
  have h3 := h.keep (Same.of_below hb2 h.inn)
  have hb3 := hb.trans (hb2.mono hb.size)
  exact (crash_any w.heap.size O W' D d h3 _ fs hv2 hb3.size (by omega) hf).mono fun _ _ hl => DevApart.left h3 hb3 ho (fun k hk => Nat.lt_of_lt_of_le (hi k hk) hb2.size) hl
end Go.Proofs.Ytadglpnmhpmebaa
namespace Go.Proofs.Ytadglpnmhpmebaa
open Go.RowKit

set_option maxRecDepth 100000 in
set_option maxHeartbeats 200000000 in
theorem plays_main (s z : Nat) (hr : (1 ≤ s ∧ s ≤ 8) ∧ (96 ≤ z ∧ z ≤ 512)) (v : Value) (l : List Act4) (w : World) (hv : ActsAt4 w.heap.size w v l) (hl : l.length ≤ maxLen) (hb : light4B l = true) : Calls Try.prog 3 #[.int .i64 s, .int .i64 z, v] w (Good w) := by
  have HL := Lib.hid (light4_any l v w.heap.size w hv hl)
  rw [hb] at HL
  obtain ⟨hl40, hf60⟩ := light4_parts hb
  have HN : Hid (Calls Try.prog 6 #[.int .i64 s, .int .i64 z] w fun e W' => ∃ D, e = .returned (.pointer (some ⟨D, 0, none⟩)) ∧ DevHere w D (Dev.new s z) W' ∧ Below w.heap.size w W') := here_new s z ⟨⟨by omega, by omega⟩, hr.2⟩ (Below.refl _ _)
  have HRT : Hid (∀ W, Calls Try.prog 7 #[.int .i64 s, .int .i64 z] W fun e w' => e = .returned (.bool true) ∧ W = w') := fun W => by
    have := refRight04_any s z W
    rwa [show decide ((1 ≤ (s : Int) ∧ (s : Int) ≤ 16384) ∧ (96 ≤ (z : Int) ∧ (z : Int) ≤ 512)) = true by simp; omega] at this
  have HRN : Hid (∀ W, Calls Try.prog 11 #[.int .i64 s, .int .i64 z] W fun e w' => ∃ vF vL vP, e = .returned (.agg (rdC z vF vL vP 0 0 false)) ∧ RefAt w'.heap.size w' vF vL vP (Dev.new s z) ∧ Below W.heap.size W w') := fun W => refNew_any s z (by omega) (by omega) W
  obtain ⟨a, cap, rfl, hcap, hwf, hx⟩ := hv
  have HX := Lib.hid (And.intro hwf (And.intro hf60 hx))
  have HRR := Lib.hid hr
  have s1 : (s : Int) ≤ 8 := by omega
  have s0 : (1 : Int) ≤ s := by omega
  have z0 : (96 : Int) ≤ z := by omega
  have z1 : (z : Int) ≤ 512 := by omega
  have l1 : (l.length : Int) ≤ 40 := by omega
  clear hr hl hb hl40 hf60 hcap hwf hx
  go_enter Try.func3, Try.ntmps3
  go_upto_region 6 with (first
    | (go_at_call 5; (with_reducible refine HL.out.mono ?_); rintro e w1 ⟨rfl, rfl⟩)
    | (go_at_call 6; (with_reducible refine HN.out.mono ?_); rintro e w1 ⟨D, rfl, hd1, hb1⟩; have HD := Lib.hid hd1; have HB1 := Lib.hid hb1; clear hd1 hb1)
    | (go_at_call 7; (with_reducible refine (HRT.out _).mono ?_); rintro e w2 ⟨rfl, rfl⟩))
  go_upto_region 7 with (first
    | (go_at_call 11; (with_reducible refine (HRN.out _).mono ?_); rintro e w2 ⟨vF, vL, vP, rfl, hR, hb2⟩; obtain ⟨a1, c1, rfl⟩ := hR.1.slice; obtain ⟨a2, c2, rfl⟩ := hR.2.1.slice; obtain ⟨a3, c3, rfl⟩ := hR.2.2.slice; have HR := Lib.hid hR; have HB2 := Lib.hid hb2; have HZ := Lib.hid (heap_alloc_new w2 (.cells rd0 33)); clear hR hb2)
    | (refine wpList_store_row (o := ⟨none, _, _, _, _, _⟩) rfl 33 (.tmp 8) (.tmp 58) rfl w2.heap.size (rdC z _ _ _ 0 0 false) rfl rfl 33 rd0 HZ.out (rd_sz _ _ _ _ _ _ _) rfl ?_ ?_; exact rd_one))
  obtain ⟨R, hR⟩ : ∃ R, w2.heap.size = R := ⟨_, rfl⟩
  have hT : Two w D w2.heap.size (Dev.new s z) (Dev.new s z) (.slice a1 (Dev.new s z).sectors c1) (.slice a2 (Dev.new s z).loose.length c2) (.slice a3 (Dev.new s z).sectors c3) ((w2.alloc (.cells rd0 33)).setRow w2.heap.size (rdC z (.slice a1 (Dev.new s z).sectors c1) (.slice a2 (Dev.new s z).loose.length c2) (.slice a3 (Dev.new s z).sectors c3) 0 0 false)) := by
    have hba : Below w2.heap.size w2 (w2.alloc (.cells rd0 33)) := (Below.refl _ _).alloc (Nat.le_refl _) _
    have hlo : w.heap.size ≤ w2.heap.size := Nat.le_trans HB1.out.size HB2.out.size
    exact ⟨here_row ((HD.out.on HB2.out).on hba) HZ.out hlo, hlo, setRow_heap _ _ _ _ _ _ HZ.out, ((HR.out.next hba).turn HZ.out (Nat.le_refl _) (row_moves04 _ _)).mono (by rw [size_setRow]; exact Nat.le_refl _)⟩
  change Code.wp _ _ _ _ ((w2.alloc (.cells rd0 33)).setRow w2.heap.size (rdC z (.slice a1 (Dev.new s z).sectors c1) (.slice a2 (Dev.new s z).loose.length c2) (.slice a3 (Dev.new s z).sectors c3) 0 0 false))
  obtain ⟨w3, hw3⟩ : ∃ w3, (w2.alloc (.cells rd0 33)).setRow w2.heap.size (rdC z (.slice a1 (Dev.new s z).sectors c1) (.slice a2 (Dev.new s z).loose.length c2) (.slice a3 (Dev.new s z).sectors c3) 0 0 false) = w3 := ⟨_, rfl⟩
  rw [hw3] at hT ⊢
  rw [hR] at hT ⊢
  have HT := Lib.hid hT
  clear hT hw3 hR HZ HR HB2 HD HB1 HRN HRT HN HL
  go_wp2
  go_loopw [9] (fun i wr => ∃ (j : Nat) (d : Dev) (vF vL vP : Value), j ≤ l.length ∧ i = .int .i64 j ∧ d.Is s z j ∧ Two w D R d d vF vL vP wr) (fun i _ => l.length - (intOf i).toNat)
  case atStart => exact ⟨0, Dev.new s z, _, _, _, Nat.zero_le _, rfl, ⟨rfl, rfl, small_new s z⟩, HT.out⟩
  case round =>
    obtain ⟨j, d, vF, vL, vP, hj, rfl, hI, hT⟩ := hrel
    clear HT
    have hsec := hI.sectors
    have hsiz := hI.size
    by_cases hlt : j < l.length
    · have j1 : (j : Int) < l.length := by omega
      have j0 : (0 : Int) ≤ j := by omega
      obtain ⟨hwf, hf60, hx⟩ := HX.out
      rcases hx with hx | ⟨g, off, rfl, hg, hx⟩
      · rw [hx] at hlt; exact absurd hlt (by simp)
      obtain ⟨x, hxe⟩ : ∃ x, l[j]?.getD default = x := ⟨_, rfl⟩
      have hmem : x ∈ l := by rw [← hxe, List.getElem?_eq_getElem hlt]; exact List.getElem_mem hlt
      have hxw := hwf x hmem
      have hxf := hf60 x hmem
      have hxa := (hx j hlt)
      rw [hxe] at hxa
      obtain ⟨v0, v1, v2, v3, u, v4, hu⟩ := hxa
      obtain ⟨ua, uc, rfl⟩ := hu.arg
      have HU0 := Lib.hid hu
      have c0 := (hT.here.below.cell (p := ⟨g, off + j * 5, none⟩) hg).trans v0
      have c1 := (hT.here.below.cell (p := ⟨g, off + j * 5 + 1, none⟩) hg).trans v1
      have c2 := (hT.here.below.cell (p := ⟨g, off + j * 5 + 2, none⟩) hg).trans v2
      have c3 := (hT.here.below.cell (p := ⟨g, off + j * 5 + 3, none⟩) hg).trans v3
      have c4 := (hT.here.below.cell (p := ⟨g, off + j * 5 + 4, none⟩) hg).trans v4
      replace hu := hu.below hT.here.below
      have HLT := Lib.hid hlt
      have HI := Lib.hid hI
      have HXW := Lib.hid hxw
      have HXF := Lib.hid hxf
      have HT := Lib.hid hT
      have HU := Lib.hid hu
      clear hwf hf60 hx hxe hmem v0 v1 v2 v3 v4 hg hlt hj hI hT hxw hxf hu
      go_upto_region 12 with (fail)
      have hA : (wr.alloc (.cells #[.int .i64 x.kind, .int .i64 x.at_, .int .i64 x.len, .int .u8 (U x.b), .slice ua x.fates.length uc] 37)).heap[wr.heap.size]? = some (.cells #[.int .i64 x.kind, .int .i64 x.at_, .int .i64 x.len, .int .u8 (U x.b), .slice ua x.fates.length uc] 37 (0, 0)) := heap_alloc_new _ _
      have hba : Below wr.heap.size wr (wr.alloc (.cells #[.int .i64 x.kind, .int .i64 x.at_, .int .i64 x.len, .int .u8 (U x.b), .slice ua x.fates.length uc] 37)) := (Below.refl _ _).alloc (Nat.le_refl _) _
      have hT := HT.out.on hba
      have hu := HU.out.below (hba.mono HT.out.here.size)
      obtain ⟨w4, hw4⟩ : ∃ w4, wr.alloc (.cells #[.int .i64 x.kind, .int .i64 x.at_, .int .i64 x.len, .int .u8 (U x.b), .slice ua x.fates.length uc] 37) = w4 := ⟨_, rfl⟩
      rw [hw4] at hA hT hu ⊢
      obtain ⟨A, hAe⟩ : ∃ A, wr.heap.size = A := ⟨_, rfl⟩
      rw [hAe] at hA ⊢
      clear hba hw4 hAe c0 c1 c2 c3 c4 HT HU
      have c0 : w4.cell? ⟨A, 0, none⟩ = some (.int .i64 x.kind) := blk_cell hA 0
      have c1 : w4.cell? ⟨A, 1, none⟩ = some (.int .i64 x.at_) := blk_cell hA 1
      have c2 : w4.cell? ⟨A, 2, none⟩ = some (.int .i64 x.len) := blk_cell hA 2
      have c3 : w4.cell? ⟨A, 3, none⟩ = some (.int .u8 (U x.b)) := blk_cell hA 3
      have c4 : w4.cell? ⟨A, 4, none⟩ = some (.slice ua x.fates.length uc) := blk_cell hA 4
      obtain ⟨hk8, hk0, hk1⟩ := kind8 x.kind
      have HA := Lib.hid hA
      have HT := Lib.hid hT
      have HU := Lib.hid hu
      have HTS : Hid (d.sectors = s ∧ d.size = z) := ⟨hsec, hsiz⟩
      have HSM : Hid (d.Small 65536) := HI.out.small.mono (by have := HLT.out; omega)
      have HP : Hid (DevApart w (Doc w4) D d w4) := apart_doc hT.here
      clear hA hT hu hsec hsiz
      have e8 : x.kind % 8 = 3 ∨ x.kind % 8 = 4 ∨ x.kind % 8 = 5 ∨ x.kind % 8 = 6 ∨ x.kind % 8 = 7 ∨ (x.kind % 8 ≠ 3 ∧ x.kind % 8 ≠ 4 ∧ x.kind % 8 ≠ 5 ∧ x.kind % 8 ≠ 6 ∧ x.kind % 8 ≠ 7) := by omega
      rcases e8 with e | e | e | e | e | e
      · have HSE0 : Hid (1 ≤ d.sectors ∧ d.sectors ≤ 16384) := by have := HTS.out.1; have := HRR.out; unfold Hid; omega
        have HE : Hid (d.doing x = d.sync) := by unfold Hid Dev.doing; rw [if_pos e]
        have HC := Lib.hid (apart_sync HP.out HSM.out (Nat.le_refl _))
        rw [e] at hk8
        have HIS : Hid (d.sync.sectors = s ∧ d.sync.size = z) := ⟨(sync_same d).1.trans HTS.out.1, (sync_same d).2.trans HTS.out.2⟩
        clear e
        go_upto_region 18 with (go_at_call 12; (with_reducible refine HC.out.mono ?_); rintro e w5 hd; have HT5 := Lib.hid (HT.out.prog hd); have HA5 := Lib.hid ((hd.2.2.2 A ⟨_, _, _, HA.out, by decide⟩).trans HA.out); obtain ⟨rfl, _, _⟩ := hd; clear c0 c1 c2 c3 c4)
        obtain ⟨b1, q1, rfl⟩ := HT5.out.ref.1.slice
        obtain ⟨b2, q2, rfl⟩ := HT5.out.ref.2.1.slice
        obtain ⟨b3, q3, rfl⟩ := HT5.out.ref.2.2.slice
        have HRS := Lib.hid (refSync_any HT5.out.ref HSE0.out.1 HSE0.out.2 HSM.out.loose (fun y hy => (HT.out.here.llen y hy).1) (by have := HSM.out.acts; omega) HSM.out.armed)
        have y0 := blk_cell HT5.out.r 0
        have y1 := blk_cell HT5.out.r 1
        have y2 := blk_cell HT5.out.r 2
        have y3 := blk_cell HT5.out.r 3
        have y4 := blk_cell HT5.out.r 4
        have y5 := blk_cell HT5.out.r 5
        have y6 := blk_cell HT5.out.r 6
        unfold rdC at y0 y1 y2 y3 y4 y5 y6
        unfold rdC at HRS
        go_upto_region 33 with (first
          | (go_at_call 13; (with_reducible refine HRS.out.mono ?_); rintro e w6 ⟨vF6, vL6, vP6, rfl, hr6, hb6⟩; obtain ⟨p1, n1, rfl⟩ := hr6.1.slice; obtain ⟨p2, n2, rfl⟩ := hr6.2.1.slice; obtain ⟨p3, n3, rfl⟩ := hr6.2.2.slice; have HT6 := Lib.hid (HT5.out.doc hb6 hr6); have HRB := Lib.hid (HT5.out.on hb6).r; clear y0 y1 y2 y3 y4 y5 y6  hr6 hb6)
          | (refine wpList_store_row (o := ⟨none, _, _, _, _, _⟩) rfl 33 (.tmp 8) (.tmp 98) rfl R (rdC d.sync.size _ _ _ d.sync.armed d.sync.acts d.sync.down) rfl rfl 33 _ HRB.out (rd_sz _ _ _ _ _ _ _) rfl ?_ ?_; exact rd_one))
        generalize hw7 : w6.setRow R (rdC d.sync.size (.slice p1 d.sync.sectors n1) (.slice p2 d.sync.loose.length n2) (.slice p3 d.sync.sectors n3) d.sync.armed d.sync.acts d.sync.down) = w7 at HT6 ⊢
        clear hw7
        clear HRB HRS HC HT5 HA5
        obtain ⟨d2, hd2⟩ : ∃ d2, d.sync = d2 := ⟨_, rfl⟩
        rw [hd2] at HT6 HIS HE
        clear hd2
        have HN6 := Lib.hid (fun n => HT6.out.here.on (below_drewN w7 n))
        have HDN := Lib.hid (fun n => here_down (HN6.out n))
        have HLO := Lib.hid (fun n => here_loose (HN6.out n))
        have HAC := Lib.hid (fun n => here_acts (HN6.out n))
        have HSE := Lib.hid (fun n => here_sectors (HN6.out n))
        have HSI := Lib.hid (fun n => here_size (HN6.out n))
        rw [HIS.out.1] at HSE
        rw [HIS.out.2] at HSI
        have y2 := blk_cell HT6.out.r 2
        have y5 := blk_cell HT6.out.r 5
        have y6 := blk_cell HT6.out.r 6
        unfold rdC at y2 y5 y6
        go_quiet (first
          | (go_at_call 24; exact Calls.quiet_of_same ((HDN.out _).mono fun _ _ h => ⟨h.1, h.2.symm⟩))
          | (go_at_call 25; exact Calls.quiet_of_same ((HLO.out _).mono fun _ _ h => ⟨h.1, h.2.symm⟩))
          | (go_at_call 26; exact Calls.quiet_of_same ((HAC.out _).mono fun _ _ h => ⟨h.1, h.2.symm⟩))
          | (go_at_call 8; exact Calls.quiet_of_same ((HSE.out _).mono fun _ _ h => ⟨h.1, h.2.symm⟩))
          | (go_at_call 9; exact Calls.quiet_of_same ((HSI.out _).mono fun _ _ h => ⟨h.1, h.2.symm⟩)))
        all_goals go_wp2
        all_goals go_roundw
        case rel => exact ⟨j + 1, d.doing x, _, _, _, HLT.out, by go_num, doing_is HI.out x HXW.out, by rw [HE.out]; exact HT6.out.on (below_drewN w7 _)⟩
        case measure => have := HLT.out; simp [intOf]; omega
      · have HSE0 : Hid (1 ≤ d.sectors ∧ d.sectors ≤ 16384) := by have := HTS.out.1; have := HRR.out; unfold Hid; omega
        have HE : Hid (d.doing x = d) := by unfold Hid Dev.doing; rw [if_neg (by omega), if_pos e]
        have HC := Lib.hid (apart_read HP.out x.at_)
        rw [e] at hk8
        have HIS := HTS
        clear e
        go_upto_region 21 with (go_at_call 14; (with_reducible refine HC.out.mono ?_); rintro e w5 ⟨hg5, _⟩; obtain ⟨v5, q5, rfl, hbv5, hbb⟩ := got_bytes hg5; have HT5 := Lib.hid (HT.out.on hbb); have HA5 := Lib.hid ((hbb.block _ (blk_lt HA.out)).trans HA.out); have HBV := Lib.hid hbv5; clear hg5 hbv5 hbb c0 c1 c2 c3 c4)
        obtain ⟨b1, q1, rfl⟩ := HT5.out.ref.1.slice
        obtain ⟨b2, q2, rfl⟩ := HT5.out.ref.2.1.slice
        obtain ⟨b3, q3, rfl⟩ := HT5.out.ref.2.2.slice
        have HRS := Lib.hid (refRead04_any HT5.out.ref HSM.out.loose x.at_)
        have y0 := blk_cell HT5.out.r 0
        have y1 := blk_cell HT5.out.r 1
        have y2 := blk_cell HT5.out.r 2
        have y3 := blk_cell HT5.out.r 3
        have y4 := blk_cell HT5.out.r 4
        have y5 := blk_cell HT5.out.r 5
        have y6 := blk_cell HT5.out.r 6
        unfold rdC at y0 y1 y2 y3 y4 y5 y6
        have c1 := blk_cell HA5.out 1
        unfold rdC at HRS
        go_upto_region 22 with (go_at_call 15; (with_reducible refine HRS.out.mono ?_); rintro e w6 ⟨rfl, hb6⟩; have HT6 := Lib.hid (HT5.out.on hb6); have HBV6 := Lib.hid (HBV.out.below hb6); clear y0 y1 y2 y3 y4 y5 y6 c1 hb6)
        have hcv := conv_str HBV6.out
        go_upto_region 33 with (fail)
        clear hcv HBV6 HBV HRS HC HT5 HA5
        have HN6 := Lib.hid (fun n => HT6.out.here.on (below_drewN w6 n))
        have HDN := Lib.hid (fun n => here_down (HN6.out n))
        have HLO := Lib.hid (fun n => here_loose (HN6.out n))
        have HAC := Lib.hid (fun n => here_acts (HN6.out n))
        have HSE := Lib.hid (fun n => here_sectors (HN6.out n))
        have HSI := Lib.hid (fun n => here_size (HN6.out n))
        rw [HIS.out.1] at HSE
        rw [HIS.out.2] at HSI
        have y2 := blk_cell HT6.out.r 2
        have y5 := blk_cell HT6.out.r 5
        have y6 := blk_cell HT6.out.r 6
        unfold rdC at y2 y5 y6
        go_quiet (first
          | (go_at_call 24; exact Calls.quiet_of_same ((HDN.out _).mono fun _ _ h => ⟨h.1, h.2.symm⟩))
          | (go_at_call 25; exact Calls.quiet_of_same ((HLO.out _).mono fun _ _ h => ⟨h.1, h.2.symm⟩))
          | (go_at_call 26; exact Calls.quiet_of_same ((HAC.out _).mono fun _ _ h => ⟨h.1, h.2.symm⟩))
          | (go_at_call 8; exact Calls.quiet_of_same ((HSE.out _).mono fun _ _ h => ⟨h.1, h.2.symm⟩))
          | (go_at_call 9; exact Calls.quiet_of_same ((HSI.out _).mono fun _ _ h => ⟨h.1, h.2.symm⟩)))
        all_goals go_wp2
        all_goals go_roundw
        case rel => exact ⟨j + 1, d.doing x, _, _, _, HLT.out, by go_num, doing_is HI.out x HXW.out, by rw [HE.out]; exact HT6.out.on (below_drewN w6 _)⟩
        case measure => have := HLT.out; simp [intOf]; omega
      · obtain ⟨k, hmax, hto⟩ : ∃ k : Nat, (if x.at_ < 0 then 0 else x.at_) = (k : Int) ∧ x.at_.toNat = k := ⟨x.at_.toNat, by split <;> omega, rfl⟩
        obtain ⟨d2, hd2⟩ : ∃ d2, ({ d with armed := k } : Dev) = d2 := ⟨_, rfl⟩
        have HE : Hid (d.doing x = d2) := by unfold Hid Dev.doing; rw [if_neg (by omega), if_neg (by omega), if_pos e, hto, hd2]
        have HC0 := apart_arm HP.out x.at_
        rw [hto, hd2] at HC0
        have HC := Lib.hid HC0
        rw [e] at hk8
        have HIS : Hid (d2.sectors = s ∧ d2.size = z) := by rw [← hd2]; exact HTS.out
        have hlq : d2.loose.length = d.loose.length := by rw [← hd2]
        have HLQ := Lib.hid hlq
        have HD2 := Lib.hid hd2
        clear e HC0 hlq hto hd2
        go_upto_region 26 with (go_at_call 16; (with_reducible refine HC.out.mono ?_); rintro e w5 hd; have HT5 := Lib.hid (HT.out.prog hd); have HA5 := Lib.hid ((hd.2.2.2 A ⟨_, _, _, HA.out, by decide⟩).trans HA.out); obtain ⟨rfl, _, _⟩ := hd; clear c0 c1 c2 c3 c4)
        obtain ⟨b1, q1, rfl⟩ := HT5.out.ref.1.slice
        obtain ⟨b2, q2, rfl⟩ := HT5.out.ref.2.1.slice
        obtain ⟨b3, q3, rfl⟩ := HT5.out.ref.2.2.slice
        have c1 := blk_cell HA5.out 1
        have y4 := blk_cell HT5.out.r 4
        unfold rdC at y4
        have f4 := blk_frozen HT5.out.r 4
        have hT6 := HT5.out.arm k
        rw [HD2.out] at hT6
        have HT6 := Lib.hid hT6
        clear hT6
        go_upto_region 33 with (fail)
        generalize hw7 : w5.setCell ⟨R, 4, none⟩ (.int .i64 k) = w7 at HT6 ⊢
        clear hw7
        clear c1 y4 f4 HC HT5 HA5
        have HN6 := Lib.hid (fun n => HT6.out.here.on (below_drewN w7 n))
        have HDN := Lib.hid (fun n => here_down (HN6.out n))
        have HLO := Lib.hid (fun n => here_loose (HN6.out n))
        rw [HLQ.out] at HLO
        have HAC := Lib.hid (fun n => here_acts (HN6.out n))
        have HSE := Lib.hid (fun n => here_sectors (HN6.out n))
        have HSI := Lib.hid (fun n => here_size (HN6.out n))
        rw [HIS.out.1] at HSE
        rw [HIS.out.2] at HSI
        have y2 := blk_cell HT6.out.r 2
        have y5 := blk_cell HT6.out.r 5
        have y6 := blk_cell HT6.out.r 6
        unfold rdC at y2 y5 y6
        go_quiet (first
          | (go_at_call 24; exact Calls.quiet_of_same ((HDN.out _).mono fun _ _ h => ⟨h.1, h.2.symm⟩))
          | (go_at_call 25; exact Calls.quiet_of_same ((HLO.out _).mono fun _ _ h => ⟨h.1, h.2.symm⟩))
          | (go_at_call 26; exact Calls.quiet_of_same ((HAC.out _).mono fun _ _ h => ⟨h.1, h.2.symm⟩))
          | (go_at_call 8; exact Calls.quiet_of_same ((HSE.out _).mono fun _ _ h => ⟨h.1, h.2.symm⟩))
          | (go_at_call 9; exact Calls.quiet_of_same ((HSI.out _).mono fun _ _ h => ⟨h.1, h.2.symm⟩)))
        all_goals go_wp2
        all_goals go_roundw
        case rel => exact ⟨j + 1, d.doing x, _, _, _, HLT.out, by go_num, doing_is HI.out x HXW.out, by rw [HE.out]; exact HT6.out.on (below_drewN w7 _)⟩
        case measure => have := HLT.out; simp [intOf]; omega
      · have HSE0 : Hid (1 ≤ d.sectors ∧ d.sectors ≤ 16384) := by have := HTS.out.1; have := HRR.out; unfold Hid; omega
        have HE : Hid (d.doing x = d.crash x.fates) := by unfold Hid Dev.doing; rw [if_neg (by omega), if_neg (by omega), if_neg (by omega), if_pos e]
        have HC : Hid (∀ W v, Below w4.heap.size w4 W → W.ownsRow w4.heap.size 3 1 v x.fates.length (x.fates.map (Value.int .i64)) → Calls Try.prog 17 #[.pointer (some ⟨D, 0, none⟩), v] W (DidApart w (Doc w4) D (d.crash x.fates) (.tuple #[]) W)) := fun W v h1 h2 => apart_crash_own HP.out x.fates h1 h2 HSM.out (Nat.le_refl _) (by have := HXF.out; omega)
        rw [e] at hk8
        have HIS : Hid ((d.crash x.fates).sectors = s ∧ (d.crash x.fates).size = z) := ⟨(crash_same d _).1.trans HTS.out.1, (crash_same d _).2.trans HTS.out.2⟩
        clear e
        have HBE := Lib.hid ((Below.refl w4.heap.size w4).alloc (Nat.le_refl _) (.cells #[] 3))
        have HO := Lib.hid (own_emptyT w4 w4.heap.size 3 1 (Nat.le_refl _))
        clear c0 c1 c2 c3 c4
        have c4 := blk_cell (cs := #[.int .i64 x.kind, .int .i64 x.at_, .int .i64 x.len, .int .u8 (U x.b), .slice ua x.fates.length uc]) ((HBE.out.block _ (blk_lt HA.out)).trans HA.out) 4
        have k4 := blk_cell HA.out 0
        go_upto_region 29 with (first
          | (at_builtin; (refine wpList_append_intsIn rfl (.tmp 138) (.tmp 140) rfl rfl w4.heap.size (.slice (some ⟨w4.heap.size, 0, none⟩) 0 0) rfl HO.out (.slice ua x.fates.length uc) rfl w.heap.size x.fates (HU0.out.below (HT.out.here.below.trans (HBE.out.mono HT.out.here.size))) (by have := HXF.out; omega) HBE.out.size ?_); intro v5 w5 hown hg; have HOW := Lib.hid hown; have HB5 := Lib.hid (HBE.out.trans ((Below.refl w4.heap.size _).grown hg HBE.out.size (fun q e => (HO.out.lt q e).1))); clear hown hg c4)
          | (go_at_call 17; (with_reducible refine (HC.out _ _ HB5.out HOW.out).mono ?_); rintro e w6 hd; have hsm := (Same.of_below HB5.out (doc_in w4)).tr hd.2.2; have HT5 := Lib.hid (HT.out.step hd.2.1.here hsm); have HA5 := Lib.hid ((hsm.2 A ⟨_, _, _, HA.out, by decide⟩).trans HA.out); obtain ⟨rfl, _, _⟩ := hd; clear hsm))
        obtain ⟨b1, q1, rfl⟩ := HT5.out.ref.1.slice
        obtain ⟨b2, q2, rfl⟩ := HT5.out.ref.2.1.slice
        obtain ⟨b3, q3, rfl⟩ := HT5.out.ref.2.2.slice
        have HRS := Lib.hid (refCrash_any HT5.out.ref (ints_mono4 (HU0.out.below HT5.out.here.below) HT5.out.here.size) HSE0.out.1 HSE0.out.2 (by have := HTS.out.2; have := HRR.out; omega) HSM.out.loose (by have := HXF.out; omega) HT.out.here.llen HT.out.here.flen)
        have y0 := blk_cell HT5.out.r 0
        have y1 := blk_cell HT5.out.r 1
        have y2 := blk_cell HT5.out.r 2
        have y3 := blk_cell HT5.out.r 3
        have y4 := blk_cell HT5.out.r 4
        have y5 := blk_cell HT5.out.r 5
        have y6 := blk_cell HT5.out.r 6
        unfold rdC at y0 y1 y2 y3 y4 y5 y6
        have c4 := blk_cell HA5.out 4
        unfold rdC at HRS
        go_upto_region 33 with (first
          | (go_at_call 18; (with_reducible refine HRS.out.mono ?_); rintro e w6b ⟨vF6, vL6, vP6, rfl, hr6, hb6⟩; obtain ⟨p1, n1, rfl⟩ := hr6.1.slice; obtain ⟨p2, n2, rfl⟩ := hr6.2.1.slice; obtain ⟨p3, n3, rfl⟩ := hr6.2.2.slice; have HT6 := Lib.hid (HT5.out.doc hb6 hr6); have HRB := Lib.hid (HT5.out.on hb6).r; clear y0 y1 y2 y3 y4 y5 y6 c4 hr6 hb6)
          | (refine wpList_store_row (o := ⟨none, _, _, _, _, _⟩) rfl 33 (.tmp 8) (.tmp 146) rfl R (rdC (d.crash x.fates).size _ _ _ (d.crash x.fates).armed (d.crash x.fates).acts (d.crash x.fates).down) rfl rfl 33 _ HRB.out (rd_sz _ _ _ _ _ _ _) rfl ?_ ?_; exact rd_one))
        generalize hw7 : w6b.setRow R (rdC (d.crash x.fates).size (.slice p1 (d.crash x.fates).sectors n1) (.slice p2 (d.crash x.fates).loose.length n2) (.slice p3 (d.crash x.fates).sectors n3) (d.crash x.fates).armed (d.crash x.fates).acts (d.crash x.fates).down) = w7 at HT6 ⊢
        clear hw7
        clear HRB HRS HC HT5 HA5 HOW HB5 HO HBE k4
        obtain ⟨d2, hd2⟩ : ∃ d2, (d.crash x.fates) = d2 := ⟨_, rfl⟩
        rw [hd2] at HT6 HIS HE
        clear hd2
        have HN6 := Lib.hid (fun n => HT6.out.here.on (below_drewN w7 n))
        have HDN := Lib.hid (fun n => here_down (HN6.out n))
        have HLO := Lib.hid (fun n => here_loose (HN6.out n))
        have HAC := Lib.hid (fun n => here_acts (HN6.out n))
        have HSE := Lib.hid (fun n => here_sectors (HN6.out n))
        have HSI := Lib.hid (fun n => here_size (HN6.out n))
        rw [HIS.out.1] at HSE
        rw [HIS.out.2] at HSI
        have y2 := blk_cell HT6.out.r 2
        have y5 := blk_cell HT6.out.r 5
        have y6 := blk_cell HT6.out.r 6
        unfold rdC at y2 y5 y6
        go_quiet (first
          | (go_at_call 24; exact Calls.quiet_of_same ((HDN.out _).mono fun _ _ h => ⟨h.1, h.2.symm⟩))
          | (go_at_call 25; exact Calls.quiet_of_same ((HLO.out _).mono fun _ _ h => ⟨h.1, h.2.symm⟩))
          | (go_at_call 26; exact Calls.quiet_of_same ((HAC.out _).mono fun _ _ h => ⟨h.1, h.2.symm⟩))
          | (go_at_call 8; exact Calls.quiet_of_same ((HSE.out _).mono fun _ _ h => ⟨h.1, h.2.symm⟩))
          | (go_at_call 9; exact Calls.quiet_of_same ((HSI.out _).mono fun _ _ h => ⟨h.1, h.2.symm⟩)))
        all_goals go_wp2
        all_goals go_roundw
        case rel => exact ⟨j + 1, d.doing x, _, _, _, HLT.out, by go_num, doing_is HI.out x HXW.out, by rw [HE.out]; exact HT6.out.on (below_drewN w7 _)⟩
        case measure => have := HLT.out; simp [intOf]; omega
      · have HSE0 : Hid (1 ≤ d.sectors ∧ d.sectors ≤ 16384) := by have := HTS.out.1; have := HRR.out; unfold Hid; omega
        have HE : Hid (d.doing x = d.rot x.at_ x.len x.b) := by unfold Hid Dev.doing; rw [if_neg (by omega), if_neg (by omega), if_neg (by omega), if_neg (by omega), if_pos e]
        have HC := Lib.hid (apart_rot HP.out x.at_ x.len x.b)
        rw [e] at hk8
        have HIS : Hid ((d.rot x.at_ x.len x.b).sectors = s ∧ (d.rot x.at_ x.len x.b).size = z) := ⟨(rot_same d _ _ _).1.trans HTS.out.1, (rot_same d _ _ _).2.trans HTS.out.2⟩
        clear e
        go_upto_region 32 with (go_at_call 19; (with_reducible refine HC.out.mono ?_); rintro e w5 hd; have HT5 := Lib.hid (HT.out.prog hd); have HA5 := Lib.hid ((hd.2.2.2 A ⟨_, _, _, HA.out, by decide⟩).trans HA.out); obtain ⟨rfl, _, _⟩ := hd; clear c0 c1 c2 c3 c4)
        obtain ⟨b1, q1, rfl⟩ := HT5.out.ref.1.slice
        obtain ⟨b2, q2, rfl⟩ := HT5.out.ref.2.1.slice
        obtain ⟨b3, q3, rfl⟩ := HT5.out.ref.2.2.slice
        have HRS := Lib.hid (refRot_any HT5.out.ref x.at_ x.len x.b HT.out.here.flen HSE0.out.2)
        have y0 := blk_cell HT5.out.r 0
        have y1 := blk_cell HT5.out.r 1
        have y2 := blk_cell HT5.out.r 2
        have y3 := blk_cell HT5.out.r 3
        have y4 := blk_cell HT5.out.r 4
        have y5 := blk_cell HT5.out.r 5
        have y6 := blk_cell HT5.out.r 6
        unfold rdC at y0 y1 y2 y3 y4 y5 y6
        have c1 := blk_cell HA5.out 1
        have c2 := blk_cell HA5.out 2
        have c3 := blk_cell HA5.out 3
        unfold rdC at HRS
        go_upto_region 33 with (first
          | (go_at_call 20; (with_reducible refine HRS.out.mono ?_); rintro e w6 ⟨vF6, vL6, vP6, rfl, hr6, hb6⟩; obtain ⟨p1, n1, rfl⟩ := hr6.1.slice; obtain ⟨p2, n2, rfl⟩ := hr6.2.1.slice; obtain ⟨p3, n3, rfl⟩ := hr6.2.2.slice; have HT6 := Lib.hid (HT5.out.doc hb6 hr6); have HRB := Lib.hid (HT5.out.on hb6).r; clear y0 y1 y2 y3 y4 y5 y6 c1 c2 c3 hr6 hb6)
          | (refine wpList_store_row (o := ⟨none, _, _, _, _, _⟩) rfl 33 (.tmp 8) (.tmp 166) rfl R (rdC (d.rot x.at_ x.len x.b).size _ _ _ (d.rot x.at_ x.len x.b).armed (d.rot x.at_ x.len x.b).acts (d.rot x.at_ x.len x.b).down) rfl rfl 33 _ HRB.out (rd_sz _ _ _ _ _ _ _) rfl ?_ ?_; exact rd_one))
        generalize hw7 : w6.setRow R (rdC (d.rot x.at_ x.len x.b).size (.slice p1 (d.rot x.at_ x.len x.b).sectors n1) (.slice p2 (d.rot x.at_ x.len x.b).loose.length n2) (.slice p3 (d.rot x.at_ x.len x.b).sectors n3) (d.rot x.at_ x.len x.b).armed (d.rot x.at_ x.len x.b).acts (d.rot x.at_ x.len x.b).down) = w7 at HT6 ⊢
        clear hw7
        clear HRB HRS HC HT5 HA5
        obtain ⟨d2, hd2⟩ : ∃ d2, (d.rot x.at_ x.len x.b) = d2 := ⟨_, rfl⟩
        rw [hd2] at HT6 HIS HE
        clear hd2
        have HN6 := Lib.hid (fun n => HT6.out.here.on (below_drewN w7 n))
        have HDN := Lib.hid (fun n => here_down (HN6.out n))
        have HLO := Lib.hid (fun n => here_loose (HN6.out n))
        have HAC := Lib.hid (fun n => here_acts (HN6.out n))
        have HSE := Lib.hid (fun n => here_sectors (HN6.out n))
        have HSI := Lib.hid (fun n => here_size (HN6.out n))
        rw [HIS.out.1] at HSE
        rw [HIS.out.2] at HSI
        have y2 := blk_cell HT6.out.r 2
        have y5 := blk_cell HT6.out.r 5
        have y6 := blk_cell HT6.out.r 6
        unfold rdC at y2 y5 y6
        go_quiet (first
          | (go_at_call 24; exact Calls.quiet_of_same ((HDN.out _).mono fun _ _ h => ⟨h.1, h.2.symm⟩))
          | (go_at_call 25; exact Calls.quiet_of_same ((HLO.out _).mono fun _ _ h => ⟨h.1, h.2.symm⟩))
          | (go_at_call 26; exact Calls.quiet_of_same ((HAC.out _).mono fun _ _ h => ⟨h.1, h.2.symm⟩))
          | (go_at_call 8; exact Calls.quiet_of_same ((HSE.out _).mono fun _ _ h => ⟨h.1, h.2.symm⟩))
          | (go_at_call 9; exact Calls.quiet_of_same ((HSI.out _).mono fun _ _ h => ⟨h.1, h.2.symm⟩)))
        all_goals go_wp2
        all_goals go_roundw
        case rel => exact ⟨j + 1, d.doing x, _, _, _, HLT.out, by go_num, doing_is HI.out x HXW.out, by rw [HE.out]; exact HT6.out.on (below_drewN w7 _)⟩
        case measure => have := HLT.out; simp [intOf]; omega
      · have HSE0 : Hid (1 ≤ d.sectors ∧ d.sectors ≤ 16384) := by have := HTS.out.1; have := HRR.out; unfold Hid; omega
        obtain ⟨e3, e4, e5, e6, e7⟩ := e
        have HE : Hid (d.doing x = d.write x.at_ (x.bytes z)) := by unfold Hid Dev.doing; rw [if_neg e3, if_neg e4, if_neg e5, if_neg e6, if_neg e7, HTS.out.2]
        have g3 : (x.kind % 8 == 3) = false := by rw [beq_eq_false_iff_ne]; exact e3
        have g4 : (x.kind % 8 == 4) = false := by rw [beq_eq_false_iff_ne]; exact e4
        have g5 : (x.kind % 8 == 5) = false := by rw [beq_eq_false_iff_ne]; exact e5
        have g6 : (x.kind % 8 == 6) = false := by rw [beq_eq_false_iff_ne]; exact e6
        have g7 : (x.kind % 8 == 7) = false := by rw [beq_eq_false_iff_ne]; exact e7
        have HBY := Lib.hid (bytes04_any x (.slice ua x.fates.length uc) z (by have := HRR.out; omega) w4)
        unfold Act4.cells at HBY
        obtain ⟨bs, hbs⟩ : ∃ bs, x.bytes z = bs := ⟨_, rfl⟩
        rw [hbs] at HBY HE
        have HIS : Hid ((d.write x.at_ bs).sectors = s ∧ (d.write x.at_ bs).size = z) := ⟨(write_same d _ _).1.trans HTS.out.1, (write_same d _ _).2.trans HTS.out.2⟩
        clear e3 e4 e5 e6 e7 hbs
        go_upto_region 14 with (go_at_call 21; (with_reducible refine HBY.out.mono ?_); rintro e w5 ⟨gb, rfl, hr5, hb5⟩; have HR5 := Lib.hid hr5; have HB5 := Lib.hid hb5; have c1' := blk_cell ((hb5.block _ (blk_lt HA.out)).trans HA.out) 1; clear hr5 hb5 c0 c1 c2 c3 c4)
        have HC : Hid (Calls Try.prog 22 #[.pointer (some ⟨D, 0, none⟩), .int .i64 x.at_, .slice (some ⟨gb, 0, none⟩) bs.length bs.length] w5 (DidApart w (fun k => Doc w4 k ∨ k = gb) D (d.write x.at_ bs) (.int .i64 (writeErr d x.at_ bs.length)) w5)) := apart_write (HP.out.more HB5.out (HR5.out.lt gb rfl).1 (HR5.out.lt gb rfl).2) x.at_ (BytesAt.of_owns HR5.out) HSM.out (Nat.le_refl _)
        go_upto_region 15 with (go_at_call 22; (with_reducible refine HC.out.mono ?_); rintro e w5b hd; have hsm := (Same.of_below HB5.out (doc_in w4)).tr (hd.2.2.mono (fun _ h => .inl h)); have HT5 := Lib.hid (HT.out.step hd.2.1.here hsm); have HA5 := Lib.hid ((hsm.2 A ⟨_, _, _, HA.out, by decide⟩).trans HA.out); have hcv := conv_str (BytesAt.of_owns (hd.2.2.row HR5.out (fun k e => .inr (by cases e; rfl)))); obtain ⟨rfl, _, _⟩ := hd; clear hsm c1')
        obtain ⟨b1, q1, rfl⟩ := HT5.out.ref.1.slice
        obtain ⟨b2, q2, rfl⟩ := HT5.out.ref.2.1.slice
        obtain ⟨b3, q3, rfl⟩ := HT5.out.ref.2.2.slice
        have HRS := Lib.hid (refPut_any HT5.out.ref x.at_ bs HSE0.out.2 HSM.out.loose HSM.out.past (by have := HSM.out.acts; omega) HSM.out.armed)
        have y0 := blk_cell HT5.out.r 0
        have y1 := blk_cell HT5.out.r 1
        have y2 := blk_cell HT5.out.r 2
        have y3 := blk_cell HT5.out.r 3
        have y4 := blk_cell HT5.out.r 4
        have y5 := blk_cell HT5.out.r 5
        have y6 := blk_cell HT5.out.r 6
        unfold rdC at y0 y1 y2 y3 y4 y5 y6
        have c1 := blk_cell HA5.out 1
        unfold rdC at HRS
        go_upto_region 33 with (first
          | (go_at_call 23; (with_reducible refine HRS.out.mono ?_); rintro e w6 ⟨vF6, vL6, vP6, rfl, hr6, hb6⟩; obtain ⟨p1, n1, rfl⟩ := hr6.1.slice; obtain ⟨p2, n2, rfl⟩ := hr6.2.1.slice; obtain ⟨p3, n3, rfl⟩ := hr6.2.2.slice; have HT6 := Lib.hid (HT5.out.doc hb6 hr6); have HRB := Lib.hid (HT5.out.on hb6).r; clear y0 y1 y2 y3 y4 y5 y6 c1 hcv hr6 hb6)
          | (refine wpList_store_row (o := ⟨none, _, _, _, _, _⟩) rfl 33 (.tmp 8) (.tmp 89) rfl R (rdC (d.write x.at_ bs).size _ _ _ (d.write x.at_ bs).armed (d.write x.at_ bs).acts (d.write x.at_ bs).down) rfl rfl 33 _ HRB.out (rd_sz _ _ _ _ _ _ _) rfl ?_ ?_; exact rd_one))
        generalize hw7 : w6.setRow R (rdC (d.write x.at_ bs).size (.slice p1 (d.write x.at_ bs).sectors n1) (.slice p2 (d.write x.at_ bs).loose.length n2) (.slice p3 (d.write x.at_ bs).sectors n3) (d.write x.at_ bs).armed (d.write x.at_ bs).acts (d.write x.at_ bs).down) = w7 at HT6 ⊢
        clear hw7
        clear HRB HRS HC HT5 HA5 g3 g4 g5 g6 g7
        obtain ⟨d2, hd2⟩ : ∃ d2, (d.write x.at_ bs) = d2 := ⟨_, rfl⟩
        rw [hd2] at HT6 HIS HE
        clear hd2
        have HN6 := Lib.hid (fun n => HT6.out.here.on (below_drewN w7 n))
        have HDN := Lib.hid (fun n => here_down (HN6.out n))
        have HLO := Lib.hid (fun n => here_loose (HN6.out n))
        have HAC := Lib.hid (fun n => here_acts (HN6.out n))
        have HSE := Lib.hid (fun n => here_sectors (HN6.out n))
        have HSI := Lib.hid (fun n => here_size (HN6.out n))
        rw [HIS.out.1] at HSE
        rw [HIS.out.2] at HSI
        have y2 := blk_cell HT6.out.r 2
        have y5 := blk_cell HT6.out.r 5
        have y6 := blk_cell HT6.out.r 6
        unfold rdC at y2 y5 y6
        go_quiet (first
          | (go_at_call 24; exact Calls.quiet_of_same ((HDN.out _).mono fun _ _ h => ⟨h.1, h.2.symm⟩))
          | (go_at_call 25; exact Calls.quiet_of_same ((HLO.out _).mono fun _ _ h => ⟨h.1, h.2.symm⟩))
          | (go_at_call 26; exact Calls.quiet_of_same ((HAC.out _).mono fun _ _ h => ⟨h.1, h.2.symm⟩))
          | (go_at_call 8; exact Calls.quiet_of_same ((HSE.out _).mono fun _ _ h => ⟨h.1, h.2.symm⟩))
          | (go_at_call 9; exact Calls.quiet_of_same ((HSI.out _).mono fun _ _ h => ⟨h.1, h.2.symm⟩)))
        all_goals go_wp2
        all_goals go_roundw
        case rel => exact ⟨j + 1, d.doing x, _, _, _, HLT.out, by go_num, doing_is HI.out x HXW.out, by rw [HE.out]; exact HT6.out.on (below_drewN w7 _)⟩
        case measure => have := HLT.out; simp [intOf]; omega
    · obtain rfl : j = l.length := by omega
      have HI := Lib.hid hI
      have HT := Lib.hid hT
      have HTS : Hid (d.sectors = s ∧ d.size = z) := ⟨hsec, hsiz⟩
      have HSM : Hid (d.Small 65536) := HI.out.small.mono (by omega)
      have HP : Hid (DevApart w (Doc wr) D d wr) := apart_doc hT.here
      have HSE0 : Hid (1 ≤ d.sectors ∧ d.sectors ≤ 16384) := by have := HTS.out.1; have := HRR.out; unfold Hid; omega
      obtain ⟨d2, hd2⟩ : ∃ d2, d.crash [1, (z : Int), 7] = d2 := ⟨_, rfl⟩
      have HIS : Hid (d2.sectors = s ∧ d2.size = z) := by rw [← hd2]; exact ⟨(crash_same d _).1.trans HTS.out.1, (crash_same d _).2.trans HTS.out.2⟩
      have HDN : Hid (d2.down = false) := by rw [← hd2]; rfl
      have HSM2 : Hid (d2.Small 65536) := by rw [← hd2]; exact HSM.out.crash _
      have HC0 := apart_crash_own HP.out [1, (z : Int), 7] ((Below.refl wr.heap.size wr).alloc (Nat.le_refl _) (.cells #[.int .i64 1, .int .i64 z, .int .i64 7] 3)) (v := .slice (some ⟨wr.heap.size, 0, none⟩) 3 3) ⟨rfl, .inr ⟨wr.heap.size, 3, #[.int .i64 1, .int .i64 z, .int .i64 7], rfl, Nat.le_refl _, heap_alloc_new _ _, Nat.le_refl _, by unfold maxLen; omega, rfl, rfl⟩⟩ HSM.out (Nat.le_refl _) (by simp)
      rw [hd2] at HC0
      have HC := Lib.hid HC0
      have HD2 := Lib.hid hd2
      clear hI hT hsec hsiz hj hlt HC0 hd2
      go_upto_region 36 with (go_at_call 17; (with_reducible refine HC.out.mono ?_); rintro e w6 hd; have hsm := (Same.of_below ((Below.refl wr.heap.size wr).alloc (Nat.le_refl _) (.cells #[.int .i64 1, .int .i64 z, .int .i64 7] 3)) (doc_in wr)).tr hd.2.2; have HT5 := Lib.hid (HT.out.step hd.2.1.here hsm); obtain ⟨rfl, _, _⟩ := hd; clear hsm)
      obtain ⟨b1, q1, rfl⟩ := HT5.out.ref.1.slice
      obtain ⟨b2, q2, rfl⟩ := HT5.out.ref.2.1.slice
      obtain ⟨b3, q3, rfl⟩ := HT5.out.ref.2.2.slice
      have HBA := Lib.hid ((Below.refl w6.heap.size w6).alloc (Nat.le_refl _) (.cells #[.int .i64 1, .int .i64 z, .int .i64 7] 3))
      have HT5b := Lib.hid (HT5.out.on HBA.out)
      have hin : IntsIn (w6.alloc (.cells #[.int .i64 1, .int .i64 z, .int .i64 7] 3)).heap.size (w6.alloc (.cells #[.int .i64 1, .int .i64 z, .int .i64 7] 3)) (.slice (some ⟨w6.heap.size, 0, none⟩) 3 3) [1, (z : Int), 7] := ⟨_, _, rfl, .inr ⟨w6.heap.size, 0, rfl, by simp, fun q hq => by
        rw [Nat.zero_add, blk_cell (heap_alloc_new w6 (.cells #[.int .i64 1, .int .i64 z, .int .i64 7] 3))]
        have h3 : q = 0 ∨ q = 1 ∨ q = 2 := by simp at hq; omega
        rcases h3 with rfl | rfl | rfl <;> rfl⟩⟩
      have hrs := refCrash_any HT5b.out.ref hin HSE0.out.1 HSE0.out.2 (by have := HTS.out.2; have := HRR.out; omega) HSM.out.loose (by simp) HT.out.here.llen HT.out.here.flen
      rw [HD2.out] at hrs
      have HRS := Lib.hid hrs
      clear hin hrs
      have y0 := blk_cell HT5.out.r 0
      have y1 := blk_cell HT5.out.r 1
      have y2 := blk_cell HT5.out.r 2
      have y3 := blk_cell HT5.out.r 3
      have y4 := blk_cell HT5.out.r 4
      have y5 := blk_cell HT5.out.r 5
      have y6 := blk_cell HT5.out.r 6
      unfold rdC at y0 y1 y2 y3 y4 y5 y6
      unfold rdC at HRS
      go_upto_region 37 with (first
        | (go_at_call 18; (with_reducible refine HRS.out.mono ?_); rintro e w7 ⟨vF6, vL6, vP6, rfl, hr6, hb6⟩; obtain ⟨p1, n1, rfl⟩ := hr6.1.slice; obtain ⟨p2, n2, rfl⟩ := hr6.2.1.slice; obtain ⟨p3, n3, rfl⟩ := hr6.2.2.slice; have HT6 := Lib.hid (HT5b.out.doc hb6 hr6); have HRB := Lib.hid (HT5b.out.on hb6).r; clear y0 y1 y2 y3 y4 y5 y6 hr6 hb6)
        | (refine wpList_store_row (o := ⟨none, _, _, _, _, _⟩) rfl 33 (.tmp 8) (.tmp 212) rfl R (rdC d2.size _ _ _ d2.armed d2.acts d2.down) rfl rfl 33 _ HRB.out (rd_sz _ _ _ _ _ _ _) rfl ?_ ?_; exact rd_one))
      generalize hw8 : w7.setRow R (rdC d2.size (.slice p1 d2.sectors n1) (.slice p2 d2.loose.length n2) (.slice p3 d2.sectors n3) d2.armed d2.acts d2.down) = w8 at HT6 ⊢
      clear hw8 HRB HRS HT5b HBA HT5 HC HP HT HI HTS HSM HSE0 HD2
      go_wp2
      go_loopw [18] (fun i wr => ∃ q : Nat, q ≤ s ∧ i = .int .i64 q ∧ Two w D R d2 d2 (.slice p1 d2.sectors n1) (.slice p2 d2.loose.length n2) (.slice p3 d2.sectors n3) wr) (fun i _ => s - (intOf i).toNat)
      case atStart => exact ⟨0, Nat.zero_le _, rfl, HT6.out⟩
      case round =>
        obtain ⟨q, hq, rfl, hT⟩ := hrel
        rename World => wv
        have HT := Lib.hid hT
        clear hT HT6
        by_cases hlt : q < s
        · have q1 : (q : Int) < s := by omega
          have q0 : (0 : Int) ≤ q := by omega
          have HLT := Lib.hid hlt
          have HQ : Hid (q < d2.sectors) := by have := HIS.out.1; unfold Hid; omega
          have HASK : Hid (askErr d2.sectors d2.down q = 0) := by
            have := HQ.out
            unfold Hid askErr
            rw [HDN.out, if_neg (by decide), if_pos ⟨by omega, by omega⟩]
          have HC := Lib.hid (here_read HT.out.here (q : Int))
          clear hlt hq
          go_upto_region 41 with (go_at_call 14; (with_reducible refine HC.out.mono ?_); rintro e w4 hg4; obtain ⟨v5, q5, he5, hbv5, hbb⟩ := got_bytes hg4; rw [HASK.out] at he5; subst he5; have HT5 := Lib.hid (HT.out.on hbb); have HBV := Lib.hid hbv5; clear hg4 hbv5 hbb)
          have hrs := refRead04_any HT5.out.ref HSM2.out.loose (q : Int)
          rw [HASK.out] at hrs
          have HRS := Lib.hid hrs
          clear hrs
          have y0 := blk_cell HT5.out.r 0
          have y1 := blk_cell HT5.out.r 1
          have y2 := blk_cell HT5.out.r 2
          have y3 := blk_cell HT5.out.r 3
          have y4 := blk_cell HT5.out.r 4
          have y5 := blk_cell HT5.out.r 5
          have y6 := blk_cell HT5.out.r 6
          unfold rdC at y0 y1 y2 y3 y4 y5 y6
          unfold rdC at HRS
          go_upto_region 42 with (go_at_call 15; (with_reducible refine HRS.out.mono ?_); rintro e w6 ⟨rfl, hb6⟩; have HT6 := Lib.hid (HT5.out.on hb6); have HBV6 := Lib.hid ((HBV.out.below hb6).mono hb6.size); clear y0 y1 y2 y3 y4 y5 y6 hb6)
          obtain ⟨rs, hrs⟩ : ∃ rs, readS04 d2 (q : Int) = rs := ⟨_, rfl⟩
          rw [hrs] at HBV6 ⊢
          clear hrs HRS HC HBV HT5
          have hW := HT6.out.ref.2.2
          obtain ⟨us, hus, hel⟩ := hW
          obtain ⟨g3, m3, _, hv3, _, hg3, hc3, _⟩ := hus.resolve_left (fun h => by have := HQ.out; omega)
          simp only [Value.slice.injEq] at hv3
          obtain ⟨rfl, _, rfl⟩ := hv3
          have hcq := hc3 q (by have := HQ.out; omega)
          have helq := hel q HQ.out
          obtain ⟨ax, cx, hax⟩ := helq.slice
          rw [hax] at hcq helq
          have HEL := Lib.hid helq
          have HSS : Hid (∀ W, Below w6.heap.size w6 W → W.cell? ⟨R, 3, none⟩ = some (.slice (some ⟨g3, 0, none⟩) d2.sectors n3) ∧ W.cell? ⟨g3, q, none⟩ = some (.slice ax (d2.pasts q).length cx) ∧ (convert 42 9 (.slice v5 rs.length q5)).run Try.prog W = .ok (.string (strB rs)) W) := fun W hb => ⟨blk_cell (HT6.out.on hb).r 3, (hb.cell (p := ⟨g3, q, none⟩) hg3).trans hcq, conv_str (HBV6.out.below hb)⟩
          have HPA : Hid (∀ W, Below w6.heap.size w6 W → Calls Try.prog 28 #[.pointer (some ⟨D, 0, none⟩), .int .i64 q] W fun e W' => ∃ u, e = .returned u ∧ PRows W.heap.size W' u (d2.pasts q) ∧ Below W.heap.size W W') := fun W hb => here_past (HT6.out.on hb).here q HQ.out (HSM2.out.past q)
          have HPL : Hid ((d2.pasts q).length ≤ 1000000) := by unfold Hid Dev.pasts; have := HSM2.out.past q; simp; omega
          have hqs : (q : Int) < d2.sectors := by have := HQ.out; omega
          have HBA := Lib.hid (show Below w6.heap.size w6 w6.drew from (Below.refl _ _).drew)
          clear hus hel hg3 hc3 hcq helq hax
          generalize hpn : (d2.pasts q).length = pn at HSS HEL
          have HPN := Lib.hid hpn
          clear hpn
          go_region_held3 (fun (W : World) => W.cell? ⟨R, 3, none⟩ = some (.slice (some ⟨g3, 0, none⟩) d2.sectors n3) ∧ W.cell? ⟨g3, q, none⟩ = some (.slice ax pn cx) ∧ (convert 42 9 (.slice v5 rs.length q5)).run Try.prog W = .ok (.string (strB rs)) W)
            (first | exact HSS.out _ HBC.out | exact HSS.out _ HBB.out | exact HSS.out _ HBA.out)
            (first
              | (go_at_call 28; (with_reducible refine (HPA.out _ HBA.out).mono ?_); rintro e w7 ⟨u7, rfl, hp7, hb7⟩; have HBB := Lib.hid (HBA.out.trans (hb7.mono HBA.out.size)); have HLP := Lib.hid (past04_any hp7 (v := .slice ax pn cx) (n1 := w6.heap.size) (by rw [HPN.out]; exact HEL.out.below HBB.out) HPL.out); clear hp7 hb7)
              | (go_at_call 27; (with_reducible refine HLP.out.mono ?_); rintro e w8 ⟨rfl, hb8⟩; have HBC := Lib.hid (HBB.out.trans (hb8.mono HBB.out.size)); clear hb8))
          all_goals go_wp2
          all_goals go_roundw
          case rel => exact ⟨q + 1, HLT.out, by go_num, HT6.out.on HBC.out⟩
          case measure => have := HLT.out; simp [intOf]; omega
        · obtain rfl : q = s := by omega
          have HO1 := Lib.hid (past_out HT.out.here (-1) (by omega))
          have HO2 := Lib.hid (past_out HT.out.here (q : Int) (by have := HIS.out.1; omega))
          clear hlt hq
          go_wp2_with (first
            | (go_at_call 28; (first | (with_reducible refine HO1.out.mono ?_) | (with_reducible refine HO2.out.mono ?_)); rintro e w7 ⟨rfl, rfl⟩)
            | (go_at_call 10; (with_reducible refine (awake04 _).mono ?_); rintro e w7 ⟨rfl, hb7⟩))
          go_ret
          exact ⟨rfl, HT.out.here.below.trans (hb7.mono HT.out.here.size)⟩
end Go.Proofs.Ytadglpnmhpmebaa
namespace Go.Proofs.Ytadglpnmhpmebaa
open Go.ChangeShapes Go.WideShapes Go.ChangeAt Go.RowKit

theorem flashPlays_walk (s z : Int) (v : Value) (l : List Act4) (w : World) (hv : ActsAt4 w.heap.size w v l) (hl : l.length ≤ maxLen) : Calls Try.prog 3 #[.int .i64 s, .int .i64 z, v] w (Good w) := by
  by_cases hm : light4B l = false ∨ (8 < s ∧ s ≤ 16384)
  · exact plays_many s z v l w hv hl hm
  · have hb : light4B l = true := by
      cases h : light4B l with
      | false => exact absurd (.inl h) hm
      | true => rfl
    have h8 : ¬ (8 < s ∧ s ≤ 16384) := fun h => hm (.inr h)
    by_cases hr : (1 ≤ s ∧ s ≤ 16384) ∧ (96 ≤ z ∧ z ≤ 512)
    · obtain ⟨s', rfl⟩ := Int.eq_ofNat_of_zero_le (show 0 ≤ s by omega)
      obtain ⟨z', rfl⟩ := Int.eq_ofNat_of_zero_le (show 0 ≤ z by omega)
      exact plays_main s' z' ⟨⟨by omega, by omega⟩, by omega, by omega⟩ v l w hv hl hb
    · exact plays_wrong s z v l w hv hl hb h8 hr

set_option maxRecDepth 100000 in
theorem flashPlays_lifted (os : Os) (started : os.Started) (H : Type) (enc : TypeId × Value → H) :
    ReturnsInHanded {} Try.checked os 3 .any (Rows.flashPlaysSpec.pre6 enc Try.prog Try.f3 Rows.flashPlaysRow.domain false) (Rows.flashPlaysSpec.post enc Try.prog Try.f3 false true false false) :=
  law_lifted 3 Try.f3 Rows.flashPlaysSpec Try.func3 (by kernel_rfl) rfl rfl
    (fun ds h => by match ds, h with | [_, _, _], _ => rfl) (by kernel_rfl) os started
    (ChangeSpec.witness6 (enc := enc) (C := Try.checked) false ⟨#[], #[.int .i64 0, .int .i64 0, .slice none 0 0], []⟩ 8 (by kernel_rfl) (by kernel_rfl) (by kernel_rfl) (by kernel_rfl))
    fun W args ds ps hval hA => by
      rw [Try.params3] at hA hval
      obtain ⟨v0, vs0, d0, ds0, p0, q0, hargs, rfl, rfl, h0, r0⟩ := trodAll_cons hA
      obtain ⟨v1, vs1, d1, ds1, p1, q1, rfl, rfl, rfl, h1, r1⟩ := trodAll_cons r0
      obtain ⟨v2, vs2, d2, ds2, p2, q2, rfl, rfl, rfl, h2, r2⟩ := trodAll_cons r1
      obtain ⟨rfl, rfl, rfl⟩ := trodAll_nil r2
      obtain rfl : args = #[v0, v1, v2] := by cases args; simp_all
      obtain ⟨b0, o0⟩ := hval 0 _ v0 rfl rfl
      obtain ⟨b1, o1⟩ := hval 1 _ v1 rfl rfl
      obtain ⟨b2, o2⟩ := hval 2 _ v2 rfl rfl
      obtain ⟨a0, rfl, rfl, rfl, w0⟩ := open_int Try.underlying3 o0 h0
      obtain ⟨a1, rfl, rfl, rfl, w1⟩ := open_int Try.underlying3 o1 h1
      obtain ⟨l2, hb2, hm2⟩ := open_acts4 o2 h2
      exact flashPlays_walk a0 a1 v2 l2 W hb2 hm2

/-- The statement. -/
theorem flashPlays_holds : Rows.FlashPlaysSaid :=
  OpenClaim.holds_of_wide 3 Try.f3 rfl rfl rfl rfl rfl rfl rfl ⟨rfl, rfl, rfl, rfl, rfl⟩ rfl rfl rfl rfl rfl (by kernel_rfl) Try.func3 (by kernel_rfl)
    (of_decide_eq_true (by kernel_rfl)) (by unfold Func.isWrapper; first | (rw [if_pos (by decide +kernel)]; kernel_rfl) | (rw [if_neg (by decide +kernel)]; exact ⟨rfl, rfl⟩))
    (fun os started H enc _ => flashPlays_lifted os started H enc)
#print axioms flashPlays_holds

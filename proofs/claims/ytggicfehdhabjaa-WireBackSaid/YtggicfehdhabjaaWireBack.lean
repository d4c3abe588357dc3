/-
  Proved: what was written, unless the writer is full, is read as it was. Whatever limit and whatever acts come in, the law WireBack answers true and the arguments read as they did.
  Conditions: none.
-/
import Derived.Test.YtggicfehdhabjaaWireBackMath
import Derived.Deep.DeepCutAuto
import Derived.Deep.RegionWith
import Derived.Lib.Strings
namespace Go.Proofs.Ytggicfehdhabjaa
open Go.ChangeShapes Go.WideShapes Go.ChangeAt Go.RowKit

/-- Bytes that came in are no part of a writer. -/
theorem text_arg {n₀ n₁ B : Nat} {w : World} {v u : Value} {row bs : List (BitVec 8)} {limit : Int} {full : Bool} (h : WriterAt n₀ w B v row limit full) (hu : BytesAt n₁ w u bs) (hB : n₁ ≤ B) (hn : n₁ ≤ n₀) : bs ≠ [] → ∀ k, u.ownBlock = some k → ¬ wS B v k := by
  intro hne k e hk
  obtain ⟨a, cap, rfl, _, _, hu⟩ := hu
  rcases hu with hu | ⟨g, off, rfl, hg, _⟩
  · exact hne hu
  · obtain rfl : g = k := by simpa [Value.ownBlock] using e
    rcases hk with hk | hk
    · omega
    · have := (h.own.lt g hk).1; omega
theorem limS {n₀ : Nat} {w : World} {v : Value} {row : List (BitVec 8)} (h : w.ownsRow n₀ 5 1 v row.length (cellsOf row)) : ∀ i, wS n₀ v i → n₀ ≤ i := by
  intro i hi
  rcases hi with rfl | hi
  · exact Nat.le_refl _
  · exact (h.lt i hi).1
/-- While it is written. -/
def BackAt (w : World) (limit : Int) (l : List Act3) (k : Nat) (wr : World) : Prop :=
  ∃ v row full, WriterAt w.heap.size wr w.heap.size v row limit full ∧ Below w.heap.size w wr ∧ row.length ≤ k * 302 ∧ (full = false → row = catA (l.take k) ∧ allA (l.take k))
set_option maxRecDepth 100000 in
theorem back_step {w wc w2 : World} {v : Value} {row : List (BitVec 8)} {limit : Int} {full : Bool} {l : List Act3} {k : Nat} {x : Act3} {e : Ending} {enc : Option (List (BitVec 8))} (h : Wrote w.heap.size w.heap.size v row limit full enc wc e w2) (hA : WriterAt w.heap.size wc w.heap.size v row limit full) (hB : Below w.heap.size w wc)
    (hr : row.length ≤ k * 302) (hx : x.b.length ≤ 300) (hf : full = false → row = catA (l.take k) ∧ allA (l.take k)) (ht : l.take (k + 1) = l.take k ++ [x]) (he : encA x = enc) : e = .returned (.tuple #[]) ∧ BackAt w limit l (k + 1) w2 := by
  obtain ⟨he2, v2, h1, h2⟩ := h
  have hl := encA_len x hx
  rw [he] at hl
  have hB2 := hB.trans (h2.moves.below (limS hA.own) hB.size)
  cases enc with
  | none =>
    have e1 : wRow row limit full none = row := rfl
    have e2 : wFull row limit full none = true := rfl
    rw [e1, e2] at h1
    exact ⟨he2, v2, row, true, h1, hB2, by omega, fun h => by cases h⟩
  | some bs =>
    have hl : bs.length ≤ 302 := hl
    by_cases hc : full = true ∨ limit < row.length + bs.length
    · have e1 : wRow row limit full (some bs) = row := by simp only [wRow, hc, if_true]
      have e2 : wFull row limit full (some bs) = true := by
        rcases hc with hc | hc
        · simp [wFull, hc]
        · simp [wFull, hc]
      rw [e1, e2] at h1
      exact ⟨he2, v2, row, true, h1, hB2, by omega, fun h => by cases h⟩
    · have e1 : wRow row limit full (some bs) = row ++ bs := by simp only [wRow, hc, if_false]
      have hfl : full = false := by
        cases full with
        | false => rfl
        | true => exact absurd (.inl rfl) hc
      rw [e1] at h1
      obtain ⟨e3, e4⟩ := hf hfl
      refine ⟨he2, v2, _, _, h1, hB2, by rw [List.length_append]; omega, fun _ => ?_⟩
      rw [ht, catA_snoc, he, ← e3]
      refine ⟨rfl, fun y hy => ?_⟩
      rw [List.mem_append] at hy
      rcases hy with hy | hy
      · exact e4 y hy
      · obtain rfl : y = x := by simpa using hy
        rw [he]; rfl

theorem back_text {R : Nat} {b rest : List (BitVec 8)} {w w' : World} {e : Ending} (hb : b.length ≤ 65535) (h : RText R (leB 2 (BitVec.ofNat 64 b.length) ++ b ++ rest) false w e w') : ∃ u, e = .returned u ∧ BytesAt w'.heap.size w' u b ∧ RLeft R rest false w w' := by
  have e0 : leB 2 (BitVec.ofNat 64 b.length) ++ b ++ rest = leB 2 (BitVec.ofNat 64 b.length) ++ (b ++ rest) := List.append_assoc _ _ _
  have l2 : (leB 2 (BitVec.ofNat 64 b.length)).length = 2 := leB_len _ _
  have e1 : tookN (leB 2 (BitVec.ofNat 64 b.length) ++ (b ++ rest)) true 2 = some 2 := by
    have := tookN_pre (leB 2 (BitVec.ofNat 64 b.length)) (b ++ rest) 2 (by rw [l2]; rfl)
    rwa [l2] at this
  have e2 : takenB (leB 2 (BitVec.ofNat 64 b.length) ++ (b ++ rest)) (some 2) = leB 2 (BitVec.ofNat 64 b.length) := by
    have := takenB_pre (leB 2 (BitVec.ofNat 64 b.length)) (b ++ rest)
    rwa [l2] at this
  have e3 : leftB (leB 2 (BitVec.ofNat 64 b.length) ++ (b ++ rest)) (some 2) = b ++ rest := by
    have := leftB_pre (leB 2 (BitVec.ofNat 64 b.length)) (b ++ rest)
    rwa [l2] at this
  have e4 : U (leOf (leB 2 (BitVec.ofNat 64 b.length))) = (b.length : Int) := by
    unfold U
    rw [leOf_toNat _ (by rw [l2]; omega), leNat_leB, BitVec.toNat_ofNat]
    have : b.length % 2 ^ 64 % 256 ^ 2 = b.length := by omega
    rw [this]
  rw [e0] at h
  obtain ⟨u, he, hu, hl⟩ := h
  unfold textLen at hu hl
  rw [e1, e2, e3, e4, tookN_pre b rest _ rfl] at hl
  rw [e1, e2, e3, e4, tookN_pre b rest _ rfl, takenB_pre] at hu
  rw [leftB_pre] at hl
  exact ⟨u, he, hu, hl⟩
theorem back_raw {R : Nat} {b rest : List (BitVec 8)} {w w' : World} {e : Ending} (h : RRead R (b ++ rest) false (tookN (b ++ rest) true b.length) w e w') : ∃ u, e = .returned u ∧ BytesAt w'.heap.size w' u b ∧ RLeft R rest false w w' := by
  rw [tookN_pre b rest _ rfl] at h
  obtain ⟨u, he, hu, hl⟩ := h
  rw [takenB_pre] at hu
  rw [leftB_pre] at hl
  exact ⟨u, he, hu, hl⟩
theorem rleft_below {R n₀ : Nat} {left : List (BitVec 8)} {bad : Bool} {w w' : World} (h : RLeft R left bad w w') (hR : n₀ ≤ R) (hn : n₀ ≤ w.heap.size) : Below n₀ w w' := by
  obtain ⟨_, _, hm⟩ := h
  exact hm.below (fun i hi => by have hi : i = R := hi; omega) hn

theorem mul256 (z : BitVec 64) : IntKind.u64.wrap (U z * 256) = U (z * 256#64) := by
  unfold U
  rw [BitVec.toNat_mul]
  simp [IntKind.wrap, IntKind.bits, IntKind.signed]

/-- Between two rounds of the reading. -/
def ReadBack (w : World) (R : Nat) (l : List Act3) (k : Nat) (wr : World) : Prop := (∃ v, ReaderAt wr R v (catA (l.drop k)) false) ∧ Below w.heap.size w wr

set_option maxRecDepth 100000 in
set_option maxHeartbeats 4000000 in
theorem wireBack_walk (lim : Int) (hlim : -9223372036854775808 ≤ lim ∧ lim ≤ 9223372036854775807) (l : List Act3) (v : Value) (w : World) (hv : ActsAt w.heap.size w v l) (hm : l.length ≤ maxLen) : Calls Try.prog 5 #[.int .i64 lim, v] w (Good w) := by
  have HL := Lib.hid (light_any l v w hv hm)
  unfold maxLen at hm
  obtain ⟨a, cap, rfl, hcap, hwf, hv⟩ := hv
  cases hlight : lightB l with
  | false =>
    rw [hlight] at HL
    clear hlight hwf hv
    go_enter Try.func5, Try.ntmps5
    go_wp2_with (go_at_call 14; refine HL.out.mono ?_; rintro e w' ⟨rfl, rfl⟩)
    go_ret
    exact ⟨rfl, Below.refl _ _⟩
  | true =>
    rw [hlight] at HL
    have hl40 : l.length ≤ 40 := by simp [lightB] at hlight; exact hlight.1
    have b1 : (l.length : Int) ≤ 40 := by omega
    have hshort : ∀ i : Nat, (l[i]?.getD default).b.length ≤ 300 := fun i => by
      by_cases hi : i < l.length
      · simp [lightB] at hlight
        simpa [hi] using hlight.2 _ (List.getElem_mem hi)
      · rw [List.getElem?_eq_none (by omega)]; exact Nat.zero_le _
    have HS := Lib.hid hshort
    have HW := Lib.hid hwf
    clear hlight hshort hwf
    have HNW := Lib.hid (newWriter_any lim w)
    obtain ⟨mx, hmx⟩ : ∃ mx, max lim 0 = mx := ⟨_, rfl⟩
    rw [hmx] at HNW
    have x0 : 0 ≤ mx := by omega
    have x1 : mx ≤ 9223372036854775807 := by omega
    clear hmx hlim
    go_enter Try.func5, Try.ntmps5
    go_wp2_with (first
      | (go_at_call 14; refine HL.out.mono ?_; rintro e w' ⟨rfl, rfl⟩)
      | (go_at_call 15; refine HNW.out.mono ?_; rintro e w' ⟨rfl, rfl⟩))
    go_loopw [6] (fun iv wr => ∃ k : Nat, k ≤ l.length ∧ iv = .int .i64 k ∧ BackAt w mx l k wr) (fun iv _ => l.length - (intOf iv).toNat)
    case atStart =>
      exact ⟨0, Nat.zero_le _, rfl, .slice none 0 0, [], false, ⟨heap_alloc_new _ _, World.ownsRow_nil _ _ _ _⟩, (Below.refl _ _).alloc (Nat.le_refl _) _, by simp, fun _ => ⟨rfl, fun x hx => by cases hx⟩⟩
    case round =>
      obtain ⟨k, hk, rfl, v1, row, full, hA, hB, hr1, hf⟩ := hrel
      by_cases hlt : k < l.length
      · rcases hv with h | ⟨g, off, rfl, hg, hc⟩
        · subst h; simp at hlt
        have hAct := (hc k hlt).below hB hg
        have k0 : (0 : Int) ≤ k := by omega
        have k1 : (k : Int) < l.length := by omega
        have hbl := HS.out k
        have htk := take_act l k hlt
        generalize l[k]?.getD default = x at hAct hbl htk
        obtain ⟨c0, c1, c2, u, c3, hu⟩ := hAct
        have hap := text_arg hA hu (Nat.le_refl _) (Nat.le_refl _)
        have hus := hu.mono hB.size
        obtain ⟨au, cu, rfl, _, _, _⟩ := hu
        have hAd : WriterAt w.heap.size wr.drew w.heap.size v1 row mx full := ⟨hA.blk, hA.own⟩
        clear hc
        cases hk0 : ((wrap64 (x.kind.tmod 3 + 3)).tmod 3 == 0) with
        | true =>
          have he : encA x = numB x.n x.len := by unfold encA k3; rw [if_pos hk0]
          have HN := Lib.hid ((number_any _ _ _ row _ full x.n x.len wr.drew hAd x0 x1 (by omega) hB.size).mono fun _ _ h => back_step h hAd hB.drew hr1 hbl hf htk he)
          clear hA hAd hB hf htk he hap hus hr1
          go_upto_region 10 with (fail)
          go_region_with ((go_at_call 16; (with_reducible refine HN.out.mono ?_); rintro e w2 ⟨rfl, hb2⟩; have HB2 := Lib.hid hb2; clear hb2))
          all_goals (go_wp2_with fail)
          all_goals go_roundw
          all_goals first
            | exact ⟨k + 1, by omega, by go_num, HB2.out⟩
            | (simp [intOf]; omega)
        | false =>
          cases hk1 : ((wrap64 (x.kind.tmod 3 + 3)).tmod 3 == 1) with
          | true =>
            have he : encA x = textB x.b := by unfold encA k3; rw [if_neg (by simpa using hk0), if_pos hk1]
            have HN := Lib.hid ((text_any _ _ _ row _ full _ x.b wr hA hus hap x0 x1 (by omega) (by omega) hB.size).mono fun _ _ h => back_step h hA hB hr1 hbl hf htk he)
            clear hA hAd hB hf htk he hap hus hr1
            go_wp2_with (go_at_call 17; (with_reducible refine HN.out.mono ?_); rintro e w2 ⟨rfl, hb2⟩; have HB2 := Lib.hid hb2; clear hb2)
            go_roundw
            case rel => exact ⟨k + 1, by omega, by go_num, HB2.out⟩
            case measure => simp [intOf]; omega
          | false =>
            have he : encA x = some x.b := by unfold encA k3; rw [if_neg (by simpa using hk0), if_neg (by simpa using hk1)]
            have HN := Lib.hid ((raw_any _ _ _ row _ full _ x.b wr hA hus x0 x1 (by omega) (by omega) hB.size).mono fun _ _ h => back_step h hA hB hr1 hbl hf htk he)
            clear hA hAd hB hf htk he hap hus hr1
            go_wp2_with (go_at_call 18; (with_reducible refine HN.out.mono ?_); rintro e w2 ⟨rfl, hb2⟩; have HB2 := Lib.hid hb2; clear hb2)
            go_roundw
            case rel => exact ⟨k + 1, by omega, by go_num, HB2.out⟩
            case measure => simp [intOf]; omega
      · obtain rfl : k = l.length := by omega
        have HFU := Lib.hid (full_any _ _ _ _ _ _ _ hA)
        cases full with
        | true =>
          have HB := Lib.hid hB
          clear hA hB hf hr1 hv
          go_wp2_with (first
            | (go_at_call 19; (with_reducible refine HFU.out.mono ?_); rintro e w3 ⟨rfl, rfl⟩)
            | (go_at_call 20; refine (awake03 _).mono ?_; rintro e w4 ⟨rfl, hb4⟩))
          go_ret
          exact ⟨rfl, HB.out.trans (hb4.mono HB.out.size)⟩
        | false =>
          obtain ⟨hrow, hall⟩ := hf rfl
          rw [List.take_length] at hrow hall
          subst hrow
          have hrl : (catA l).length ≤ 12080 := by omega
          have HBY := Lib.hid (bytes_any _ _ _ _ _ _ _ hA (by omega))
          have HB := Lib.hid hB
          have HALL := Lib.hid hall
          have HRL := Lib.hid hrl
          clear hA hB hf hr1 hall hrl
          go_wp2_with (first
            | (go_at_call 19; (with_reducible refine HFU.out.mono ?_); rintro e w3 ⟨rfl, rfl⟩)
            | (go_at_call 22; (with_reducible refine HBY.out.mono ?_); rintro e w4 ⟨u4, rfl, hu4, hb4⟩; have HNR := Lib.hid (newReader_any u4 _ w4 (BytesAt.of_owns hu4) (Nat.le_trans HRL.out (by decide))); have HB4 := Lib.hid (HB.out.trans (hb4.mono HB.out.size)); clear hu4 hb4)
            | (go_at_call 21; (with_reducible refine HNR.out.mono ?_); rintro e w5 ⟨R, vr, rfl, hR, hr5, hb5, _⟩; have HR5 := Lib.hid hr5; have HB5 := Lib.hid (HB4.out.trans (hb5.mono HB4.out.size)); have HRR : Hid (w.heap.size ≤ R) := Nat.le_trans HB4.out.size hR; clear hr5 hb5 hR))
          go_loopw [8] (fun iv wr => ∃ k : Nat, k ≤ l.length ∧ iv = .int .i64 k ∧ ReadBack w R l k wr) (fun iv _ => l.length - (intOf iv).toNat)
          case atStart => exact ⟨0, Nat.zero_le _, rfl, ⟨vr, HR5.out⟩, HB5.out⟩
          case round =>
            obtain ⟨k, hk, rfl, ⟨vr2, hrd⟩, hB2⟩ := hrel
            by_cases hlt : k < l.length
            · rcases hv with h | ⟨g, off, rfl, hg, hc⟩
              · subst h; simp at hlt
              obtain ⟨c0, c1, c2, u, c3, hu⟩ := (hc k hlt).below hB2 hg
              have k0 : (0 : Int) ≤ k := by omega
              have k1 : (k : Int) < l.length := by omega
              have hbl := HS.out k
              have hdr := drop_act l k hlt
              have hso := HALL.out (l[k]?.getD default) (by simp [hlt])
              generalize l[k]?.getD default = x at c0 c1 c2 c3 hu hbl hdr hso
              rw [hdr, catA_cons] at hrd
              have hrest : (catA (l.drop (k + 1))).length ≤ 12080 := by
                have := HRL.out
                have e : (catA l).length = (catA (l.take (k + 1))).length + (catA (l.drop (k + 1))).length := by
                  rw [← List.length_append]
                  unfold catA
                  rw [← List.flatten_append, ← List.map_append, List.take_append_drop]
                omega
              have HREL : Hid (∀ wr2, RLeft R (catA (l.drop (k + 1))) false wr wr2 → ReadBack w R l (k + 1) wr2) := fun wr2 h => ⟨h.imp fun _ h => h.1, hB2.trans (rleft_below h HRR.out hB2.size)⟩
              generalize catA (l.drop (k + 1)) = rest at hrd hrest HREL
              have HB2 := Lib.hid hB2
              clear hc hdr hB2
              cases hk0 : ((wrap64 (x.kind.tmod 3 + 3)).tmod 3 == 0) with
              | true =>
                have he : encA x = numB x.n x.len := by unfold encA k3; rw [if_pos hk0]
                obtain ⟨kn, hkn, hk8, hmay⟩ : ∃ kn : Nat, x.len = kn ∧ kn ≤ 8 ∧ mayB x.len = true := by
                  rw [he] at hso
                  unfold numB at hso
                  split at hso
                  · rename_i hm
                    have : x.len = 1 ∨ x.len = 2 ∨ x.len = 4 ∨ x.len = 8 := by simpa [mayB] using hm
                    exact ⟨x.len.toNat, by omega, by omega, hm⟩
                  · cases hso
                have ht : numB x.n x.len = some (leB kn x.n) := by unfold numB; rw [if_pos hmay, hkn]; rfl
                rw [he, ht, Option.getD_some] at hrd
                have hll : (leB kn x.n ++ rest).length ≤ 1099511627776 := by rw [List.length_append, leB_len]; omega
                have e1 : tookN (leB kn x.n ++ rest) (mayB x.len) x.len = some kn := by
                  have := tookN_pre (leB kn x.n) rest x.len (by rw [leB_len]; exact hkn)
                  rwa [leB_len, ← hmay] at this
                have e2 : takenB (leB kn x.n ++ rest) (some kn) = leB kn x.n := by
                  have := takenB_pre (leB kn x.n) rest
                  rwa [leB_len] at this
                have e3 : leftB (leB kn x.n ++ rest) (some kn) = rest := by
                  have := leftB_pre (leB kn x.n) rest
                  rwa [leB_len] at this
                have hrx := rnumber_any R vr2 _ false x.len wr hrd hll
                rw [e1, e2, e3] at hrx
                have hsh := shl_leOf kn x.n hk8
                rw [hkn] at hrx c1
                have HRX := Lib.hid hrx
                have HSH := Lib.hid hsh
                generalize leOf (leB kn x.n) = q at HRX HSH
                have kn1 : (kn : Int) ≤ 8 := by omega
                clear hrd hrx he ht hso hll e1 e2 e3 hsh hkn hmay hu c3 hbl
                go_wp2_with fail
                go_loop [9, 10] (fun nv kv => ∃ j : Nat, kn ≤ j ∧ j ≤ 8 ∧ kv = .int .i64 j ∧ nv = .int .u64 (U (x.n <<< (8 * (j - kn))))) (fun _ kv => 8 - (intOf kv).toNat)
                case atStart => exact ⟨kn, Nat.le_refl _, hk8, rfl, by simp⟩
                case round =>
                  obtain ⟨j, hj1, hj2, rfl, rfl⟩ := hrel
                  by_cases hj : j < 8
                  · have hmul := mul256 (x.n <<< (8 * (j - kn)))
                    have hss := shl_succ x.n (j - kn)
                    rw [show j - kn + 1 = j + 1 - kn by omega] at hss
                    have HSS := Lib.hid hss
                    clear hss
                    generalize x.n <<< (8 * (j - kn)) = z at hmul HSS
                    have j1 : (j : Int) < 8 := by omega
                    go_wp2_with fail
                    go_round
                    case rel => exact ⟨j + 1, by omega, by omega, by go_num, by rw [HSS.out]⟩
                    case measure => simp [intOf]; omega
                  · obtain rfl : j = 8 := by omega
                    go_wp2_with (go_at_call 23; (with_reducible refine HRX.out.mono ?_); rintro e w6 ⟨rfl, hl6⟩; have hbx := rleft_below hl6 HRR.out HB2.out.size; have c1' := (hbx.cell (p := ⟨g, off + k * 4 + 1, none⟩) hg).trans c1; have HRB := Lib.hid (HREL.out _ hl6); clear hl6 hbx)
                    go_loop [11, 12] (fun nv kv => ∃ j : Nat, kn ≤ j ∧ j ≤ 8 ∧ kv = .int .i64 j ∧ nv = .int .u64 (U (q <<< (8 * (j - kn))))) (fun _ kv => 8 - (intOf kv).toNat)
                    case atStart => exact ⟨kn, Nat.le_refl _, hk8, rfl, by simp⟩
                    case round =>
                      obtain ⟨j, hj1, hj2, rfl, rfl⟩ := hrel
                      by_cases hj : j < 8
                      · have hmul := mul256 (q <<< (8 * (j - kn)))
                        have hss := shl_succ q (j - kn)
                        rw [show j - kn + 1 = j + 1 - kn by omega] at hss
                        have HSS := Lib.hid hss
                        clear hss
                        generalize q <<< (8 * (j - kn)) = z at hmul HSS
                        have j1 : (j : Int) < 8 := by omega
                        go_wp2_with fail
                        go_round
                        case rel => exact ⟨j + 1, by omega, by omega, by go_num, by rw [HSS.out]⟩
                        case measure => simp [intOf]; omega
                      · obtain rfl : j = 8 := by omega
                        rw [HSH.out]
                        go_wp2_with fail
                        go_roundw
                        case rel => exact ⟨k + 1, by omega, by go_num, HRB.out⟩
                        case measure => simp [intOf]; omega
              | false =>
                cases hk1 : ((wrap64 (x.kind.tmod 3 + 3)).tmod 3 == 1) with
                | true =>
                  have he : encA x = textB x.b := by unfold encA k3; rw [if_neg (by simpa using hk0), if_pos hk1]
                  have ht : textB x.b = some (leB 2 (BitVec.ofNat 64 x.b.length) ++ x.b) := by simp [textB]; omega
                  rw [he, ht, Option.getD_some] at hrd
                  have hll : (leB 2 (BitVec.ofNat 64 x.b.length) ++ x.b ++ rest).length ≤ 1099511627776 := by
                    rw [List.length_append, List.length_append, leB_len]; omega
                  have hrx := rtext_any R vr2 _ false wr.drew ⟨hrd.blk, hrd.bytes⟩ hll
                  have HRX : Hid (Calls Try.prog 24 #[.pointer (some ⟨R, 0, none⟩)] wr.drew fun e w' => ∃ u, e = .returned u ∧ BytesAt w'.heap.size w' u x.b ∧ RLeft R rest false wr w') := hrx.mono fun _ _ h => by
                    obtain ⟨u, h1, h2, v', h3, h4⟩ := back_text (by omega) h
                    exact ⟨u, h1, h2, v', h3, ⟨h4.os, h4.tape, h4.output, h4.size, h4.block⟩⟩
                  have hcv := conv_str (show BytesAt w.heap.size wr.drew _ _ from hu)
                  have HU := Lib.hid hu
                  obtain ⟨au, cu, rfl, _, _, _⟩ := hu
                  clear hrd hrx he ht hso hll
                  go_upto_region 36 with (fail)
                  go_region_with (first
                    | (go_at_call 24; (with_reducible refine HRX.out.mono ?_); rintro e w6 ⟨u6, rfl, hu6, hl6⟩; have hcv1 := conv_str hu6; have hbx := rleft_below hl6 HRR.out HB2.out.size; have hcv2 := conv_str (HU.out.below hbx); have c3' := (hbx.cell (p := ⟨g, off + k * 4 + 3, none⟩) hg).trans c3; have HRB := Lib.hid (HREL.out _ hl6); clear hu6 hl6 hbx))
                  all_goals (go_wp2_with fail)
                  all_goals go_roundw
                  all_goals first
                    | exact ⟨k + 1, by omega, by go_num, HRB.out⟩
                    | (simp [intOf]; omega)
                | false =>
                  have he : encA x = some x.b := by unfold encA k3; rw [if_neg (by simpa using hk0), if_neg (by simpa using hk1)]
                  rw [he, Option.getD_some] at hrd
                  have hll : (x.b ++ rest).length ≤ 1099511627776 := by rw [List.length_append]; omega
                  have hrx := rraw_any R vr2 _ false x.b.length wr.drew ⟨hrd.blk, hrd.bytes⟩ hll
                  have HRX : Hid (Calls Try.prog 25 #[.pointer (some ⟨R, 0, none⟩), .int .i64 x.b.length] wr.drew fun e w' => ∃ u, e = .returned u ∧ BytesAt w'.heap.size w' u x.b ∧ RLeft R rest false wr w') := hrx.mono fun _ _ h => by
                    obtain ⟨u, h1, h2, v', h3, h4⟩ := back_raw h
                    exact ⟨u, h1, h2, v', h3, ⟨h4.os, h4.tape, h4.output, h4.size, h4.block⟩⟩
                  have hcv := conv_str (show BytesAt w.heap.size wr.drew _ _ from hu)
                  have HU := Lib.hid hu
                  obtain ⟨au, cu, rfl, _, _, _⟩ := hu
                  clear hrd hrx he hso hll
                  go_upto_region 20 with (fail)
                  go_region_with (first
                    | (go_at_call 25; (with_reducible refine HRX.out.mono ?_); rintro e w6 ⟨u6, rfl, hu6, hl6⟩; have hcv1 := conv_str hu6; have hbx := rleft_below hl6 HRR.out HB2.out.size; have hcv2 := conv_str (HU.out.below hbx); have c3' := (hbx.cell (p := ⟨g, off + k * 4 + 3, none⟩) hg).trans c3; have HRB := Lib.hid (HREL.out _ hl6); clear hu6 hl6 hbx))
                  all_goals (go_wp2_with fail)
                  all_goals go_roundw
                  all_goals first
                    | exact ⟨k + 1, by omega, by go_num, HRB.out⟩
                    | (simp [intOf]; omega)
            · obtain rfl : k = l.length := by omega
              rw [List.drop_length] at hrd
              have HBD := Lib.hid (bad_any _ _ _ _ _ hrd)
              have HRS := Lib.hid (rest_any _ _ _ _ _ hrd (by simp [catA]))
              have HB2 := Lib.hid hB2
              clear hrd hB2
              go_wp2_with (first
                | (go_at_call 26; (with_reducible refine HBD.out.mono ?_); rintro e w7 ⟨rfl, rfl⟩)
                | (go_at_call 27; (with_reducible refine HRS.out.mono ?_); rintro e w8 ⟨u8, rfl, hu8, hb8⟩; obtain ⟨a8, c8, rfl, _⟩ := id hu8)
                | (go_at_call 20; refine (awake03 _).mono ?_; rintro e w9 ⟨rfl, hb9⟩))
              go_ret
              exact ⟨rfl, HB2.out.trans ((hb8.trans (hb9.mono hb8.size)).mono HB2.out.size)⟩

set_option maxRecDepth 100000 in
theorem wireBack_lifted (os : Os) (started : os.Started) (H : Type) (enc : TypeId × Value → H) :
    ReturnsInHanded {} Try.checked os 5 .any (Rows.wireBackSpec.pre6 enc Try.prog Try.f5 Rows.wireBackRow.domain false) (Rows.wireBackSpec.post enc Try.prog Try.f5 false true false false) :=
  law_lifted 5 Try.f5 Rows.wireBackSpec Try.func5 (by kernel_rfl) rfl rfl
    (fun ds h => by match ds, h with | [_, _], _ => rfl) (by kernel_rfl) os started
    (ChangeSpec.witness6 (enc := enc) (C := Try.checked) false ⟨#[], #[.int .i64 0, .slice none 0 0], []⟩ 8 (by kernel_rfl) (by kernel_rfl) (by kernel_rfl) (by kernel_rfl))
    fun W args ds ps hval hA => by
      rw [Try.params5] at hA hval
      obtain ⟨v0, vs0, d0, ds0, p0, q0, hargs, rfl, rfl, h0, r0⟩ := trodAll_cons hA
      obtain ⟨v1, vs1, d1, ds1, p1, q1, rfl, rfl, rfl, h1, r1⟩ := trodAll_cons r0
      obtain ⟨rfl, rfl, rfl⟩ := trodAll_nil r1
      obtain rfl : args = #[v0, v1] := by cases args; simp_all
      obtain ⟨b0, o0⟩ := hval 0 _ v0 rfl rfl
      obtain ⟨b1, o1⟩ := hval 1 _ v1 rfl rfl
      obtain ⟨a0, rfl, rfl, rfl, w0⟩ := open_int Try.underlying3 o0 h0
      obtain ⟨l1, hb1, hm1⟩ := open_acts o1 h1
      exact wireBack_walk a0 (wf_i64 w0) l1 v1 W hb1 hm1

/-- The statement. -/
theorem wireBack_holds : Rows.WireBackSaid :=
  OpenClaim.holds_of_wide 5 Try.f5 rfl rfl rfl rfl rfl rfl rfl ⟨rfl, rfl, rfl, rfl, rfl⟩ rfl rfl rfl rfl rfl (by kernel_rfl) Try.func5 (by kernel_rfl)
    (of_decide_eq_true (by kernel_rfl)) (by unfold Func.isWrapper; first | (rw [if_pos (by decide +kernel)]; kernel_rfl) | (rw [if_neg (by decide +kernel)]; exact ⟨rfl, rfl⟩))
    (fun os started H enc _ => wireBack_lifted os started H enc)
#print axioms wireBack_holds
end Go.Proofs.Ytggicfehdhabjaa

/-
  What a writer's Text does, and what its calls answer where there is no writer.
  Conditions: none.
-/
import Derived.Test.YtgaabclgoolalaaWire3
namespace Go.Proofs.Ytgaabclgoolalaa
open Go.RowKit

set_option maxHeartbeats 2000000 in
theorem text_any (n₀ B : Nat) (v : Value) (row : List (BitVec 8)) (limit : Int) (full : Bool) (u : Value) (bs : List (BitVec 8)) (w : World) (hw : WriterAt n₀ w B v row limit full) (hu : BytesAt w.heap.size w u bs) (hd : bs ≠ [] → ∀ k, u.ownBlock = some k → ¬ wS B v k) (h0 : 0 ≤ limit) (h1 : limit ≤ 9223372036854775807)
    (hr : row.length ≤ 549755813888) (hl : bs.length ≤ 549755813888) (hn : n₀ ≤ w.heap.size) :
    Calls Try.prog 39 #[.pointer (some ⟨B, 0, none⟩), u] w (Wrote n₀ B v row limit full (textB bs) w) := by
  obtain ⟨i0, hi, hz0, hz1, hz2⟩ := info_parts Try.infoU8
  obtain ⟨av, capv, rfl⟩ := owns_slice hw.own
  have hu0 := hu
  obtain ⟨au, capu, rfl, _, _, _⟩ := hu
  have l1 : (bs.length : Int) ≤ 549755813888 := by omega
  by_cases hsmall : bs.length ≤ 65535
  · have hsm : (bs.length : Int) ≤ 65535 := by omega
    have htx : textB bs = some (leB 2 (BitVec.ofNat 64 bs.length) ++ bs) := by simp [textB, hsmall]
    have hlen : (leB 2 (BitVec.ofNat 64 bs.length) ++ bs).length = 2 + bs.length := by rw [List.length_append, leB_len]
    have HX := Lib.hid htx
    clear htx
    by_cases hroom : 2 + (bs.length : Int) ≤ limit - row.length
    · have HT := Lib.hid (takes_yes B row.length av capv limit (2 + bs.length) full w hw.blk h0 h1 (by omega) hroom)
      cases full with
      | true =>
        have HF := Lib.hid (fun j => (wrote_full (bs := leB 2 (BitVec.ofNat 64 bs.length) ++ bs) hw j))
        clear hw hu0 hd hlen
        go_enter Try.func39, Try.ntmps39
        go_wp2_with (go_at_call 36; refine HT.out.mono ?_; rintro e w' ⟨rfl, j, rfl⟩)
        go_end0
        rw [HX.out]
        exact HF.out _
      | false =>
        have hfin : wRow row limit false (some (leB 2 (BitVec.ofNat 64 bs.length) ++ bs)) = row ++ leB 2 (BitVec.ofNat 64 bs.length) ++ bs ∧ wFull row limit false (some (leB 2 (BitVec.ofNat 64 bs.length) ++ bs)) = false := by
          constructor
          · dsimp only [wRow]
            rw [hlen, if_neg (by simp; omega), List.append_assoc]
          · dsimp only [wFull]
            rw [hlen]; simp; omega
        have hp := fun j => put_any n₀ B _ row limit false (BitVec.ofNat 64 bs.length) 2 _ (hw.drewN j) (by omega) (by omega) hn
        rw [← U_ofNat (n := 64) (m := bs.length) (by omega)] at hp
        have HP := Lib.hid hp
        have HF := Lib.hid hfin
        have HU := Lib.hid hu0
        have HD := Lib.hid hd
        have hrow : (row ++ leB 2 (BitVec.ofNat 64 bs.length)).length ≤ 549755813890 := by rw [List.length_append, leB_len]; omega
        clear hw hu0 hd hlen hfin hp
        generalize leB 2 (BitVec.ofNat 64 bs.length) = lb at HX HF HP hrow
        obtain ⟨row2, hrow2⟩ : ∃ row2, row ++ lb = row2 := ⟨_, rfl⟩
        rw [hrow2] at HF HP hrow
        clear hrow2
        go_enter Try.func39, Try.ntmps39
        go_wp2_with (first
          | (go_at_call 36; refine HT.out.mono ?_; rintro e w' ⟨rfl, j, rfl⟩)
          | (go_at_call 37; refine (HP.out j).mono ?_; rintro e w2 ⟨rfl, v2, hA2, hS2⟩; obtain ⟨av2, capv2, rfl⟩ := owns_slice hA2.own; have c2 : w2.cell? ⟨B, 0, none⟩ = some (.slice av2 row2.length capv2) := blk_cell hA2.blk 0; have HA2 := Lib.hid hA2; have HS2 := Lib.hid hS2; clear hA2 hS2)
          | (at_builtin; go_must (refine wpList_append_bytes rfl (.tmp 21) (.tmp 22) rfl rfl n₀ i0 hi hz0 hz1 hz2 _ rfl row2 HA2.out.own _ rfl w.heap.size bs (HS2.out.moves.bytes (HU.out.drewN _) (Nat.le_refl _) HD.out) (by omega) (by have := HS2.out.moves.size; simp at this; omega) ?_); intro v1 w1 n1 HN hown1 hgrow1 hat1; have hb1 := blk_keep HA2.out.blk hgrow1 HA2.out.ne; obtain ⟨a1, cp1, rfl⟩ := owns_slice hown1; have f1 := blk_frozen hb1 0; have c1 := blk_cell hb1 0; have HB1 := Lib.hid hb1; clear hb1))
        go_end0
        obtain rfl := HN.out
        have hfin2 := HA2.out.appended hown1 hgrow1 hat1
        exact ⟨rfl, _, by rw [HX.out, HF.out.1, HF.out.2]; exact hfin2.1, (HS2.out.trans hfin2.2).before⟩
    · have HT := Lib.hid (takes_more B row.length av capv limit (2 + bs.length) full w hw.blk h0 h1 (by omega) (by omega))
      have HF := Lib.hid (fun j => (wrote_no (x := some (leB 2 (BitVec.ofNat 64 bs.length) ++ bs)) hw j (by intro bs' e; cases e; rw [hlen]; omega)))
      clear hw hu0 hd hlen
      go_enter Try.func39, Try.ntmps39
      go_wp2_with (go_at_call 36; refine HT.out.mono ?_; rintro e w' ⟨rfl, j, rfl⟩)
      go_end0
      rw [HX.out]
      exact HF.out _
  · have hbig : decide ((bs.length : Int) ≤ 65535) = false := by simp; omega
    have htx : textB bs = none := by simp [textB, hsmall]
    have HX := Lib.hid htx
    have HT := Lib.hid (takes_wrong B row.length av capv limit (2 + bs.length) full w hw.blk)
    have HF := Lib.hid (fun j => (wrote_no (x := none) hw j (by intro bs' e; cases e)))
    clear hw hu0 hd hsmall htx
    go_enter Try.func39, Try.ntmps39
    go_wp2_with (go_at_call 36; refine HT.out.mono ?_; rintro e w' ⟨rfl, j, rfl⟩)
    go_end0
    rw [HX.out]
    exact HF.out _

/-! No writer -/
theorem number_nil (x : BitVec 64) (k : Int) (w : World) : Calls Try.prog 26 #[.pointer none, .int .u64 (U x), .int .i64 k] w fun e w' => e = .returned (.tuple #[]) ∧ Below w.heap.size w w' := by
  have HM := Lib.hid (may_any k w)
  have HT := Lib.hid (fun W => takes_nil (mayB k) k W)
  go_enter Try.func26, Try.ntmps26
  go_wp2_with (first
    | (go_at_call 32; refine HM.out.mono ?_; rintro e w' ⟨rfl, rfl⟩)
    | (go_at_call 36; refine (HT.out _).mono ?_; rintro e w' ⟨rfl, rfl⟩))
  go_end0
  exact ⟨rfl, (Below.refl _ _).alloc (Nat.le_refl _) _⟩
theorem text_nil (w : World) : Calls Try.prog 39 #[.pointer none, .slice none 0 0] w fun e w' => e = .returned (.tuple #[]) ∧ w = w' := by
  have HT := Lib.hid (fun W => takes_nil true 2 W)
  go_enter Try.func39, Try.ntmps39
  go_wp2_with (go_at_call 36; refine (HT.out _).mono ?_; rintro e w' ⟨rfl, rfl⟩)
  go_end0
  exact ⟨rfl, rfl⟩
theorem bytes_nil (w : World) : Calls Try.prog 29 #[.pointer none] w fun e w' => e = .returned (.slice none 0 0) ∧ w = w' := by
  go_enter Try.func29, Try.ntmps29
  go_wp2
  go_ret
  exact ⟨rfl, rfl⟩

end Go.Proofs.Ytgaabclgoolalaa

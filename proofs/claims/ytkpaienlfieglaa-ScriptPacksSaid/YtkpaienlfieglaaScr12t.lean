/-
  sgraffitoref20's Text.
  Conditions: none.
-/
import Derived.Test.YtkpaienlfieglaaScr12
namespace Go.Proofs.Ytkpaienlfieglaa
open Go.RowKit
attribute [local go_sem] Oper.semAt_some

set_option maxRecDepth 100000 in
set_option maxHeartbeats 2000000 in
theorem refText_any (bs : List (BitVec 8)) (hl : bs.length ≤ 65535) (w : World) : Calls Try.prog 29 #[.string (strB bs)] w fun e w' => ∃ u, e = .returned u ∧ w'.ownsRow w.heap.size 5 1 u (txt bs).length (cellsOf (txt bs)) ∧ Below w.heap.size w w' := by
  obtain ⟨i0, hi, hz0, hz1, hz2⟩ := info_parts Try.infoU8
  have s1 : (strB bs).size = bs.length := strB_size _
  have h1 : (bs.length : Int) ≤ 65535 := by omega
  have HL := Lib.hid hl
  have e1 : U (BitVec.ofNat 64 bs.length) = (bs.length : Int) := (U_ofNat (by omega)).symm
  have hn : Calls Try.prog 27 #[.int .u64 (bs.length : Int), .int .i64 2] w fun e w' => ∃ u, e = .returned u ∧ w'.ownsRow w.heap.size 5 1 u 2 (cellsOf (leB 2 (BitVec.ofNat 64 bs.length))) ∧ Below w.heap.size w w' := by
    rw [← e1]
    exact refNumber_yes (BitVec.ofNat 64 bs.length) 2 (by decide) w
  have HN := Lib.hid hn
  have hcv : ∀ (W : World), (convert 9 24 (.string (strB bs))).run Try.prog W = .ok (.slice (some ⟨W.heap.size, 0, none⟩) bs.length (grownCap W bs.length 0 5)) (Lib.bytesWorld W 5 (strB bs)) := fun W => by
    have := conv_bytes W (strB bs)
    rwa [strB_size] at this
  clear hn e1 hl
  go_enter Try.func29, Try.ntmps29
  go_wp2_with ((first
    | (go_at_call 27; (with_reducible refine HN.out.mono ?_); rintro e w2 ⟨u, rfl, hu, hb⟩; have HU := Lib.hid hu; have HB := Lib.hid hb; clear hu hb)
    | (at_builtin; (refine wpList_append_bytes rfl (.tmp 6) (.tmp 8) rfl rfl w.heap.size i0 hi hz0 hz1 hz2 _ rfl (leB 2 (BitVec.ofNat 64 bs.length)) (by have h9 := (Moves.of_below (S := fun _ => False) (bw_below w2 5 (strB bs))).row HU.out (fun _ _ f => f); rw [leB_len]; exact h9) _ rfl _ bs (bt_new w2 bs).1 (by rw [leB_len]; have := HL.out; omega) (Nat.le_trans HB.out.size (bw_below w2 5 (strB bs)).size) ?_); intro v9 w9 n9 hn9 hown9 hg9 hat9; have HO9 := Lib.hid hown9; have HN9 := Lib.hid hn9; have HB9 := Lib.hid ((bel_bw HB.out HB.out.size).grown hg9 (Nat.le_trans HB.out.size (bw_below w2 5 (strB bs)).size) (fun k e => (HU.out.lt k e).1)); clear hown9 hg9 hat9 hn9)))
  go_ret
  refine ⟨_, rfl, ?_, HB9.out⟩
  have h9 := HO9.out
  rw [HN9.out] at h9
  exact h9
end Go.Proofs.Ytkpaienlfieglaa

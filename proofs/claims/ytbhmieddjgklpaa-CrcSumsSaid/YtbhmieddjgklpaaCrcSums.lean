/-
  Proved: the check of any bytes, and what becomes of any byte alone, are the document's. Whatever bytes and byte come in, the law CrcSums answers true and the arguments read as they did.
  Conditions: none.
-/
import Derived.Test.YtbhmieddjgklpaaCrcRef
import Derived.Test.YtbhmieddjgklpaaCrcTables
import Derived.Test.YtbhmieddjgklpaaCrcSplits
import Derived.Deep.AppendLies
namespace Go.Proofs.Ytbhmieddjgklpaa
open Go.ChangeShapes Go.WideShapes Go.ChangeAt Go.RowKit

theorem emptyAppend (g : Addr) (b : Option Addr) (c : Nat) (hb : b = none → c = 0) (W : World) : (Builtin.append_ #[22, 22] 22 #[.slice (some g) 0 0, .slice b 0 c]).run Try.prog W = .ok (.slice (some g) 0 0) W := by
  obtain ⟨i0, hi, hz0, hz1, hz2⟩ := info_parts Try.infoU8
  cases b with
  | none =>
    obtain rfl := hb rfl
    simp [Builtin.append_, run_underlying Try.underlying22, sizeOf, typeInfo, hi, Builtin.lenOf, Builtin.firstCells, storeCells]
  | some b =>
    simp [Builtin.append_, run_underlying Try.underlying22, sizeOf, typeInfo, hi, Builtin.lenOf, Builtin.firstCells, storeCells, loadCells, loadCellsFrom]

/-- An append whose run is known, as one step of a region that draws. -/
theorem step_append_run {P : Program} {ops : Array Oper} {o : Oper} {a : Act} {w w' : World} {K : Act → World → Prop} {Q : Exit → Act → World → Prop} {E : Prop}
    (hg : o.guard = none) (s x : Operand) (t : TypeId) (hop : o.op = Op.call { callee := Callee.builtin Builtin.append, args := #[s, x], argTypes := #[t, t] })
    (v vx r : Value) (hs : a.eval s = v) (hx : a.eval x = vx) (hrun : (Builtin.append_ #[t, t] o.type #[v, vx]).run P w = .ok r w') (hK : K (a.put o.dst r) w') :
    if Region.wanted o (yielded ops a.tmps) = true then Oper.wp P o a w K Q else E := by
  have hw : Region.wanted o (yielded ops a.tmps) = true := by simp [Region.wanted, hg]
  rw [if_pos hw]
  unfold Oper.wp
  simp [execOp, hop, resolve, invoke, builtin, hs, hx, hrun, Result.andThen]
  exact hK

/-- The check of a slice of the call's own. -/
theorem sumOwn {bs : List (BitVec 8)} {base g cap : Nat} (hl : bs.length ≤ 1099511627776) {W : World} (h : W.ownsRow base 5 1 (.slice (some ⟨g, 0, none⟩) bs.length cap) bs.length (cellsOf bs)) :
    Calls Try.prog 15 #[.slice (some ⟨g, 0, none⟩) bs.length cap] W fun e W' => e = .returned (.int .u32 (U (crcAdd 0#32 bs))) ∧ Below W.heap.size W W' :=
  sum_any bs _ hl W (BytesAt.of_owns h)

theorem wrapU32 (x : BitVec 32) : wrap64 (U x) = U x := by
  have h0 := U_nonneg x
  have h1 : U x < 4294967296 := by simpa using U_lt x
  exact IntWalk.wrap64_in _ ⟨by omega, by omega⟩
theorem wrapI_U {n : Nat} (hn : n ≤ 32) (x : BitVec n) : IntKind.i64.wrap (U x) = U x := by
  have h0 := U_nonneg x
  have h2 : x.toNat < 2 ^ 32 := Nat.lt_of_lt_of_le x.isLt (Nat.pow_le_pow_right (by decide) hn)
  have h1 : U x < 4294967296 := by unfold U; omega
  rw [IntKind.wrap_i64]
  omega
theorem tab_place (y : BitVec 8) : dnN 8 (y.setWidth 32) = tab y := rfl

set_option maxRecDepth 100000 in
set_option maxHeartbeats 4000000 in
theorem crcSums_core (bs : List (BitVec 8)) (ad : Addr) (cap : Nat) (y : BitVec 8) (w : World) (hv : BytesAt w.heap.size w (.slice (some ad) bs.length cap) bs) (h1 : 1 ≤ bs.length) (h2 : bs.length ≤ 1000) :
    Calls Try.prog 3 #[.slice (some ad) bs.length cap, .int .u8 (U y)] w (Good w) := by
  obtain ⟨i0, hi, hz0, hz1, hz2⟩ := info_parts Try.infoU8
  have hz := zero24
  have hst := zeroStore
  have n1 : (1 : Int) ≤ bs.length := by omega
  have n2 : (bs.length : Int) ≤ 1000 := by omega
  have y0 := U_nonneg y
  have y1 : U y < 256 := by simpa using U_lt y
  go_enter Try.func3, Try.ntmps3
  go_wp2_with (go_at_call 14; refine (table_any _).mono ?_; rintro e w1 ⟨rfl, hb1⟩; obtain ⟨hT, hB2, hsz⟩ := tab_start hb1; clear hb1)
  have t1 := tabRow y hT
  clear hz hst
  generalize (w1.alloc (.cells Z256 24)).setRow w1.heap.size (Arr 255) = w2 at hT hB2 hsz t1 ⊢
  have hlt : w1.heap.size < w2.heap.size := by omega
  clear hsz
  generalize w1.heap.size = B at hT hlt t1 ⊢
  have hv2 := (hv.below hB2).mono hB2.size
  have href := fun W => refSum_any bs (.slice (some ad) bs.length cap) w2.heap.size W
  have hrs : ∀ W : World, Below w2.heap.size w2 W → Calls Try.prog 16 #[.slice (some ad) bs.length cap] W fun e w' => e = .returned (.int .i64 (U (crcAdd 0#32 bs))) ∧ W = w' := fun W hW => href W (hv2.below hW) (by omega)
  have hpl : ∀ W : World, Calls Try.prog 17 #[.int .i64 (U y)] W fun e w' => e = .returned (.int .i64 (U (tab y))) ∧ W = w' := by
    intro W
    have h := place_any (y.setWidth 32) W
    rw [tab_place, ← u8_u32] at h
    exact h
  have hsum := fun (g cap : Nat) (W : World) => sumOwn (bs := bs) (base := w2.heap.size) (g := g) (cap := cap) (by omega) (W := W)
  have hw1 := wrapI_U (by decide) (crcAdd 0#32 bs)
  have hw2 := wrapI_U (by decide) (tab y)
  have hw3 := wrapI_U (by decide) y
  have hown0 := World.ownsRow_lit (base := w2.heap.size) (e := 5) (size := 1) w2 #[] 0 (Nat.le_refl _) (by unfold maxLen; omega) rfl
  have hnews := (hv2.below (((Below.refl _ w2).alloc (Nat.le_refl _) (.cells #[] 5)).drew)).news.2
  have hBd : Below w2.heap.size w2 ((w2.alloc (.cells #[] 5)).drew) := ((Below.refl _ w2).alloc (Nat.le_refl _) _).drew
  go_region_held3 (fun W => Below w2.heap.size w2 W ∧ W.cell? ⟨B, (U y).toNat, none⟩ = some (.int .u32 (U (tab y)))) (first
      | exact ⟨(Below.refl _ _).drew, t1⟩
      | exact ⟨hBd, t1⟩
      | exact ⟨by assumption, (Below.cell (by assumption) hlt).trans t1⟩) (first
    | (go_at_call 16; refine (hrs _ (by first | assumption | exact hBd | exact (Below.refl _ _).drew)).mono ?_; rintro e w' ⟨rfl, rfl⟩)
    | (go_at_call 17; refine (hpl _).mono ?_; rintro e w' ⟨rfl, rfl⟩)
    | (go_at_call 15; refine (hsum _ _ _ (by assumption)).mono ?_; rintro e w4 ⟨rfl, hb4⟩; have hB4 := hB3.trans (hb4.mono hB3.size))
    | (go_at_call 18; refine (awake01 _).mono ?_; rintro e w5 ⟨rfl, hb5⟩; have hB5 := hB4.trans (hb5.mono hB4.size))
    | (refine step_append_lies _ (by rfl) _ _ _ (by rfl) w2.heap.size 5 i0 (.int .u8 0) 1 1 Try.underlying22 hi hz0 hz1 hz2 rfl (by decide) _ 0 _ (by rfl) hown0.drew ad bs.length cap (cellsOf bs) (by rfl) (by rw [cellsOf_len]; simp) hnews (cellsOf_one bs) h1 (by unfold maxLen; omega) (by omega) (by simp) (w2.heap.size + 1) (by simp) ?_; intro g cap3 w3 hown3 hgrow hat hlt3; simp only [Nat.zero_add, List.nil_append] at hown3; have hB3 : Below w2.heap.size w2 w3 := hBd.grown hgrow (by simp) (fun k e => (hown0.lt k e).1)))
  all_goals go_wp2
  all_goals go_ret
  all_goals exact ⟨rfl, hB2.trans (hB5.mono hB2.size)⟩

set_option maxRecDepth 100000 in
set_option maxHeartbeats 4000000 in
theorem crcSums_none (a : Option Addr) (cap : Nat) (y : BitVec 8) (w : World) (ha : a = none → cap = 0) :
    Calls Try.prog 3 #[.slice a 0 cap, .int .u8 (U y)] w (Good w) := by
  obtain ⟨i0, hi, hz0, hz1, hz2⟩ := info_parts Try.infoU8
  have hz := zero24
  have hst := zeroStore
  have hv : BytesAt w.heap.size w (.slice a 0 cap) [] := ⟨a, cap, rfl, ha, .inl rfl⟩
  have y0 := U_nonneg y
  have y1 : U y < 256 := by simpa using U_lt y
  go_enter Try.func3, Try.ntmps3
  go_wp2_with (go_at_call 14; refine (table_any _).mono ?_; rintro e w1 ⟨rfl, hb1⟩; obtain ⟨hT, hB2, hsz⟩ := tab_start hb1; clear hb1)
  have t1 := tabRow y hT
  clear hz hst
  generalize (w1.alloc (.cells Z256 24)).setRow w1.heap.size (Arr 255) = w2 at hT hB2 hsz t1 ⊢
  have hlt : w1.heap.size < w2.heap.size := by omega
  clear hsz
  generalize w1.heap.size = B at hT hlt t1 ⊢
  have hv2 := (hv.below hB2).mono hB2.size
  have href := fun W => refSum_any [] (.slice a 0 cap) w2.heap.size W
  have hrs : ∀ W : World, Below w2.heap.size w2 W → Calls Try.prog 16 #[.slice a 0 cap] W fun e w' => e = .returned (.int .i64 (U (crcAdd 0#32 []))) ∧ W = w' := fun W hW => href W (hv2.below hW) (by simp)
  have hpl : ∀ W : World, Calls Try.prog 17 #[.int .i64 (U y)] W fun e w' => e = .returned (.int .i64 (U (tab y))) ∧ W = w' := by
    intro W
    have h := place_any (y.setWidth 32) W
    rw [tab_place, ← u8_u32] at h
    exact h
  have hsum : ∀ (g : Addr) (W : World), Calls Try.prog 15 #[.slice (some g) 0 0] W fun e W' => e = .returned (.int .u32 (U (crcAdd 0#32 []))) ∧ Below W.heap.size W W' := fun g W => sum_any [] _ (by simp) W ⟨some g, 0, rfl, fun h => (by cases h), .inl rfl⟩
  have hw1 := wrapI_U (by decide) (crcAdd 0#32 [])
  have hw2 := wrapI_U (by decide) (tab y)
  have hw3 := wrapI_U (by decide) y
  have hBd : Below w2.heap.size w2 ((w2.alloc (.cells #[] 5)).drew) := ((Below.refl _ w2).alloc (Nat.le_refl _) _).drew
  go_region_held3 (fun W => Below w2.heap.size w2 W ∧ W.cell? ⟨B, (U y).toNat, none⟩ = some (.int .u32 (U (tab y)))) (first
      | exact ⟨(Below.refl _ _).drew, t1⟩
      | exact ⟨hBd, t1⟩
      | exact ⟨by assumption, (Below.cell (by assumption) hlt).trans t1⟩) (first
    | (go_at_call 16; refine (hrs _ (by first | assumption | exact hBd | exact (Below.refl _ _).drew)).mono ?_; rintro e w' ⟨rfl, rfl⟩)
    | (go_at_call 17; refine (hpl _).mono ?_; rintro e w' ⟨rfl, rfl⟩)
    | (go_at_call 15; refine (hsum _ _).mono ?_; rintro e w4 ⟨rfl, hb4⟩; have hB4 := hBd.trans (hb4.mono hBd.size))
    | (go_at_call 18; refine (awake01 _).mono ?_; rintro e w5 ⟨rfl, hb5⟩; have hB5 := hB4.trans (hb5.mono hB4.size))
    | (refine step_append_run (by rfl) _ _ 22 (by rfl) _ _ _ (by rfl) (by rfl) (emptyAppend _ a cap ha _) ?_))
  all_goals go_wp2
  all_goals go_ret
  all_goals exact ⟨rfl, hB2.trans (hB5.mono hB2.size)⟩

set_option maxHeartbeats 1000000 in
theorem crcSums_walk (bs : List (BitVec 8)) (v : Value) (y : BitVec 8) (w : World) (hv : BytesAt w.heap.size w v bs) (hm : bs.length ≤ maxLen) :
    Calls Try.prog 3 #[v, .int .u8 (U y)] w (Good w) := by
  unfold maxLen at hm
  have hv0 := hv
  obtain ⟨a, cap, rfl, ha, hv⟩ := hv
  by_cases hbig : 1000 < bs.length
  · have b1 : (1000 : Int) < bs.length := by omega
    have b2 : (bs.length : Int) ≤ 9223372036854775807 := by omega
    generalize bs.length = n at b1 b2
    clear hv hv0 hm hbig
    go_enter Try.func3, Try.ntmps3
    go_wp2
    go_ret
    exact ⟨rfl, Below.refl _ _⟩
  rcases hv with h | ⟨g, off, rfl, _⟩
  · subst h
    exact crcSums_none a cap y w ha
  · by_cases h0 : bs = []
    · subst h0
      exact crcSums_none _ cap y w ha
    · have h1 : 1 ≤ bs.length := by
        rcases Nat.eq_zero_or_pos bs.length with h | h
        · exact absurd (List.length_eq_zero_iff.1 h) h0
        · exact h
      exact crcSums_core bs _ cap y w hv0 h1 (by omega)

set_option maxRecDepth 100000 in
theorem crcSums_lifted (os : Os) (started : os.Started) (H : Type) (enc : TypeId × Value → H) :
    ReturnsInHanded {} Try.checked os 3 .any (Rows.crcSumsSpec.pre6 enc Try.prog Try.f3 Rows.crcSumsRow.domain false) (Rows.crcSumsSpec.post enc Try.prog Try.f3 false true false false) :=
  law_lifted 3 Try.f3 Rows.crcSumsSpec Try.func3 (by kernel_rfl) rfl rfl
    (fun ds h => by match ds, h with | [_, _], _ => rfl) (by kernel_rfl) os started
    (ChangeSpec.witness6 (enc := enc) (C := Try.checked) false ⟨#[], #[.slice none 0 0, .int .u8 0], []⟩ 8 (by kernel_rfl) (by kernel_rfl) (by kernel_rfl) (by kernel_rfl))
    fun W args ds ps hval hA => by
      rw [Try.params3] at hA hval
      obtain ⟨v0, vs0, d0, ds0, p0, q0, hargs, rfl, rfl, h0, r0⟩ := trodAll_cons hA
      obtain ⟨v1, vs1, d1, ds1, p1, q1, rfl, rfl, rfl, h1, r1⟩ := trodAll_cons r0
      obtain ⟨rfl, rfl, rfl⟩ := trodAll_nil r1
      obtain rfl : args = #[v0, v1] := by cases args; simp_all
      obtain ⟨b0, o0⟩ := hval 0 _ v0 rfl rfl
      obtain ⟨b1, o1⟩ := hval 1 _ v1 rfl rfl
      obtain ⟨bs0, hb0, hm0⟩ := open_bytes o0 h0
      obtain ⟨a1, rfl, rfl, rfl, w1⟩ := open_int Try.underlying5 o1 h1
      obtain ⟨x1, rfl⟩ := wf_u8 w1
      exact crcSums_walk bs0 v0 x1 W hb0 hm0

/-- The statement. -/
theorem crcSums_holds : Rows.CrcSumsSaid :=
  OpenClaim.holds_of_wide 3 Try.f3 rfl rfl rfl rfl rfl rfl rfl ⟨rfl, rfl, rfl, rfl, rfl⟩ rfl rfl rfl rfl rfl (by kernel_rfl) Try.func3 (by kernel_rfl)
    (of_decide_eq_true (by kernel_rfl)) (by unfold Func.isWrapper; first | (rw [if_pos (by decide +kernel)]; kernel_rfl) | (rw [if_neg (by decide +kernel)]; exact ⟨rfl, rfl⟩))
    (fun os started H enc _ => crcSums_lifted os started H enc)
#print axioms crcSums_holds
end Go.Proofs.Ytbhmieddjgklpaa

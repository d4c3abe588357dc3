/-
  RegionNil: a log that is not there, or on no device, tells an error.
  Conditions: none.
-/
import Derived.Test.YtiddfilhfdkogaaReg27
import Derived.Test.YtiddfilhfdkogaaLaw
import Derived.Test.YtiddfilhfdkogaaOpenBn
namespace Go.Proofs.Ytiddfilhfdkogaa
open Go.ChangeShapes Go.WideShapes Go.ChangeAt Go.RowKit Go.Shelf

@[local go_sem] theorem build_locN (n : Int) (W : World) : (Instr.build 42 #[(0, .int .i64 n), (2, .int .i64 1)]).run Try.prog W = .ok (.agg #[.int .i64 n, .int .i64 0, .int .i64 1]) W := run_build W _ _ _ (by kernel_rfl)
set_option maxRecDepth 100000 in
set_option maxHeartbeats 8000000 in
theorem regionNil_walk (n : Int) (w : World) : Calls Try.prog 5 #[.int .i64 n] w (Good w) := by
  have HAW := Lib.hid (fun W => awake11 W)
  have HSM := Lib.hid small_any
  have HFN : Hid (∀ W, Calls Try.prog 8 #[.pointer none, .agg small11.cells] W (FormatNot 1 W)) := fun W => format_not small11 (.pointer none) LayP.zero 1 (by decide) W (fun V _ => glay_nil small11 V)
  have HON : Hid (∀ W, Calls Try.prog 19 #[.pointer none, .agg small11.cells, .int .i64 n] W (FormatNot 1 W)) := fun W => open_not small11 (.pointer none) 1 n (by decide) W (fun V _ => HFN.out V)
  have HAN := Lib.hid append_nil
  have HRN := Lib.hid (fun W => read_nil11 W n 0 1)
  have HCN := Lib.hid (fun W => recs_nil11 W n)
  have HUN := Lib.hid flush_nil
  have HLN := Lib.hid last_nil
  have HDN := Lib.hid oldest_nil
  have HWN := Lib.hid where_nil
  have ST1 : Hid (∀ V : World, ((V.alloc (.cells #[.int .i64 0, .int .i64 0, .int .i64 0] 42)).cell? ⟨V.heap.size, 0, none⟩ = some (.int .i64 0) ∧ (V.alloc (.cells #[.int .i64 0, .int .i64 0, .int .i64 0] 42)).cell? ⟨V.heap.size, 1, none⟩ = some (.int .i64 0) ∧ (V.alloc (.cells #[.int .i64 0, .int .i64 0, .int .i64 0] 42)).cell? ⟨V.heap.size, 2, none⟩ = some (.int .i64 0) ∧ (V.alloc (.cells #[.int .i64 0, .int .i64 0, .int .i64 0] 42)).frozen? ⟨V.heap.size, 0, none⟩ = false ∧ (V.alloc (.cells #[.int .i64 0, .int .i64 0, .int .i64 0] 42)).frozen? ⟨V.heap.size, 1, none⟩ = false ∧ (V.alloc (.cells #[.int .i64 0, .int .i64 0, .int .i64 0] 42)).frozen? ⟨V.heap.size, 2, none⟩ = false)) := fun V => by
    have h := heap_alloc_new V (.cells #[.int .i64 0, .int .i64 0, .int .i64 0] 42)
    exact ⟨blk_cell h 0, blk_cell h 1, blk_cell h 2, blk_frozen h 0, blk_frozen h 1, blk_frozen h 2⟩
  go_enter Try.func5, Try.ntmps5
  go_upto_region 3 with (first
    | (go_at_call 10; (with_reducible refine (HSM.out _).mono ?_); rintro e w1 ⟨rfl, hb1⟩; have HB1 := Lib.hid hb1; clear hb1)
    | (go_at_call 8; (with_reducible refine (HFN.out _).mono ?_); rintro e w2 ⟨rfl, hb2⟩; have HB2 := Lib.hid (HB1.out.trans (hb2.mono HB1.out.size)); clear hb2))
  go_upto_region 4 with (first
    | (go_at_call 10; (with_reducible refine (HSM.out _).mono ?_); rintro e w3 ⟨rfl, hb3⟩; have HB3 := Lib.hid (HB2.out.trans (hb3.mono HB2.out.size)); clear hb3)
    | (go_at_call 19; (with_reducible refine (HON.out _).mono ?_); rintro e w4 ⟨rfl, hb4⟩; have HB4 := Lib.hid (HB3.out.trans (hb4.mono HB3.out.size)); clear hb4))
  have HB5 : Hid (Below w.heap.size w (w4.alloc (.cells #[.int .u8 1] 5))) := HB4.out.alloc HB4.out.size _
  go_upto_region 5 with (go_at_call 12; (with_reducible refine (HAN.out _ _ _ _).mono ?_); rintro e w5 ⟨rfl, hb5⟩; have HB6 := Lib.hid (HB5.out.trans (hb5.mono HB5.out.size)); clear hb5; obtain ⟨t0, t1, t2, t3, t4, t5⟩ := ST1.out w5)
  try clear t0 t1 t2 t3 t4 t5
  have HB7 : Hid (Below w.heap.size w (w5.alloc (.cells #[.int .i64 0, .int .i64 0, .int .i64 0] 42))) := HB6.out.alloc HB6.out.size _
  change Code.wp _ _ _ _ (w5.alloc (.cells #[.int .i64 0, .int .i64 0, .int .i64 0] 42))
  generalize w5.alloc (.cells #[.int .i64 0, .int .i64 0, .int .i64 0] 42) = w6 at HB7 ⊢
  go_upto_region 6 with (go_at_call 21; (with_reducible refine (HRN.out _).mono ?_); rintro e w7 ⟨rfl, hb7⟩; have HB8 := Lib.hid (HB7.out.trans (hb7.mono HB7.out.size)); clear hb7)
  go_upto_region 7 with (go_at_call 15; (with_reducible refine (HCN.out _).mono ?_); rintro e w8 ⟨rfl, hb8⟩; have HB9 := Lib.hid (HB8.out.trans (hb8.mono HB8.out.size)); clear hb8)
  go_wp2_with (first
    | (go_at_call 13; (with_reducible refine (HUN.out _).mono ?_); rintro e w9 ⟨rfl, rfl⟩)
    | (go_at_call 14; (with_reducible refine (HLN.out _).mono ?_); rintro e w9 ⟨rfl, rfl⟩)
    | (go_at_call 16; (with_reducible refine (HDN.out _).mono ?_); rintro e w9 ⟨rfl, rfl⟩)
    | (go_at_call 20; (with_reducible refine (HWN.out _).mono ?_); rintro e w9 ⟨rfl, rfl⟩)
    | (go_at_call 17; (with_reducible refine (HAW.out _).mono ?_); rintro e wa ⟨rfl, hba⟩; have HBA := Lib.hid hba; clear hba))
  go_ret
  exact ⟨rfl, HB9.out.trans (HBA.out.mono HB9.out.size)⟩

set_option maxRecDepth 100000 in
theorem regionNil_lifted (os : Os) (started : os.Started) (H : Type) (enc : TypeId × Value → H) :
    ReturnsInHanded {} Try.checked os 5 .any (Rows.regionNilSpec.pre6 enc Try.prog Try.f5 Rows.regionNilRow.domain false) (Rows.regionNilSpec.post enc Try.prog Try.f5 false true false false) :=
  law_lifted 5 Try.f5 Rows.regionNilSpec Try.func5 (by kernel_rfl) rfl rfl
    (fun ds h => by match ds, h with | [_], _ => rfl) (by kernel_rfl) os started
    (ChangeSpec.witness6 (enc := enc) (C := Try.checked) false ⟨#[], #[.int .i64 0], []⟩ 8 (by kernel_rfl) (by kernel_rfl) (by kernel_rfl) (by kernel_rfl))
    fun W args ds ps hval hA => by
      rw [Try.params5] at hA hval
      obtain ⟨v0, vs0, d0, ds0, p0, q0, hargs, rfl, rfl, h0, r0⟩ := trodAll_cons hA
      obtain ⟨rfl, rfl, rfl⟩ := trodAll_nil r0
      obtain rfl : args = #[v0] := by cases args; simp_all
      obtain ⟨b0, o0⟩ := hval 0 _ v0 rfl rfl
      obtain ⟨a0, rfl, rfl, rfl, w0⟩ := open_int Try.underlying3 o0 h0
      exact regionNil_walk a0 W

/-- The statement. -/
theorem regionNil_holds : Rows.RegionNilSaid :=
  OpenClaim.holds_of_wide 5 Try.f5 rfl rfl rfl rfl rfl rfl rfl ⟨rfl, rfl, rfl, rfl, rfl⟩ rfl rfl rfl rfl rfl (by kernel_rfl) Try.func5 (by kernel_rfl)
    (of_decide_eq_true (by kernel_rfl)) (by unfold Func.isWrapper; first | (rw [if_pos (by decide +kernel)]; kernel_rfl) | (rw [if_neg (by decide +kernel)]; exact ⟨rfl, rfl⟩))
    (fun os started H enc _ => regionNil_lifted os started H enc)
#print axioms regionNil_holds
end Go.Proofs.Ytiddfilhfdkogaa

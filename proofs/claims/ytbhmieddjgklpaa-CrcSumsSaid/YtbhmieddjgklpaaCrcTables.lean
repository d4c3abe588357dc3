/-
  Proved: what becomes of two bytes exclusive-or'd is what becomes of each, exclusive-or'd, and no two bytes become one. Whatever two bytes come in, the law CrcTables answers true and the arguments read as they did.
  Conditions: none.
-/
import Derived.Test.YtbhmieddjgklpaaLaw
import Derived.Test.YtbhmieddjgklpaaCrcSum
import Derived.Test.YtbhmieddjgklpaaCrcLinear
import Derived.StillTailTactics
namespace Go.Proofs.Ytbhmieddjgklpaa
open Go.ChangeShapes Go.WideShapes Go.ChangeAt Go.RowKit
attribute [local go_sem] xor_u8 xor_u32

/-- What a caller knows of the table that it stored. -/
theorem tab_start {w w1 : World} (hb1 : Below w.heap.size w w1) :
    ((w1.alloc (.cells Z256 24)).setRow w1.heap.size (Arr 255)).heap[w1.heap.size]? = some (.cells (Arr 255) 24 (0, 0)) ∧
    Below w.heap.size w ((w1.alloc (.cells Z256 24)).setRow w1.heap.size (Arr 255)) ∧
    ((w1.alloc (.cells Z256 24)).setRow w1.heap.size (Arr 255)).heap.size = w1.heap.size + 1 :=
  ⟨setRow_heap _ _ _ _ _ _ (heap_alloc_new _ _), below_setRow (hb1.alloc hb1.size _) hb1.size _, by simp⟩

set_option maxRecDepth 100000 in
set_option maxHeartbeats 1000000 in
theorem crcTables_walk (x y : BitVec 8) (w : World) : Calls Try.prog 8 #[.int .u8 (U x), .int .u8 (U y)] w (Good w) := by
  have hz := zero24
  have hst := zeroStore
  have z0 := U_nonneg (x ^^^ y)
  have z1 : U (x ^^^ y) < 256 := by simpa using U_lt (x ^^^ y)
  have x0 := U_nonneg x
  have x1 : U x < 256 := by simpa using U_lt x
  have y0 := U_nonneg y
  have y1 : U y < 256 := by simpa using U_lt y
  have e1 : (U (tab (x ^^^ y)) == U (tab x ^^^ tab y)) = true := by rw [tab_xor]; simp
  have e2 : ((U (tab x) == U (tab y)) == (U x == U y)) = true := by
    rw [U_beq, U_beq]; simp [tab_inj]
  go_enter Try.func8, Try.ntmps8
  go_wp2_with (go_at_call 14; refine (table_any _).mono ?_; rintro e w1 ⟨rfl, hb1⟩; obtain ⟨hT, hB2, hsz⟩ := tab_start hb1; clear hb1)
  have t0 := tabRow (x ^^^ y) hT
  have t1 := tabRow x hT
  have t2 := tabRow y hT
  clear hz hst
  generalize (w1.alloc (.cells Z256 24)).setRow w1.heap.size (Arr 255) = w2 at hT hB2 hsz t0 t1 t2 ⊢
  go_still_tail 27, (by kernel_rfl)
  have hB3 : Below w.heap.size w w2.drew := hB2.drew
  change wpList _ _ _ _ _ w2.drew
  generalize w2.drew = w3 at hB3 ⊢
  go_wp2_with (go_at_call 18; refine (awake01 _).mono ?_; rintro e w' ⟨rfl, hB⟩)
  go_ret
  exact ⟨rfl, hB3.trans (hB.mono hB3.size)⟩

set_option maxRecDepth 100000 in
theorem crcTables_lifted (os : Os) (started : os.Started) (H : Type) (enc : TypeId × Value → H) :
    ReturnsInHanded {} Try.checked os 8 .any (Rows.crcTablesSpec.pre6 enc Try.prog Try.f8 Rows.crcTablesRow.domain false) (Rows.crcTablesSpec.post enc Try.prog Try.f8 false true false false) :=
  law_lifted 8 Try.f8 Rows.crcTablesSpec Try.func8 (by kernel_rfl) rfl rfl
    (fun ds h => by match ds, h with | [_, _], _ => rfl) (by kernel_rfl) os started
    (ChangeSpec.witness6 (enc := enc) (C := Try.checked) false ⟨#[], #[.int .u8 0, .int .u8 0], []⟩ 8 (by kernel_rfl) (by kernel_rfl) (by kernel_rfl) (by kernel_rfl))
    fun W args ds ps hval hA => by
      rw [Try.params8] at hA hval
      obtain ⟨v0, vs0, d0, ds0, p0, q0, hargs, rfl, rfl, h0, r0⟩ := trodAll_cons hA
      obtain ⟨v1, vs1, d1, ds1, p1, q1, rfl, rfl, rfl, h1, r1⟩ := trodAll_cons r0
      obtain ⟨rfl, rfl, rfl⟩ := trodAll_nil r1
      obtain rfl : args = #[v0, v1] := by cases args; simp_all
      obtain ⟨b0, o0⟩ := hval 0 _ v0 rfl rfl
      obtain ⟨b1, o1⟩ := hval 1 _ v1 rfl rfl
      obtain ⟨a0, rfl, rfl, rfl, w0⟩ := open_int Try.underlying5 o0 h0
      obtain ⟨x0, rfl⟩ := wf_u8 w0
      obtain ⟨a1, rfl, rfl, rfl, w1⟩ := open_int Try.underlying5 o1 h1
      obtain ⟨x1, rfl⟩ := wf_u8 w1
      exact crcTables_walk x0 x1 W

/-- The statement. -/
theorem crcTables_holds : Rows.CrcTablesSaid :=
  OpenClaim.holds_of_wide 8 Try.f8 rfl rfl rfl rfl rfl rfl rfl ⟨rfl, rfl, rfl, rfl, rfl⟩ rfl rfl rfl rfl rfl (by kernel_rfl) Try.func8 (by kernel_rfl)
    (of_decide_eq_true (by kernel_rfl)) (by unfold Func.isWrapper; first | (rw [if_pos (by decide +kernel)]; kernel_rfl) | (rw [if_neg (by decide +kernel)]; exact ⟨rfl, rfl⟩))
    (fun os started H enc _ => crcTables_lifted os started H enc)
#print axioms crcTables_holds
end Go.Proofs.Ytbhmieddjgklpaa

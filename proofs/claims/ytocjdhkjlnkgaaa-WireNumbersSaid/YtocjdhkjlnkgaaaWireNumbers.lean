/-
  Proved: the numbers that are left are those that are read one by one, as long as there are so many bytes. Whatever bytes and numbers come in, the law WireNumbers answers true and the arguments read as they did.
  Conditions: none.
-/
import Derived.Test.YtocjdhkjlnkgaaaWireNumbersY
namespace Go.Proofs.Ytocjdhkjlnkgaaa
open Go.ChangeShapes Go.WideShapes Go.ChangeAt Go.RowKit

theorem wireNumbers_walk (v : Value) (bs : List (BitVec 8)) (b : Int) (x : BitVec 8) (w : World) (hv : BytesAt w.heap.size w v bs) :
    Calls Try.prog 3 #[v, .int .i64 b, .int .u8 (U x)] w (Good w) := by
  by_cases hl : bs.length ≤ 1000
  · have hx := x.isLt
    have hx2 : x.toNat ≤ 255 := by omega
    show Calls Try.prog 3 #[v, .int .i64 b, .int .u8 (x.toNat : Int)] w (Good w)
    cases hb : mayB b with
    | false => exact wireNumbers_bad v bs b x.toNat w hv hl hx2 hb
    | true =>
      have h4 : b = 1 ∨ b = 2 ∨ b = 4 ∨ b = 8 := by simpa [mayB] using hb
      obtain ⟨m, rfl⟩ := Int.eq_ofNat_of_zero_le (show 0 ≤ b by omega)
      exact wireNumbers_good v bs m x.toNat w hv hl hx2 (by omega)
  · obtain ⟨a, cap, rfl, _⟩ := id hv
    have hl1 : 1000 < (bs.length : Int) := by omega
    clear hv
    go_enter Try.func3, Try.ntmps3
    go_wp2
    go_ret
    exact ⟨rfl, Below.refl _ _⟩

set_option maxRecDepth 100000 in
theorem wireNumbers_lifted (os : Os) (started : os.Started) (H : Type) (enc : TypeId × Value → H) :
    ReturnsInHanded {} Try.checked os 3 .any (Rows.wireNumbersSpec.pre6 enc Try.prog Try.f3 Rows.wireNumbersRow.domain false) (Rows.wireNumbersSpec.post enc Try.prog Try.f3 false true false false) :=
  law_lifted 3 Try.f3 Rows.wireNumbersSpec Try.func3 (by kernel_rfl) rfl rfl
    (fun ds h => by match ds, h with | [_, _, _], _ => rfl) (by kernel_rfl) os started
    (ChangeSpec.witness6 (enc := enc) (C := Try.checked) false ⟨#[], #[.slice none 0 0, .int .i64 0, .int .u8 0], []⟩ 8 (by kernel_rfl) (by kernel_rfl) (by kernel_rfl) (by kernel_rfl))
    fun W args ds ps hval hA => by
      rw [Try.params3] at hA hval
      obtain ⟨v0, vs0, d0, ds0, p0, q0, hargs, rfl, rfl, h0, r0⟩ := trodAll_cons hA
      obtain ⟨v1, vs1, d1, ds1, p1, q1, rfl, rfl, rfl, h1, r1⟩ := trodAll_cons r0
      obtain ⟨v2, vs2, d2, ds2, p2, q2, rfl, rfl, rfl, h2, r2⟩ := trodAll_cons r1
      obtain ⟨rfl, rfl, rfl⟩ := trodAll_nil r2
      obtain rfl : args = #[v0, v1, v2] := by cases args; simp_all
      obtain ⟨b0, o0⟩ := hval 0 _ v0 rfl rfl
      obtain ⟨b1, o1⟩ := hval 1 _ v1 rfl rfl
      obtain ⟨b2, o2⟩ := hval 2 _ v2 rfl rfl
      obtain ⟨bs0, hb0, hm0⟩ := open_bytes o0 h0
      obtain ⟨a1, rfl, rfl, rfl, w1⟩ := open_int Try.underlying3 o1 h1
      obtain ⟨a2, rfl, rfl, rfl, w2⟩ := open_int Try.underlying5 o2 h2
      obtain ⟨x2, rfl⟩ := wf_u8 w2
      exact wireNumbers_walk v0 bs0 a1 x2 W hb0

/-- The statement. -/
theorem wireNumbers_holds : Rows.WireNumbersSaid :=
  OpenClaim.holds_of_wide 3 Try.f3 rfl rfl rfl rfl rfl rfl rfl ⟨rfl, rfl, rfl, rfl, rfl⟩ rfl rfl rfl rfl rfl (by kernel_rfl) Try.func3 (by kernel_rfl)
    (of_decide_eq_true (by kernel_rfl)) (by unfold Func.isWrapper; first | (rw [if_pos (by decide +kernel)]; kernel_rfl) | (rw [if_neg (by decide +kernel)]; exact ⟨rfl, rfl⟩))
    (fun os started H enc _ => wireNumbers_lifted os started H enc)
#print axioms wireNumbers_holds
end Go.Proofs.Ytocjdhkjlnkgaaa

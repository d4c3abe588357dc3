/-
  sgraffitoref06.at: the number of some bytes.
  Conditions: none.
-/
import Derived.Test.YtfdipeaddofjaaaRefOf
namespace Go.Proofs.Ytfdipeaddofjaaa
open Go.RowKit

theorem refAt_any (n₀ : Nat) (bs : List (BitVec 8)) (v : Value) (w : World) (hv : BytesAt n₀ w v bs) (hl : bs.length = 26) (f t : Nat) (hft : f < t) (ht : t ≤ 26) (h8 : t - f ≤ 8) :
    Calls Try.prog 60 #[v, .int .i64 f, .int .i64 t] w fun e w' => e = .returned (.int .i64 (wrap64 (U (leOf ((bs.drop f).take (t - f)))))) ∧ w = w' := by
  obtain ⟨a, cap, rfl, hcap, _, hv⟩ := hv
  have hne : bs ≠ [] := fun h => by subst h; simp at hl
  obtain ⟨g, off, rfl, hg, hc⟩ := hv.resolve_left hne
  rw [hl] at hcap
  have hlen : ((bs.drop f).take (t - f)).length = t - f := by rw [List.length_take, List.length_drop, hl]; omega
  have hsub : BytesAt n₀ w (.slice (some ⟨g, off + f, none⟩) ((bs.drop f).take (t - f)).length (cap - f)) ((bs.drop f).take (t - f)) := by
    refine ⟨_, _, rfl, by rw [hlen]; omega, fun h => (by cases h), .inr ⟨g, off + f, rfl, hg, fun j hj => ?_⟩⟩
    rw [hlen] at hj
    have h1 := hc (f + j) (by omega)
    rw [← Nat.add_assoc] at h1
    rw [h1]
    have h2 : ((bs.drop f).take (t - f))[j]? = bs[f + j]? := by rw [List.getElem?_take, if_pos hj, List.getElem?_drop]
    rw [h2]
  have ho := refOf_any n₀ _ _ w hsub (by rw [hlen]; omega)
  rw [hlen, refOf_eq _ (by rw [hlen]; exact h8)] at ho
  have e1 : ((t - f : Nat) : Int) = (t : Int) - f := by omega
  have HO := Lib.hid ho
  have t1 : (f : Int) < t := by omega
  have t2 : (t : Int) ≤ cap := by omega
  have t3 : (t : Int) ≤ 26 := by omega
  rw [hl]
  clear ho hsub hc hlen
  generalize leOf ((bs.drop f).take (t - f)) = x at HO ⊢
  go_enter Try.func60, Try.ntmps60
  go_wp2_with (go_at_call 36; (with_reducible refine HO.out.mono ?_); rintro e w1 ⟨rfl, rfl⟩)
  go_ret
  exact ⟨rfl, rfl⟩
end Go.Proofs.Ytfdipeaddofjaaa

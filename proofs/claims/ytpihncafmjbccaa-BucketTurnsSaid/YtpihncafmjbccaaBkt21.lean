/-
  slices.Grow of no entries; slices.Concat of three slices of entries.
  Conditions: none.
-/
import Derived.Test.YtpihncafmjbccaaBkt20
import Derived.Test.YtpihncafmjbccaaAppEnts
import Derived.Lib.AppendZeros
namespace Go.Proofs.Ytpihncafmjbccaa
open Go.RowKit
attribute [local go_sem] Oper.semAt_some

/-- An owned row of entries. -/
def OwnE (n₀ : Nat) (W : World) (v : Value) (l : List Ent) : Prop := W.ownsRow n₀ 40 4 v l.length (ents l)
set_option maxRecDepth 100000 in
set_option maxHeartbeats 4000000 in
theorem growE_any (n : Nat) (h1 : 1 ≤ n) (hn : n ≤ 100000) (w : World) : Calls Try.prog 35 #[.slice none 0 0, .int .i64 n] w fun e w' => ∃ v, e = .returned v ∧ OwnE w.heap.size w' v [] ∧ Below w.heap.size w w' := by
  obtain ⟨i0, hi, hz0, hz1, hz2⟩ := info_parts4 infoEnt
  have hr := fun ty => Lib.run_append_nil_zeros (P := Try.prog) w 30 3 ty 40 i0 _ .i64 .i64 Try.underlying30 Try.underlying3 hi hz0 n (by omega) (by rw [hz1]; decide) (by omega) (by rw [hz2]; omega)
  have hge := grownCap_ge w n 0 40
  have hle := grownCap_le_maxLen w n 0 40 (by unfold maxLen; omega)
  obtain ⟨cap, hcap⟩ : ∃ cap, grownCap w n 0 40 = cap := ⟨_, rfl⟩
  rw [hcap] at hge hle
  simp only [hcap] at hr
  obtain ⟨cs, hcs⟩ : ∃ cs, (Builtin.zeroCells (Value.agg #[.int .u64 0, .int .i64 0, .int .i64 0, .int .i64 0]).cells n ++ Builtin.zeroCells (Value.agg #[.int .u64 0, .int .i64 0, .int .i64 0, .int .i64 0]).cells (cap - n)) = cs := ⟨_, rfl⟩
  have hsz : cs.size = cap * 4 := by
    rw [← hcs, Array.size_append, size_zeroCells, size_zeroCells]
    show n * 4 + (cap - n) * 4 = cap * 4
    omega
  simp only [hcs] at hr
  have HF : Hid (OwnE w.heap.size (w.drew.alloc (.cells cs 40)) (.slice (some ⟨w.heap.size, 0, none⟩) 0 cap) []) := ⟨rfl, .inr ⟨w.heap.size, cap, cs, rfl, Nat.le_refl _, heap_alloc_new w.drew _, Nat.zero_le _, hle, hsz, rfl⟩⟩
  have HB : Hid (Below w.heap.size w (w.drew.alloc (.cells cs 40))) := ((Below.refl _ w).drew).alloc (Nat.le_refl _) _
  have k1 : ¬ ((n : Int) < 0) := by omega
  have k2 : (0 : Int) < n := by omega
  have k3 : IntKind.i64.wrap (n : Int) = n := IntWalk.i64_in _ (by omega)
  clear hi hz0 hz1 hz2 hcap hcs hsz
  go_enter Try.func35, Try.ntmps35
  go_wp2_with (at_builtin; refine Lib.wpList_append_run _ rfl _ _ _ _ rfl _ _ rfl rfl _ _ (hr _) ?_)
  go_ret
  exact ⟨_, rfl, HF.out, HB.out⟩
end Go.Proofs.Ytpihncafmjbccaa

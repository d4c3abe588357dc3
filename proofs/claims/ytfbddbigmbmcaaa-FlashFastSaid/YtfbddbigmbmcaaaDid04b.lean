/-
  sgraffitolaw04's did: an act done to a device.
  Conditions: none.
-/
import Derived.Test.YtfbddbigmbmcaaaDid04
namespace Go.Proofs.Ytfbddbigmbmcaaa
open Go.RowKit

theorem IntsIn.arg {n₀ : Nat} {W : World} {v : Value} {fs : List Int} (h : IntsIn n₀ W v fs) : ∃ a c, v = .slice a fs.length c := by
  obtain ⟨a, c, rfl, _⟩ := h
  exact ⟨a, c, rfl⟩
theorem kind8 (k : Int) : (k.tmod 8 + 8) % 8 = k % 8 ∧ -8 < k.tmod 8 ∧ k.tmod 8 < 8 := by
  refine ⟨?_, Int.lt_tmod_of_pos k (by decide), Int.tmod_lt_of_pos k (by decide)⟩
  have h := done_math 7 k
  unfold doneOf at h
  have e : ((7 : Nat) : Int) + 1 = 8 := rfl
  rw [e] at h
  omega
theorem DevApart.more {w W W' : World} {Q : Foot} {D : Nat} {d : Dev} (h : DevApart w Q D d W) (hb : Below W.heap.size W W') {g : Nat} (h1 : W.heap.size ≤ g) (h2 : g < W'.heap.size) : DevApart w (fun k => Q k ∨ k = g) D d W' := by
  obtain ⟨O, a, b, c, e⟩ := h
  exact ⟨O, a.keep (Same.of_below hb a.inn), b.trans (hb.mono b.size), fun k ho hq => hq.elim (c k ho) (fun e => by have := a.inn k ho; omega), fun k hq => hq.elim (fun hq => Nat.lt_of_lt_of_le (e k hq) hb.size) (fun e => by omega)⟩
theorem DevApart.less {w W : World} {Q R : Foot} {D : Nat} {d : Dev} (h : DevApart w Q D d W) (hQ : ∀ k, R k → Q k) : DevApart w R D d W := by
  obtain ⟨O, a, b, c, e⟩ := h
  exact ⟨O, a, b, fun k ho hr => c k ho (hQ k hr), fun k hr => e k (hQ k hr)⟩
/-- What did leaves. -/
def DidAct (w : World) (Q : Foot) (D : Nat) (d : Dev) (W : World) (e : Ending) (W' : World) : Prop := e = .returned (.tuple #[]) ∧ DevApart w Q D d W' ∧ Same Q W W'

set_option maxRecDepth 100000 in
set_option maxHeartbeats 4000000 in
theorem did_any {w W : World} {Q : Foot} {D : Nat} {d : Dev} (h : DevApart w Q D d W) {k : Nat} (hi : d.Is 6 96 k) (hk : k ≤ 200) (x : Act4) (hf : x.fates.length ≤ 60) (u : Value) (hu : IntsIn w.heap.size W u x.fates) :
    Calls Try.prog 30 #[.pointer (some ⟨D, 0, none⟩), .agg (x.cells u)] W (DidAct w Q D (d.doing x) W) := by
  have hX : (W.alloc (.cells (x.cells u) 37)).heap[W.heap.size]? = some (.cells (x.cells u) 37 (0, 0)) := heap_alloc_new _ _
  have hB : Below W.heap.size W (W.alloc (.cells (x.cells u) 37)) := (Below.refl _ _).alloc (Nat.le_refl _) _
  obtain ⟨W1, hW1⟩ : ∃ W1, W.alloc (.cells (x.cells u) 37) = W1 := ⟨_, rfl⟩
  rw [hW1] at hX hB
  have h1 := h.on hB
  have HS := Lib.hid (h.same hB)
  have hu1 := hu.below (hB.mono h.here.size)
  obtain ⟨hk8, hk0, hk1⟩ := kind8 x.kind
  have c0 : W1.cell? ⟨W.heap.size, 0, none⟩ = some (.int .i64 x.kind) := blk_cell hX 0
  have c1 : W1.cell? ⟨W.heap.size, 1, none⟩ = some (.int .i64 x.at_) := blk_cell hX 1
  have c2 : W1.cell? ⟨W.heap.size, 2, none⟩ = some (.int .i64 x.len) := blk_cell hX 2
  have c3 : W1.cell? ⟨W.heap.size, 3, none⟩ = some (.int .u8 (U x.b)) := blk_cell hX 3
  have c4 : W1.cell? ⟨W.heap.size, 4, none⟩ = some u := blk_cell hX 4
  have HX := Lib.hid hX
  have HH := Lib.hid h1
  obtain ⟨a, c, rfl⟩ := hu.arg
  have hsm := hi.small
  have HA := Lib.hid (h.more hB (g := W.heap.size) (Nat.le_refl _) (blk_lt hX))
  clear hX hB h hu
  have e8 : x.kind % 8 = 3 ∨ x.kind % 8 = 4 ∨ x.kind % 8 = 5 ∨ x.kind % 8 = 6 ∨ x.kind % 8 = 7 ∨ (x.kind % 8 ≠ 3 ∧ x.kind % 8 ≠ 4 ∧ x.kind % 8 ≠ 5 ∧ x.kind % 8 ≠ 6 ∧ x.kind % 8 ≠ 7) := by omega
  rcases e8 with e | e | e | e | e | e
  · have HE : Hid (d.doing x = d.sync) := by unfold Hid Dev.doing; rw [if_pos e]
    have HC := Lib.hid (apart_sync h1 hsm (by omega))
    rw [e] at hk8
    clear h1 hu1 hsm e HA
    go_enter Try.func30, Try.ntmps30
    go_upto_region 1 with (fail)
    clear hW1
    go_wp2_with (go_at_call 13; (with_reducible refine HC.out.mono ?_); rintro e w2 ⟨rfl, hd, hs⟩; have H2 := Lib.hid hd; have HS2 := Lib.hid (HS.out.tr hs); clear hd hs)
    go_end0
    exact ⟨rfl, by rw [HE.out]; exact H2.out, HS2.out⟩
  · have HE : Hid (d.doing x = d) := by unfold Hid Dev.doing; rw [if_neg (by omega), if_pos e]
    have HC := Lib.hid (apart_read h1 x.at_)
    rw [e] at hk8
    clear h1 hu1 hsm e HA
    go_enter Try.func30, Try.ntmps30
    go_upto_region 1 with (fail)
    clear hW1
    go_wp2_with (go_at_call 15; (with_reducible refine HC.out.mono ?_); rintro e w2 ⟨⟨_, hb2, v2, rfl, _⟩, hd⟩; have H2 := Lib.hid hd; have HS2 := Lib.hid (HS.out.tr (HH.out.same hb2)); clear hd hb2)
    go_end0
    exact ⟨rfl, by rw [HE.out]; exact H2.out, HS2.out⟩
  · have HE : Hid (d.doing x = { d with armed := x.at_.toNat }) := by unfold Hid Dev.doing; rw [if_neg (by omega), if_neg (by omega), if_pos e]
    have HC := Lib.hid (apart_arm h1 x.at_)
    rw [e] at hk8
    clear h1 hu1 hsm e HA
    go_enter Try.func30, Try.ntmps30
    go_upto_region 1 with (fail)
    clear hW1
    go_wp2_with (go_at_call 17; (with_reducible refine HC.out.mono ?_); rintro e w2 ⟨rfl, hd, hs⟩; have H2 := Lib.hid hd; have HS2 := Lib.hid (HS.out.tr hs); clear hd hs)
    go_end0
    exact ⟨rfl, by rw [HE.out]; exact H2.out, HS2.out⟩
  · have HE : Hid (d.doing x = d.crash x.fates) := by unfold Hid Dev.doing; rw [if_neg (by omega), if_neg (by omega), if_neg (by omega), if_pos e]
    have HC := Lib.hid (apart_crash h1 hu1 hsm (by omega) (by omega))
    rw [e] at hk8
    clear h1 hu1 hsm e HA
    go_enter Try.func30, Try.ntmps30
    go_upto_region 1 with (fail)
    clear hW1
    go_wp2_with (go_at_call 18; (with_reducible refine HC.out.mono ?_); rintro e w2 ⟨rfl, hd, hs⟩; have H2 := Lib.hid hd; have HS2 := Lib.hid (HS.out.tr hs); clear hd hs)
    go_end0
    exact ⟨rfl, by rw [HE.out]; exact H2.out, HS2.out⟩
  · have HE : Hid (d.doing x = d.rot x.at_ x.len x.b) := by unfold Hid Dev.doing; rw [if_neg (by omega), if_neg (by omega), if_neg (by omega), if_neg (by omega), if_pos e]
    have HC := Lib.hid (apart_rot h1 x.at_ x.len x.b)
    rw [e] at hk8
    clear h1 hu1 hsm e HA
    go_enter Try.func30, Try.ntmps30
    go_upto_region 1 with (fail)
    clear hW1
    go_wp2_with (go_at_call 20; (with_reducible refine HC.out.mono ?_); rintro e w2 ⟨rfl, hd, hs⟩; have H2 := Lib.hid hd; have HS2 := Lib.hid (HS.out.tr hs); clear hd hs)
    go_end0
    exact ⟨rfl, by rw [HE.out]; exact H2.out, HS2.out⟩
  · obtain ⟨n3, n4, n5, n6, n7⟩ := e
    have HE : Hid (d.doing x = d.write x.at_ (x.bytes 96)) := by unfold Hid Dev.doing; rw [if_neg n3, if_neg n4, if_neg n5, if_neg n6, if_neg n7, hi.size]
    have b3 : (x.kind % 8 == 3) = false := by rw [beq_eq_false_iff_ne]; exact n3
    have b4 : (x.kind % 8 == 4) = false := by rw [beq_eq_false_iff_ne]; exact n4
    have b5 : (x.kind % 8 == 5) = false := by rw [beq_eq_false_iff_ne]; exact n5
    have b6 : (x.kind % 8 == 6) = false := by rw [beq_eq_false_iff_ne]; exact n6
    have b7 : (x.kind % 8 == 7) = false := by rw [beq_eq_false_iff_ne]; exact n7
    have HSZ : Hid (∀ W', DevApart w (fun j => Q j ∨ j = W.heap.size) D d W' → Calls Try.prog 10 #[.pointer (some ⟨D, 0, none⟩)] W' fun e w' => e = .returned (.int .i64 96) ∧ W' = w') := fun W' hh => by
      have := here_size hh.here
      rw [hi.size] at this
      exact this
    have HBY : Hid (∀ W', Calls Try.prog 22 #[.agg #[.int .i64 x.kind, .int .i64 x.at_, .int .i64 x.len, .int .u8 (U x.b), .slice a x.fates.length c], .int .i64 96] W' (BytesOut (x.bytes 96) W')) := fun W' => bytes04_any x (.slice a x.fates.length c) 96 (by decide) W'
    have HWR : Hid (∀ W' v, DevApart w (fun j => Q j ∨ j = W.heap.size) D d W' → BytesAt W'.heap.size W' v (x.bytes 96) → Calls Try.prog 23 #[.pointer (some ⟨D, 0, none⟩), .int .i64 x.at_, v] W' (DidApart w (fun j => Q j ∨ j = W.heap.size) D (d.write x.at_ (x.bytes 96)) (.int .i64 (writeErr d x.at_ (x.bytes 96).length)) W')) := fun W' v hh hv => apart_write hh x.at_ hv hsm (by omega)
    obtain ⟨bs, hbs⟩ : ∃ bs, x.bytes 96 = bs := ⟨_, rfl⟩
    rw [hbs] at HBY HWR HE
    have HA1 := Lib.hid (HA.out.on (Below.refl W1.heap.size W1).drew)
    have HK1 : Hid (Same (fun j => Q j ∨ j = W.heap.size) W1 W1.drew) := ⟨Nat.le_refl _, fun _ _ => rfl⟩
    have HSC : Hid (∀ W', Same (fun j => Q j ∨ j = W.heap.size) W1 W' → W'.cell? ⟨W.heap.size, 0, none⟩ = some (.int .i64 x.kind) ∧ W'.cell? ⟨W.heap.size, 1, none⟩ = some (.int .i64 x.at_) ∧ W'.cell? ⟨W.heap.size, 2, none⟩ = some (.int .i64 x.len) ∧ W'.cell? ⟨W.heap.size, 3, none⟩ = some (.int .u8 (U x.b)) ∧ W'.cell? ⟨W.heap.size, 4, none⟩ = some (.slice a x.fates.length c)) := fun W' hs => by
      have e := (hs.2 W.heap.size (.inr rfl)).trans HX.out
      exact ⟨blk_cell e 0, blk_cell e 1, blk_cell e 2, blk_cell e 3, blk_cell e 4⟩
    clear h1 hu1 hsm n3 n4 n5 n6 n7 hbs
    go_enter Try.func30, Try.ntmps30
    go_upto_region 1 with (fail)
    clear hW1
    go_upto_region 2 with (fail)
    clear c0 c1 c2 c3 c4 HA
    go_region_held3 (fun W' => W'.cell? ⟨W.heap.size, 0, none⟩ = some (.int .i64 x.kind) ∧ W'.cell? ⟨W.heap.size, 1, none⟩ = some (.int .i64 x.at_) ∧ W'.cell? ⟨W.heap.size, 2, none⟩ = some (.int .i64 x.len) ∧ W'.cell? ⟨W.heap.size, 3, none⟩ = some (.int .u8 (U x.b)) ∧ W'.cell? ⟨W.heap.size, 4, none⟩ = some (.slice a x.fates.length c))
      (exact HSC.out _ HK1.out)
      (first
        | (go_at_call 10; (with_reducible refine (HSZ.out _ HA1.out).mono ?_); rintro e w2 ⟨rfl, rfl⟩)
        | (go_at_call 22; (with_reducible refine (HBY.out _).mono ?_); rintro e w3 ⟨g3, rfl, hr3, hb3⟩; have HR3 := Lib.hid (BytesAt.of_owns hr3); have HA2 := Lib.hid (HA1.out.on hb3); have HK2 := Lib.hid (HK1.out.tr (HA1.out.same hb3)); clear HA1 HK1 hr3 hb3; have HA1 := HA2; have HK1 := HK2; clear HA2 HK2)
        | (go_at_call 23; (with_reducible refine (HWR.out _ _ HA1.out HR3.out).mono ?_); rintro e w4 ⟨rfl, hd4, hs4⟩; have H4 := Lib.hid hd4; have HK2 := Lib.hid (HK1.out.tr hs4); clear HK1 hd4 hs4; have HK1 := HK2; clear HK2))
    all_goals go_wp2
    all_goals go_end0
    all_goals exact ⟨rfl, by rw [HE.out]; exact H4.out.less (fun _ h => .inl h), HS.out.tr (HK1.out.mono (fun _ h => .inl h))⟩

end Go.Proofs.Ytfbddbigmbmcaaa

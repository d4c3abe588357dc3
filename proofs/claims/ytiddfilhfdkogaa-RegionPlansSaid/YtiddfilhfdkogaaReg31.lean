/-
  region: what stands on a device of which no sector tells a region: the range over its stamps yields nothing.
  Conditions: none.
-/
import Derived.Test.YtiddfilhfdkogaaReg27
import Derived.Deep.RegionHeld3
import Derived.Deep.DeepCutAuto
namespace Go.Proofs.Ytiddfilhfdkogaa
open Go.RowKit Go.Shelf

theorem zeros_none : readErr (zeros 96) = 5 := by decide +kernel
theorem new_got {at_ : Int} (h1 : 0 ≤ at_) (h2 : at_ < 200) (k p : Int) : gotErr (Dev.new 200 96) at_ k p = 5 := by
  have ha : askErr (Dev.new 200 96).sectors (Dev.new 200 96).down at_ = 0 := by
    unfold askErr
    rw [if_neg (by decide), if_pos ⟨h1, h2⟩]
  have hc : (Dev.new 200 96).cur at_.toNat = zeros 96 := rfl
  unfold gotErr
  rw [if_pos ha, hc, zeros_none, if_neg (by rintro ⟨h, _⟩; exact absurd h (by decide))]
section
variable {w W : World} {E : Foot} {R D : Nat} {x : LogS} {d : Dev}
set_option maxRecDepth 100000 in
set_option maxHeartbeats 4000000 in
theorem stamps1_none (h : LogApart w E R D x d W) (hnone : ∀ k : Nat, k < x.regions * x.sectors → gotErr d ((x.first : Int) + (k : Int)) 3 (k : Int) = 5) (l B : Nat) (cb : W.cell? ⟨B, 0, none⟩ = some (.pointer (some ⟨R, 0, none⟩))) :
    Calls Try.prog 59 #[.func (.yield l) #[] #[], .pointer (some ⟨B, 0, none⟩)] W fun e W' => e = .returned (.tuple #[]) ∧ Below W.heap.size W W' := by
  obtain ⟨rv, hL, hda, _⟩ := id h
  have HOK := Lib.hid hL.ok
  have HDH := Lib.hid hda.here
  have HNO := Lib.hid hnone
  have hbB := World.block_lt_of_cell? _ _ cb
  have HC : Hid (∀ V, Below W.heap.size W V → (V.cell? ⟨B, 0, none⟩ = some (.pointer (some ⟨R, 0, none⟩)) ∧ V.cell? ⟨R, 0, none⟩ = some (.pointer (some ⟨D, 0, none⟩)) ∧ V.cell? ⟨R, 1, none⟩ = some (.int .i64 x.first) ∧ V.cell? ⟨R, 2, none⟩ = some (.int .i64 x.regions) ∧ V.cell? ⟨R, 3, none⟩ = some (.int .i64 x.sectors))) := fun V hb => by
    obtain ⟨c0, c1, c2, c3, _⟩ := (hL.below hb).cells
    exact ⟨(hb.cell (p := ⟨B, 0, none⟩) hbB).trans cb, c0, c1, c2, c3⟩
  obtain ⟨b0, c0, c1, c2, c3⟩ := HC.out W (Below.refl _ W)
  have htot := hL.ok.tot
  obtain ⟨N, hN⟩ : ∃ N, x.regions * x.sectors = N := ⟨_, rfl⟩
  rw [hN] at HNO htot
  have hm : IntKind.i64.wrap ((x.regions : Int) * (x.sectors : Int)) = (N : Int) := by
    rw [show ((x.regions : Int) * (x.sectors : Int)) = ((x.regions * x.sectors : Nat) : Int) by push_cast; rfl, hN]
    exact IntWalk.i64_in _ (by omega)
  have HT := Lib.hid htot
  have n1 : (N : Int) ≤ 16384 := by omega
  have f1 : (x.first : Int) ≤ 16384 := by omega
  clear h hL hda hnone hN htot hbB cb
  go_enter Try.func59, Try.ntmps59
  go_wp2
  go_step3
  go_wp2
  go_step3
  go_upto_region 0 with (fail)
  go_quiet (fail)
  go_wp2
  clear b0 c0 c1 c2 c3
  go_loopw [15] (fun iv wr => ∃ k : Nat, k ≤ N ∧ iv = .int .i64 k ∧ Below W.heap.size W wr) (fun iv _ => N - (intOf iv).toNat)
  case atStart => exact ⟨0, Nat.zero_le _, rfl, below_drewN W _⟩
  case round =>
    obtain ⟨k, hk, rfl, hB⟩ := hrel
    by_cases hlt : k < N
    · obtain ⟨b0, c0, c1, c2, c3⟩ := HC.out _ hB
      have k1 : (k : Int) < N := by omega
      have hwr : IntKind.i64.wrap ((x.first : Int) + (k : Int)) = (x.first : Int) + k := IntWalk.i64_in _ ⟨by omega, by omega⟩
      have HG : Hid (∀ V, Below W.heap.size W V → Calls Try.prog 57 #[.pointer (some ⟨D, 0, none⟩), .int .i64 ((x.first : Int) + k), .int .i64 3, .int .i64 k] V fun e w' => ∃ y0 y1 y2 a n c, e = .returned (.tuple #[.agg #[.int .i64 y0, .int .i64 y1, .int .i64 y2, .slice a n c], .int .i64 5]) ∧ Below V.heap.size V w') := fun V hb =>
        (get_here (HDH.out.on hb) ((x.first : Int) + (k : Int)) 3 (k : Int)).mono fun e w' ⟨_, u, h1, h2, h3⟩ => by
          rw [HNO.out k hlt] at h1
          obtain ⟨a, c, rfl, _⟩ := id h2
          exact ⟨_, _, _, a, _, c, h1, h3⟩
      have HB := Lib.hid hB
      have HLT := Lib.hid hlt
      clear hB hlt
      have HS9 : Hid (∀ V, Below wr.heap.size wr V → (Below wr.heap.size wr V ∧ V.cell? ⟨B, 0, none⟩ = some (.pointer (some ⟨R, 0, none⟩)) ∧ V.cell? ⟨R, 0, none⟩ = some (.pointer (some ⟨D, 0, none⟩)) ∧ V.cell? ⟨R, 1, none⟩ = some (.int .i64 x.first))) := fun V hb => by
        obtain ⟨b0, c0, c1, _⟩ := HC.out _ (HB.out.trans (hb.mono HB.out.size))
        exact ⟨hb, b0, c0, c1⟩
      have HG9 : Hid (∀ V, (Below wr.heap.size wr V ∧ V.cell? ⟨B, 0, none⟩ = some (.pointer (some ⟨R, 0, none⟩)) ∧ V.cell? ⟨R, 0, none⟩ = some (.pointer (some ⟨D, 0, none⟩)) ∧ V.cell? ⟨R, 1, none⟩ = some (.int .i64 x.first)) → Calls Try.prog 57 #[.pointer (some ⟨D, 0, none⟩), .int .i64 ((x.first : Int) + k), .int .i64 3, .int .i64 k] V fun e w3 => ∃ y0 y1 y2 a n c, e = .returned (.tuple #[.agg #[.int .i64 y0, .int .i64 y1, .int .i64 y2, .slice a n c], .int .i64 5]) ∧ (Below wr.heap.size wr w3 ∧ w3.cell? ⟨B, 0, none⟩ = some (.pointer (some ⟨R, 0, none⟩)) ∧ w3.cell? ⟨R, 0, none⟩ = some (.pointer (some ⟨D, 0, none⟩)) ∧ w3.cell? ⟨R, 1, none⟩ = some (.int .i64 x.first)) ∧ Below V.heap.size V w3) := fun V hV =>
        (HG.out _ (HB.out.trans (hV.1.mono HB.out.size))).mono fun e w3 ⟨y0, y1, y2, a, n, c, h1, h2⟩ => ⟨y0, y1, y2, a, n, c, h1, HS9.out _ (hV.1.trans (h2.mono hV.1.size)), h2⟩
      clear HG
      obtain ⟨A, hA⟩ : ∃ A : Int, (x.first : Int) + k = A := ⟨_, rfl⟩
      have hwr2 : IntKind.i64.wrap ((x.first : Int) + (k : Int)) = A := by rw [hwr, hA]
      rw [hA] at HG9
      clear hA hwr
      go_upto_region 3 with (fail)
      go_cut [4, 5] from 19 to 32 (fun s4 s5 wx => ∃ L wy, wy = wx ∧ s4 = .pointer (some ⟨L, 0, none⟩) ∧ s5 = .int .i64 5 ∧ Below wr.heap.size wr wy)
      case first =>
        have ST1 : Hid (∀ V : World, ((V.alloc (.cells #[.int .i64 0, .int .i64 0, .int .i64 0, .slice none 0 0] 104)).cell? ⟨V.heap.size, 0, none⟩ = some (.int .i64 0) ∧ (V.alloc (.cells #[.int .i64 0, .int .i64 0, .int .i64 0, .slice none 0 0] 104)).cell? ⟨V.heap.size, 1, none⟩ = some (.int .i64 0) ∧ (V.alloc (.cells #[.int .i64 0, .int .i64 0, .int .i64 0, .slice none 0 0] 104)).cell? ⟨V.heap.size, 2, none⟩ = some (.int .i64 0) ∧ (V.alloc (.cells #[.int .i64 0, .int .i64 0, .int .i64 0, .slice none 0 0] 104)).cell? ⟨V.heap.size, 3, none⟩ = some (.slice none 0 0) ∧ (V.alloc (.cells #[.int .i64 0, .int .i64 0, .int .i64 0, .slice none 0 0] 104)).frozen? ⟨V.heap.size, 0, none⟩ = false ∧ (V.alloc (.cells #[.int .i64 0, .int .i64 0, .int .i64 0, .slice none 0 0] 104)).frozen? ⟨V.heap.size, 1, none⟩ = false ∧ (V.alloc (.cells #[.int .i64 0, .int .i64 0, .int .i64 0, .slice none 0 0] 104)).frozen? ⟨V.heap.size, 2, none⟩ = false ∧ (V.alloc (.cells #[.int .i64 0, .int .i64 0, .int .i64 0, .slice none 0 0] 104)).frozen? ⟨V.heap.size, 3, none⟩ = false)) := fun V => by
          have h := heap_alloc_new V (.cells #[.int .i64 0, .int .i64 0, .int .i64 0, .slice none 0 0] 104)
          exact ⟨blk_cell h 0, blk_cell h 1, blk_cell h 2, blk_cell h 3, blk_frozen h 0, blk_frozen h 1, blk_frozen h 2, blk_frozen h 3⟩
        have ST2 : Hid (∀ V : World, Below (wr.drew.alloc (.cells #[.int .i64 0, .int .i64 0, .int .i64 0, .slice none 0 0] 104)).heap.size (wr.drew.alloc (.cells #[.int .i64 0, .int .i64 0, .int .i64 0, .slice none 0 0] 104)) V → (V.cell? ⟨wr.heap.size, 0, none⟩ = some (.int .i64 0) ∧ V.cell? ⟨wr.heap.size, 1, none⟩ = some (.int .i64 0) ∧ V.cell? ⟨wr.heap.size, 2, none⟩ = some (.int .i64 0) ∧ V.cell? ⟨wr.heap.size, 3, none⟩ = some (.slice none 0 0) ∧ V.frozen? ⟨wr.heap.size, 0, none⟩ = false ∧ V.frozen? ⟨wr.heap.size, 1, none⟩ = false ∧ V.frozen? ⟨wr.heap.size, 2, none⟩ = false ∧ V.frozen? ⟨wr.heap.size, 3, none⟩ = false)) := fun V hb => by
          have h : V.heap[wr.heap.size]? = some (.cells #[.int .i64 0, .int .i64 0, .int .i64 0, .slice none 0 0] 104 (0, 0)) := (hb.block _ (by simp)).trans (heap_alloc_new wr.drew (.cells #[.int .i64 0, .int .i64 0, .int .i64 0, .slice none 0 0] 104))
          exact ⟨blk_cell h 0, blk_cell h 1, blk_cell h 2, blk_cell h 3, blk_frozen h 0, blk_frozen h 1, blk_frozen h 2, blk_frozen h 3⟩
        have KS : Hid (∀ (V : World) (g : Nat) (a b c z : Value), (Below wr.heap.size wr V ∧ V.cell? ⟨B, 0, none⟩ = some (.pointer (some ⟨R, 0, none⟩)) ∧ V.cell? ⟨R, 0, none⟩ = some (.pointer (some ⟨D, 0, none⟩)) ∧ V.cell? ⟨R, 1, none⟩ = some (.int .i64 x.first)) → wr.heap.size ≤ g → (fun V => (Below wr.heap.size wr V ∧ V.cell? ⟨B, 0, none⟩ = some (.pointer (some ⟨R, 0, none⟩)) ∧ V.cell? ⟨R, 0, none⟩ = some (.pointer (some ⟨D, 0, none⟩)) ∧ V.cell? ⟨R, 1, none⟩ = some (.int .i64 x.first))) ((((V.setCell ⟨g, 0, none⟩ a).setCell ⟨g, 1, none⟩ b).setCell ⟨g, 2, none⟩ c).setCell ⟨g, 3, none⟩ z)) := fun V g a b c z hV hg =>
          HS9.out _ ((((hV.1.setCell (p := ⟨g, 0, none⟩) hg a).setCell (p := ⟨g, 1, none⟩) hg b).setCell (p := ⟨g, 2, none⟩) hg c).setCell (p := ⟨g, 3, none⟩) hg z)
        go_region_held3 (fun V => (Below wr.heap.size wr V ∧ V.cell? ⟨B, 0, none⟩ = some (.pointer (some ⟨R, 0, none⟩)) ∧ V.cell? ⟨R, 0, none⟩ = some (.pointer (some ⟨D, 0, none⟩)) ∧ V.cell? ⟨R, 1, none⟩ = some (.int .i64 x.first))) (first | assumption | exact HS9.out _ ((Below.refl _ _).drew) | (refine HS9.out _ (Below.alloc (And.left (by assumption)) (Below.size (And.left (by assumption))) _)) | exact KS.out _ _ _ _ _ _ (by assumption) hge | exact KS.out _ _ _ _ _ _ (by assumption) (Nat.le_refl _)) ((go_at_call 57; (with_reducible refine (HG9.out _ (by assumption)).mono ?_); rintro e w8 ⟨y0, y1, y2, a8, n8, cc8, rfl, hs8, hb8⟩; have hge : wr.heap.size ≤ w8.heap.size := hs8.1.size; obtain ⟨t0, t1, t2, t3, t4, t5, t6, t7⟩ := ST1.out w8; (try (have zz := ST2.out w8 hb8; obtain ⟨z0, z1, z2, z3, z4, z5, z6, z7⟩ := zz))))
        all_goals (go_wp2_with fail)
        all_goals go_meet
        · exact ⟨w8.heap.size, _, rfl, rfl, rfl, hs8.1.alloc hge _⟩
        · exact ⟨wr.heap.size, _, rfl, rfl, rfl, (((hs8.1.setCell (p := ⟨wr.heap.size, 0, none⟩) (Nat.le_refl _) _).setCell (p := ⟨wr.heap.size, 1, none⟩) (Nat.le_refl _) _).setCell (p := ⟨wr.heap.size, 2, none⟩) (Nat.le_refl _) _).setCell (p := ⟨wr.heap.size, 3, none⟩) (Nat.le_refl _) _⟩
      case rest =>
        obtain ⟨L, wy, rfl, rfl, rfl, hby⟩ := hcut
        have HBY := Lib.hid (HB.out.trans (hby.mono HB.out.size))
        clear hby b0 c0 c1 c2 c3 hwr2
        go_wp2
        go_roundw
        case rel => exact ⟨k + 1, HLT.out, by go_num, HBY.out⟩
        case measure => have := HLT.out; simp [intOf]; omega
    · obtain rfl : k = N := by omega
      go_wp2
      rw [Exit.noGoto_normal]
      go_end0
      exact ⟨rfl, hB⟩
end
end Go.Proofs.Ytiddfilhfdkogaa

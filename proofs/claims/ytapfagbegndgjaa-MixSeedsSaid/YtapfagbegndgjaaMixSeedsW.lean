/-
  MixSeeds: of one key no two seeds have one number; keys that part in their last byte alone have two.
  Conditions: none.
-/
import Derived.Test.YtapfagbegndgjaaSeedRows
import Derived.Test.YtapfagbegndgjaaMixSeedsMath
import Derived.Test.YtapfagbegndgjaaOpenBn
import Derived.Test.YtapfagbegndgjaaMixAwake
import Derived.Test.YtapfagbegndgjaaQuietB
import Derived.Deep.RegionHeldLaw
import Derived.Deep.CutRange
import Derived.Deep.DeepCutAuto
namespace Go.Proofs.Ytapfagbegndgjaa
open Go.ChangeShapes Go.WideShapes Go.ChangeAt Go.RowKit

theorem step_key {w w0 B wk : World} {k : Nat} {L l1 l2 : List (Value × List (BitVec 8))} {ops : Array Oper} {o : Oper} {a : Act} {K : Act → World → Prop} {Q : Exit → Act → World → Prop} {E : Prop} (hgd : o.guard = none) (s x : Operand) (hty : o.type = 24)
    (ho : o.op = .call { callee := .builtin .append, args := #[s, x], argTypes := #[24, 24] })
    (i0 : TypeInfo) (hi0 : Try.prog.info? 5 = some i0) (hz0 : i0.zero = some (.int .u8 0)) (hz1 : i0.size = 1) (hz2 : i0.bytes = 1)
    (HL : Live w0 B w k L) (v : Value) (hs : a.eval s = v) (bs : List (BitVec 8)) (hi : L = l1 ++ (v, bs) :: l2) (u : Value) (hx : a.eval x = u) {cs : List (BitVec 8)} (hb : Below wk.heap.size wk w0) (hu : BytesAt wk.heap.size wk u cs) (hlen : bs.length + cs.length ≤ 70368744177664)
    (dst : Option Nat) (hd : o.dst = dst) (h : ∀ v' w', Live w0 w' w' 0 ((v', bs ++ cs) :: (l1 ++ l2)) → K (a.put dst v') w') :
    if Region.wanted o (yielded ops a.tmps) = true then Oper.wp Try.prog o a w K Q else E :=
  step_app hgd s x hty ho i0 hi0 hz0 hz1 hz2 HL v hs bs hi u hx _ cs (hu.below (hb.trans (HL.bel.mono hb.size))) hlen dst hd h
theorem step_row {w w0 B : World} {k : Nat} {L l1 l2 m1 m2 : List (Value × List (BitVec 8))} {ops : Array Oper} {o : Oper} {a : Act} {K : Act → World → Prop} {Q : Exit → Act → World → Prop} {E : Prop} (hgd : o.guard = none) (s x : Operand) (hty : o.type = 24)
    (ho : o.op = .call { callee := .builtin .append, args := #[s, x], argTypes := #[24, 24] })
    (i0 : TypeInfo) (hi0 : Try.prog.info? 5 = some i0) (hz0 : i0.zero = some (.int .u8 0)) (hz1 : i0.size = 1) (hz2 : i0.bytes = 1)
    (HL : Live w0 B w k L) (v : Value) (hs : a.eval s = v) (bs : List (BitVec 8)) (hi : L = l1 ++ (v, bs) :: l2) (u : Value) (hx : a.eval x = u) (cs : List (BitVec 8)) (hj : L = m1 ++ (u, cs) :: m2) (hlen : bs.length + cs.length ≤ 70368744177664)
    (dst : Option Nat) (hd : o.dst = dst) (h : ∀ v' w', Live w0 w' w' 0 ((v', bs ++ cs) :: (l1 ++ l2)) → K (a.put dst v') w') :
    if Region.wanted o (yielded ops a.tmps) = true then Oper.wp Try.prog o a w K Q else E :=
  step_app hgd s x hty ho i0 hi0 hz0 hz1 hz2 HL v hs bs hi u hx _ cs (HL.bytes hj) hlen dst hd h
/-- Two rows of bytes, made behind w0. -/
structure Two (w0 : World) (p q : List (BitVec 8)) (x y : Value) (w : World) : Prop where
  bel : Below w0.heap.size w0 w
  one : BytesAt w.heap.size w x p
  two : BytesAt w.heap.size w y q
theorem Live.two {w0 B w : World} {k : Nat} {L l1 l2 m1 m2 : List (Value × List (BitVec 8))} {p q : List (BitVec 8)} {x y : Value} (h : Live w0 B w k L) (hi : L = l1 ++ (x, p) :: l2) (hj : L = m1 ++ (y, q) :: m2) : Two w0 p q x y w := ⟨h.bel, h.bytes hi, h.bytes hj⟩
theorem beq_same {n m : Nat} {a b : BitVec n} {c d : BitVec m} (h : c = d ↔ a = b) : (U c == U d) = (U a == U b) := by
  rw [Bool.eq_iff_iff, beq_iff_eq, beq_iff_eq]
  have inj : ∀ {k : Nat} {x y : BitVec k}, U x = U y ↔ x = y := fun {k x y} => ⟨fun h => BitVec.eq_of_toNat_eq (by unfold U at h; omega), fun h => by rw [h]⟩
  rw [inj, inj, h]

set_option maxRecDepth 100000 in
set_option maxHeartbeats 64000000 in
theorem mixSeeds_walk (a b : BitVec 64) (v : Value) (key : List (BitVec 8)) (c d : BitVec 8) (w : World) (hv : BytesAt w.heap.size w v key) : Calls Try.prog 3 #[.agg #[.int .u64 (U a), .int .u64 (U b)], v, .agg #[.int .u8 (U c), .int .u8 (U d)]] w (Good w) := by
  have HV := Lib.hid hv
  have HAW := Lib.hid (fun W => awake02 W)
  obtain ⟨i0, hi, hz0, hz1, hz2⟩ := info_parts Try.infoU8
  obtain ⟨va, cap, rfl, hcap, _⟩ := id hv
  clear hv
  have hb2 : Below w.heap.size w ((w.alloc (.cells #[.int .u64 (U a), .int .u64 (U b)] 23)).alloc (.cells #[.int .u8 (U c), .int .u8 (U d)] 25)) := ((Below.refl _ w).alloc (Nat.le_refl _) _).alloc (by simp) _
  have hk0 : ((w.alloc (.cells #[.int .u64 (U a), .int .u64 (U b)] 23)).alloc (.cells #[.int .u8 (U c), .int .u8 (U d)] 25)).heap[w.heap.size]? = some (.cells #[.int .u64 (U a), .int .u64 (U b)] 23 (0, 0)) := blk_alloc (heap_alloc_new _ _) _
  have hk1 : ((w.alloc (.cells #[.int .u64 (U a), .int .u64 (U b)] 23)).alloc (.cells #[.int .u8 (U c), .int .u8 (U d)] 25)).heap[w.heap.size + 1]? = some (.cells #[.int .u8 (U c), .int .u8 (U d)] 25 (0, 0)) := by
    have := heap_alloc_new (w.alloc (.cells #[.int .u64 (U a), .int .u64 (U b)] 23)) (.cells #[.int .u8 (U c), .int .u8 (U d)] 25)
    rw [World.size_alloc] at this
    exact this
  obtain ⟨w2, hw2⟩ : ∃ w2, ((w.alloc (.cells #[.int .u64 (U a), .int .u64 (U b)] 23)).alloc (.cells #[.int .u8 (U c), .int .u8 (U d)] 25)) = w2 := ⟨_, rfl⟩
  rw [hw2] at hb2 hk0 hk1
  have HW2 := Lib.hid hw2
  have HB2 := Lib.hid hb2
  have HK1 := Lib.hid hk1
  have a0 : ∀ p : After w2, p.v.cell? ⟨w.heap.size, 0, none⟩ = some (.int .u64 (U a)) := after_cell (blk_cell hk0 0)
  have a1 : ∀ p : After w2, p.v.cell? ⟨w.heap.size, 1, none⟩ = some (.int .u64 (U b)) := after_cell (blk_cell hk0 1)
  clear hw2 hb2 hk0 hk1
  by_cases hl : key.length ≤ 300
  · have hl1 : (key.length : Int) ≤ 300 := by omega
    have HLEN := Lib.hid hl
    have HKEY := Lib.hid (beq_same (hash_seed a b key))
    have HLAST := Lib.hid (beq_same (hash_last a key c d))
    clear hl
    go_enter Try.func3, Try.ntmps3
    go_upto_region 1 with (fail)
    rw [HW2.out]
    refine wp_region_after (by kernel_rfl) (by kernel_rfl) ?_
    repeat (go_big_quiet_step (fail))
    refine wpQuiet_nil ?_
    rintro W3 ⟨⟨_, hW3⟩, rfl⟩
    have HB3 := Lib.hid (HB2.out.trans (hW3.mono HB2.out.size))
    have HK3 := Lib.hid ((hW3.block _ (blk_lt HK1.out)).trans HK1.out)
    clear hW3 a0 a1
    go_upto_region 4 with (fail)
    go_cut [9, 10] (fun x y wx => Two W3 (key ++ [c]) (key ++ [d]) x y wx)
    case first =>
      have HS : Hid (∀ W, Below W3.heap.size W3 W → W.cell? ⟨w.heap.size + 1, 0, none⟩ = some (.int .u8 (U c)) ∧ W.cell? ⟨w.heap.size + 1, 1, none⟩ = some (.int .u8 (U d))) := fun W h =>
        ⟨(h.cell (p := ⟨w.heap.size + 1, 0, none⟩) (blk_lt HK3.out)).trans (blk_cell HK3.out 0), (h.cell (p := ⟨w.heap.size + 1, 1, none⟩) (blk_lt HK3.out)).trans (blk_cell HK3.out 1)⟩
      have HL := Lib.hid (Live.start' ((Below.refl W3.heap.size W3).drew))
      go_region_held_law (fun W => W.cell? ⟨w.heap.size + 1, 0, none⟩ = some (.int .u8 (U c)) ∧ W.cell? ⟨w.heap.size + 1, 1, none⟩ = some (.int .u8 (U d)))
        (first | exact HS.out _ HL.out.bel | exact HS.out _ HL.out.e.bel | exact HS.out _ HL.out.b.bel | exact HS.out _ HL.out.e.e.bel | exact HS.out _ HL.out.e.b.bel | exact HS.out _ HL.out.b.b.bel | exact HS.out _ HL.out.b.e.bel | exact HS.out _ HL.out.b.b.e.bel | exact HS.out _ HL.out.b.e.e.bel | exact HS.out _ HL.out.b.e.b.bel | exact HS.out _ HL.out.e.e.b.bel | exact HS.out _ HL.out.e.b.e.bel | exact HS.out _ HL.out.e.b.b.bel | exact HS.out _ HL.out.e.b.b.e.bel | exact HS.out _ HL.out.b.b.e.e.bel | exact HS.out _ HL.out.b.e.b.e.bel | exact HS.out _ HL.out.e.b.e.b.bel | exact HS.out _ HL.out.e.e.b.b.bel | exact HS.out _ HL.out.b.e.e.b.bel)
        (first
          | (refine step_key (by rfl) (.tmp 18) (.tmp 19) (by rfl) (by rfl) i0 hi hz0 hz1 hz2 (by first | exact HL.out | exact HL.out.e | exact HL.out.b | exact HL.out.e.e | exact HL.out.e.b | exact HL.out.b.b | exact HL.out.b.e | exact HL.out.b.b.e | exact HL.out.b.e.e | exact HL.out.b.e.b | exact HL.out.e.e.b | exact HL.out.e.b.e | exact HL.out.e.b.b | exact HL.out.e.b.b.e | exact HL.out.b.b.e.e | exact HL.out.b.e.b.e | exact HL.out.e.b.e.b | exact HL.out.e.e.b.b | exact HL.out.b.e.e.b) _ (by rfl) _ (by first | exact (rfl : _ = [] ++ _ :: _) | exact (rfl : _ = [_] ++ _ :: _) | exact (rfl : _ = [_, _] ++ _ :: _) | exact (rfl : _ = [_, _, _] ++ _ :: _)) _ (by rfl) HB3.out HV.out (by have := HLEN.out; simp; omega) (some 20) (by rfl) ?_; intro v' w' hL'; have HLn := Lib.hid hL'; clear HL hL'; have HL := HLn; clear HLn)
          | (refine step_row (by rfl) (.tmp 20) (.tmp 23) (by rfl) (by rfl) i0 hi hz0 hz1 hz2 (by first | exact HL.out | exact HL.out.e | exact HL.out.b | exact HL.out.e.e | exact HL.out.e.b | exact HL.out.b.b | exact HL.out.b.e | exact HL.out.b.b.e | exact HL.out.b.e.e | exact HL.out.b.e.b | exact HL.out.e.e.b | exact HL.out.e.b.e | exact HL.out.e.b.b | exact HL.out.e.b.b.e | exact HL.out.b.b.e.e | exact HL.out.b.e.b.e | exact HL.out.e.b.e.b | exact HL.out.e.e.b.b | exact HL.out.b.e.e.b) _ (by rfl) _ (by first | exact (rfl : _ = [] ++ _ :: _) | exact (rfl : _ = [_] ++ _ :: _) | exact (rfl : _ = [_, _] ++ _ :: _) | exact (rfl : _ = [_, _, _] ++ _ :: _)) _ (by rfl) _ (by first | exact (rfl : _ = [] ++ _ :: _) | exact (rfl : _ = [_] ++ _ :: _) | exact (rfl : _ = [_, _] ++ _ :: _) | exact (rfl : _ = [_, _, _] ++ _ :: _)) (by have := HLEN.out; simp; omega) (some 24) (by rfl) ?_; intro v' w' hL'; have HLn := Lib.hid hL'; clear HL hL'; have HL := HLn; clear HLn)
          | (refine step_key (by rfl) (.tmp 25) (.tmp 26) (by rfl) (by rfl) i0 hi hz0 hz1 hz2 (by first | exact HL.out | exact HL.out.e | exact HL.out.b | exact HL.out.e.e | exact HL.out.e.b | exact HL.out.b.b | exact HL.out.b.e | exact HL.out.b.b.e | exact HL.out.b.e.e | exact HL.out.b.e.b | exact HL.out.e.e.b | exact HL.out.e.b.e | exact HL.out.e.b.b | exact HL.out.e.b.b.e | exact HL.out.b.b.e.e | exact HL.out.b.e.b.e | exact HL.out.e.b.e.b | exact HL.out.e.e.b.b | exact HL.out.b.e.e.b) _ (by rfl) _ (by first | exact (rfl : _ = [] ++ _ :: _) | exact (rfl : _ = [_] ++ _ :: _) | exact (rfl : _ = [_, _] ++ _ :: _) | exact (rfl : _ = [_, _, _] ++ _ :: _)) _ (by rfl) HB3.out HV.out (by have := HLEN.out; simp; omega) (some 27) (by rfl) ?_; intro v' w' hL'; have HLn := Lib.hid hL'; clear HL hL'; have HL := HLn; clear HLn)
          | (refine step_row (by rfl) (.tmp 27) (.tmp 30) (by rfl) (by rfl) i0 hi hz0 hz1 hz2 (by first | exact HL.out | exact HL.out.e | exact HL.out.b | exact HL.out.e.e | exact HL.out.e.b | exact HL.out.b.b | exact HL.out.b.e | exact HL.out.b.b.e | exact HL.out.b.e.e | exact HL.out.b.e.b | exact HL.out.e.e.b | exact HL.out.e.b.e | exact HL.out.e.b.b | exact HL.out.e.b.b.e | exact HL.out.b.b.e.e | exact HL.out.b.e.b.e | exact HL.out.e.b.e.b | exact HL.out.e.e.b.b | exact HL.out.b.e.e.b) _ (by rfl) _ (by first | exact (rfl : _ = [] ++ _ :: _) | exact (rfl : _ = [_] ++ _ :: _) | exact (rfl : _ = [_, _] ++ _ :: _) | exact (rfl : _ = [_, _, _] ++ _ :: _)) _ (by rfl) _ (by first | exact (rfl : _ = [] ++ _ :: _) | exact (rfl : _ = [_] ++ _ :: _) | exact (rfl : _ = [_, _] ++ _ :: _) | exact (rfl : _ = [_, _, _] ++ _ :: _)) (by have := HLEN.out; simp; omega) (some 31) (by rfl) ?_; intro v' w' hL'; have HLn := Lib.hid hL'; clear HL hL'; have HL := HLn; clear HLn))
      all_goals (go_wp2_with fail)
      all_goals go_meet
      all_goals exact HL.out.two (by first | exact (rfl : _ = [] ++ _ :: _) | exact (rfl : _ = [_] ++ _ :: _) | exact (rfl : _ = [_, _] ++ _ :: _) | exact (rfl : _ = [_, _, _] ++ _ :: _)) (by first | exact (rfl : _ = [] ++ _ :: _) | exact (rfl : _ = [_] ++ _ :: _) | exact (rfl : _ = [_, _] ++ _ :: _) | exact (rfl : _ = [_, _, _] ++ _ :: _))
    case rest =>
      have HT := Lib.hid hcut
      have hbx := HB3.out.trans (HT.out.bel.mono HB3.out.size)
      have HBX := Lib.hid hbx
      have hkx := (HT.out.bel.block _ (blk_lt HK3.out)).trans HK3.out
      have HKA : Hid (∀ p : After wc, Calls Try.prog 4 #[.int .u64 (U a), .slice va key.length cap] p.v fun e w' => e = .returned (.int .u64 (U (hash a key))) ∧ Below p.v.heap.size p.v w') := fun p => hash_any a key _ p.v ((HV.out.below (hbx.trans (p.h.mono hbx.size))).mono (hbx.trans (p.h.mono hbx.size)).size) (by have := HLEN.out; omega)
      have HKB : Hid (∀ p : After wc, Calls Try.prog 4 #[.int .u64 (U b), .slice va key.length cap] p.v fun e w' => e = .returned (.int .u64 (U (hash b key))) ∧ Below p.v.heap.size p.v w') := fun p => hash_any b key _ p.v ((HV.out.below (hbx.trans (p.h.mono hbx.size))).mono (hbx.trans (p.h.mono hbx.size)).size) (by have := HLEN.out; omega)
      have HKX : Hid (∀ p : After wc, Calls Try.prog 4 #[.int .u64 (U a), u9] p.v fun e w' => e = .returned (.int .u64 (U (hash a (key ++ [c])))) ∧ Below p.v.heap.size p.v w') := fun p => hash_any a _ _ p.v ((HT.out.one.below p.h).mono p.h.size) (by have := HLEN.out; simp; omega)
      have HKY : Hid (∀ p : After wc, Calls Try.prog 4 #[.int .u64 (U a), u10] p.v fun e w' => e = .returned (.int .u64 (U (hash a (key ++ [d])))) ∧ Below p.v.heap.size p.v w') := fun p => hash_any a _ _ p.v ((HT.out.two.below p.h).mono p.h.size) (by have := HLEN.out; simp; omega)
      have c0 : ∀ p : After wc, p.v.cell? ⟨w.heap.size + 1, 0, none⟩ = some (.int .u8 (U c)) := after_cell (blk_cell hkx 0)
      have c1 : ∀ p : After wc, p.v.cell? ⟨w.heap.size + 1, 1, none⟩ = some (.int .u8 (U d)) := after_cell (blk_cell hkx 1)
      obtain ⟨β, hab⟩ : ∃ β, (U a == U b) = β := ⟨_, rfl⟩
      obtain ⟨γ, hcd⟩ : ∃ γ, (U c == U d) = γ := ⟨_, rfl⟩
      have h12 := HKEY.out.trans hab
      have h34 := HLAST.out.trans hcd
      clear HKEY HLAST
      generalize U (hash a key) = q1 at HKA h12
      generalize U (hash b key) = q2 at HKB h12
      generalize U (hash a (key ++ [c])) = q3 at HKX h34
      generalize U (hash a (key ++ [d])) = q4 at HKY h34
      clear hcut hbx hkx HT HK3 HK1
      go_upto_region 5 with (fail)
      refine wp_region_after (by kernel_rfl) (by kernel_rfl) ?_
      repeat (go_big_quiet_step ((first | (go_at_call 4; first | (with_reducible exact after_call (HKA.out _)) | (with_reducible exact after_call (HKB.out _)) | (with_reducible exact after_call (HKX.out _)) | (with_reducible exact after_call (HKY.out _))) | (go_at_call 5; exact after_call (HAW.out _)))))
      refine wpQuiet_nil ?_
      rintro W9 ⟨⟨_, hW9⟩, rfl⟩
      have HW9 := Lib.hid (HBX.out.trans (hW9.mono HBX.out.size))
      clear hW9 c0 c1
      go_wp2
      go_ret
      exact ⟨rfl, HW9.out⟩
  · have hl1 : 300 < (key.length : Int) := by omega
    go_enter Try.func3, Try.ntmps3
    go_upto_region 1 with (fail)
    rw [HW2.out]
    refine wp_region_after (by kernel_rfl) (by kernel_rfl) ?_
    repeat (go_big_quiet_step (fail))
    refine wpQuiet_nil ?_
    rintro W3 ⟨⟨_, hW3⟩, rfl⟩
    have HB3 := Lib.hid (HB2.out.trans (hW3.mono HB2.out.size))
    clear hW3 a0 a1
    go_wp2
    go_ret
    exact ⟨rfl, HB3.out⟩
end Go.Proofs.Ytapfagbegndgjaa

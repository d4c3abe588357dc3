/-
  slices.Concat of three slices of entries.
  Conditions: none.
-/
import Derived.Test.YtpihncafmjbccaaBkt21
namespace Go.Proofs.Ytpihncafmjbccaa
open Go.RowKit
attribute [local go_sem] Oper.semAt_some

theorem OwnE.app {n₀ : Nat} {W' : World} {v' : Value} {l r : List Ent} {n : Nat} (hn : n = (l ++ r).length) (h : W'.ownsRow n₀ 40 4 v' n (ents (l ++ r))) : OwnE n₀ W' v' (l ++ r) := by
  subst hn; exact h
theorem wpList_append_ents {w : World} {ops : Array Oper} {rest : List Oper} {o : Oper} {a : Act} {Q : Exit → Act → World → Prop} (hgd : o.guard = none) (s x : Operand) (hty : o.type = 30)
    (ho : o.op = .call { callee := .builtin .append, args := #[s, x], argTypes := #[30, 30] })
    (base : Nat) (i0 : TypeInfo) (hi : Try.prog.info? 40 = some i0) (hz0 : i0.zero = some (.agg #[.int .u64 0, .int .i64 0, .int .i64 0, .int .i64 0])) (hz1 : i0.size = 4) (hz2 : i0.bytes = 32)
    (v : Value) (hs : a.eval s = v) (xs : List Ent) (hown : w.ownsRow base 40 4 v xs.length (ents xs)) (u : Value) (hx : a.eval x = u) (n₀ : Nat) (l : List Ent) (hu : EntsAt n₀ w u l) (hnil : ∀ m c, u = .slice none m c → m = 0 ∧ c = 0) (hlen : xs.length + l.length ≤ 1073741824) (hb : base ≤ w.heap.size)
    (h : ∀ v' w' n, Hid (n = (xs ++ l).length) → w'.ownsRow base 40 4 v' n (ents (xs ++ l)) → w.grownBy w' v.ownBlock → (v'.ownBlock = v.ownBlock ∨ v'.ownBlock = some w.heap.size) → wpList Try.prog ops Q rest (a.put o.dst v') w') : wpList Try.prog ops Q (o :: rest) a w := by
  refine wpList_plain hgd fun K hK => ?_
  obtain ⟨v', w', hr, h2, h3, h4⟩ := run_append_ents (w := w) base i0 hi hz0 hz1 hz2 v xs hown u n₀ l hu hnil hlen hb
  unfold Oper.wp
  simp [execOp, ho, resolve, invoke, builtin, hs, hx, hty, hr, Result.andThen]
  exact hK _ _ (h v' w' _ rfl h2 h3 h4)
set_option maxRecDepth 100000 in
set_option maxHeartbeats 8000000 in
theorem concat3_any (S : Nat) (a1 a2 a3 : Option Addr) (k1 k2 k3 : Nat) (l1 l2 l3 : List Ent) (w : World)
    (c1 : w.cell? ⟨S, 0, none⟩ = some (.slice a1 l1.length k1)) (c2 : w.cell? ⟨S, 1, none⟩ = some (.slice a2 l2.length k2)) (c3 : w.cell? ⟨S, 2, none⟩ = some (.slice a3 l3.length k3))
    (h1 : EntsAt w.heap.size w (.slice a1 l1.length k1) l1) (h2 : EntsAt w.heap.size w (.slice a2 l2.length k2) l2) (h3 : EntsAt w.heap.size w (.slice a3 l3.length k3) l3)
    (n1 : NilS (.slice a1 l1.length k1)) (n2 : NilS (.slice a2 l2.length k2)) (n3 : NilS (.slice a3 l3.length k3))
    (hlen : l1.length + l2.length + l3.length ≤ 100000) (hpos : 1 ≤ l1.length + l2.length + l3.length) :
    Calls Try.prog 28 #[.slice (some ⟨S, 0, none⟩) 3 3] w fun e w' => ∃ v, e = .returned v ∧ OwnE w.heap.size w' v (l1 ++ l2 ++ l3) ∧ Below w.heap.size w w' := by
  obtain ⟨i0, hi, hz0, hz1, hz2⟩ := info_parts4 infoEnt
  have hS := World.block_lt_of_cell? _ _ c1
  have HCC : Hid (∀ W, Below w.heap.size w W → W.cell? ⟨S, 0, none⟩ = some (.slice a1 l1.length k1) ∧ W.cell? ⟨S, 1, none⟩ = some (.slice a2 l2.length k2) ∧ W.cell? ⟨S, 2, none⟩ = some (.slice a3 l3.length k3)) := fun W hW => ⟨(hW.cell (p := ⟨S, 0, none⟩) hS).trans c1, (hW.cell (p := ⟨S, 1, none⟩) hS).trans c2, (hW.cell (p := ⟨S, 2, none⟩) hS).trans c3⟩
  have H1 := Lib.hid h1
  have H2 := Lib.hid h2
  have H3 := Lib.hid h3
  have N1 := Lib.hid n1
  have N2 := Lib.hid n2
  have N3 := Lib.hid n3
  have HLEN := Lib.hid hlen
  have e1 : IntKind.i64.wrap (l1.length : Int) = l1.length := IntWalk.i64_in _ (by omega)
  have e2 : wrap64 ((l1.length : Int) + l2.length) = l1.length + l2.length := IntWalk.wrap64_in _ (by omega)
  have e3 : wrap64 ((l1.length : Int) + l2.length + l3.length) = l1.length + l2.length + l3.length := IntWalk.wrap64_in _ (by omega)
  have p1 : ¬ ((l1.length : Int) < 0) := by omega
  have p2 : ¬ ((l1.length : Int) + l2.length < 0) := by omega
  have p3 : ¬ ((l1.length : Int) + l2.length + l3.length < 0) := by omega
  have e4 : ((l1.length : Int) + l2.length + l3.length) = ((l1.length + l2.length + l3.length : Nat) : Int) := by omega
  have e0 : wrap64 (l1.length : Int) = l1.length := IntWalk.wrap64_in _ (by omega)
  have hg := growE_any (l1.length + l2.length + l3.length) hpos hlen w
  rw [← e4] at hg
  have HG := Lib.hid hg
  clear h1 h2 h3 n1 n2 n3 hlen hpos e4 hS hg
  go_enter Try.func28, Try.ntmps28
  go_wp2
  go_loop [3, 11] (fun s i => (i = .int .i64 0 ∧ s = .int .i64 0) ∨ (i = .int .i64 1 ∧ s = .int .i64 l1.length) ∨ (i = .int .i64 2 ∧ s = .int .i64 ((l1.length : Int) + l2.length)) ∨ (i = .int .i64 3 ∧ s = .int .i64 ((l1.length : Int) + l2.length + l3.length))) (fun _ i => 3 - (intOf i).toNat)
  case atStart => exact .inl ⟨rfl, rfl⟩
  case round =>
    rcases hrel with ⟨rfl, rfl⟩ | ⟨rfl, rfl⟩ | ⟨rfl, rfl⟩ | ⟨rfl, rfl⟩
    · go_wp2
      exact ⟨.inr (.inl ⟨rfl, rfl⟩), by simp [intOf]⟩
    · go_wp2
      exact ⟨.inr (.inr (.inl ⟨rfl, congrArg (Value.int .i64) e2⟩)), by simp [intOf]⟩
    · go_wp2
      exact ⟨.inr (.inr (.inr ⟨rfl, congrArg (Value.int .i64) e3⟩)), by simp [intOf]⟩
    · clear c1 c2 c3
      go_wp2_with (go_at_call 35; (with_reducible refine HG.out.mono ?_); rintro e w1 ⟨v0, rfl, ho, hb⟩; have HO0 := Lib.hid ho; have HB0 := Lib.hid hb; clear ho hb)
      go_loopw [6, 27] (fun v i W => Below w.heap.size w W ∧ ((i = .int .i64 0 ∧ OwnE w.heap.size W v []) ∨ (i = .int .i64 1 ∧ OwnE w.heap.size W v l1) ∨ (i = .int .i64 2 ∧ OwnE w.heap.size W v (l1 ++ l2)) ∨ (i = .int .i64 3 ∧ OwnE w.heap.size W v (l1 ++ l2 ++ l3)))) (fun _ i _ => 3 - (intOf i).toNat)
      case atStart => exact ⟨HB0.out, .inl ⟨rfl, HO0.out⟩⟩
      case round =>
        obtain ⟨hB, hrel⟩ := hrel
        obtain ⟨d1, d2, d3⟩ := HCC.out _ hB
        have HBW := Lib.hid hB
        clear hB
        rcases hrel with ⟨rfl, hO⟩ | ⟨rfl, hO⟩ | ⟨rfl, hO⟩ | ⟨rfl, hO⟩
        · have HO := Lib.hid hO
          clear hO
          go_wp2_with (at_builtin; (refine wpList_append_ents rfl (.tmp 31) (.tmp 32) rfl rfl w.heap.size i0 hi hz0 hz1 hz2 _ rfl [] HO.out _ rfl _ l1 (H1.out.below HBW.out) N1.out (by have := HLEN.out; simp; omega) HBW.out.size ?_); intro v5 w5 n5 hn hown hg _; have HO5 := Lib.hid (OwnE.app hn.out hown); have HB5 := Lib.hid (HBW.out.grown hg HBW.out.size (fun k e => (HO.out.lt k e).1)); clear hn hown hg)
          go_roundw
          case rel => exact ⟨HB5.out, .inr (.inl ⟨rfl, HO5.out⟩)⟩
          case measure => simp [intOf]
        · have HO := Lib.hid hO
          clear hO
          go_wp2_with (at_builtin; (refine wpList_append_ents rfl (.tmp 31) (.tmp 32) rfl rfl w.heap.size i0 hi hz0 hz1 hz2 _ rfl l1 HO.out _ rfl _ l2 (H2.out.below HBW.out) N2.out (by have := HLEN.out; omega) HBW.out.size ?_); intro v5 w5 n5 hn hown hg _; have HO5 := Lib.hid (OwnE.app hn.out hown); have HB5 := Lib.hid (HBW.out.grown hg HBW.out.size (fun k e => (HO.out.lt k e).1)); clear hn hown hg)
          go_roundw
          case rel => exact ⟨HB5.out, .inr (.inr (.inl ⟨rfl, HO5.out⟩))⟩
          case measure => simp [intOf]
        · have HO := Lib.hid hO
          clear hO
          go_wp2_with (at_builtin; (refine wpList_append_ents rfl (.tmp 31) (.tmp 32) rfl rfl w.heap.size i0 hi hz0 hz1 hz2 _ rfl (l1 ++ l2) HO.out _ rfl _ l3 (H3.out.below HBW.out) N3.out (by have := HLEN.out; rw [List.length_append]; omega) HBW.out.size ?_); intro v5 w5 n5 hn hown hg _; have HO5 := Lib.hid (OwnE.app hn.out hown); have HB5 := Lib.hid (HBW.out.grown hg HBW.out.size (fun k e => (HO.out.lt k e).1)); clear hn hown hg)
          go_roundw
          case rel => exact ⟨HB5.out, .inr (.inr (.inr ⟨rfl, HO5.out⟩))⟩
          case measure => simp [intOf]
        · have HO := Lib.hid hO
          clear hO
          go_wp2
          go_ret
          exact ⟨_, rfl, HO.out, HBW.out⟩
end Go.Proofs.Ytpihncafmjbccaa

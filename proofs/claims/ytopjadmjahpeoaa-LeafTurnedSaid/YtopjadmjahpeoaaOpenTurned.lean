/-
  LeafTurned's argument: a struct that holds a struct and four bytes.
  Conditions: none.
-/
import Derived.Test.YtopjadmjahpeoaaLeafLaw
namespace Go.Proofs.Ytopjadmjahpeoaa
open Go.ChangeShapes Go.WideShapes Go.ChangeAt Go.RowKit Go.Deep

/-- A leaf, its size, which bits of four bytes are turned. -/
structure TurnP where
  size : Int
  leaf : LeafP
  at_ : BitVec 16
  t0 : BitVec 8
  t1 : BitVec 8
  t2 : BitVec 8
  t3 : BitVec 8
def TurnP.cells (x : TurnP) : Array Value := #[.int .i64 x.size, .int .i64 x.leaf.kind, .int .i64 x.leaf.place, .int .i64 x.leaf.stamp, .string (strB x.leaf.load), .int .u16 (U x.at_), .int .u8 (U x.t0), .int .u8 (U x.t1), .int .u8 (U x.t2), .int .u8 (U x.t3)]
section
variable {H : Type} {enc : TypeId × Value → H}
set_option maxRecDepth 100000 in
theorem u8_cellv {W : World} {n : Nat} {u : Value} {y : DataW H × List MemPlace} (h : DataW.trod enc Try.prog W 0 (fun _ => true) true n 5 [u] = some y) : ∃ x : BitVec 8, u = .int .u8 (U x) := by
  obtain ⟨k, e1, _, hw⟩ := DataW.trod_int Try.underlying5 h
  obtain ⟨x, rfl⟩ := wf_u8 hw
  exact ⟨x, by simpa using e1⟩
set_option maxRecDepth 100000 in
theorem u16_cellv {W : World} {n : Nat} {u : Value} {y : DataW H × List MemPlace} (h : DataW.trod enc Try.prog W 0 (fun _ => true) true n 59 [u] = some y) : ∃ x : BitVec 16, u = .int .u16 (U x) := by
  obtain ⟨k, e1, _, hw⟩ := DataW.trod_int Try.underlying59 h
  obtain ⟨x, rfl⟩ := wf_u16 hw
  exact ⟨x, by simpa using e1⟩
set_option maxRecDepth 100000 in
theorem open_turned {W : World} {base : Nat} {v : Value} {d : DataW H} {p : List MemPlace} (o : Value.okWide Try.prog W .any base 62 v) (h : DataW.Trod enc Try.prog W 0 (fun _ => true) true 62 v d p) : ∃ q : TurnP, v = .agg q.cells ∧ q.leaf.wf := by
  obtain ⟨cs, rfl, hsz⟩ := okWide_struct Try.underlying62 o
  have h10 : Try.prog.cellsOf 62 = 10 := by kernel_rfl
  have h1 : Try.prog.cellsOf 3 = 1 := by kernel_rfl
  have h4 : Try.prog.cellsOf 23 = 4 := by kernel_rfl
  have h16 : Try.prog.cellsOf 59 = 1 := by kernel_rfl
  have h84 : Try.prog.cellsOf 60 = 4 := by kernel_rfl
  have h8 : Try.prog.cellsOf 5 = 1 := by kernel_rfl
  have hst : Try.prog.cellsOf 9 = 1 := by kernel_rfl
  rw [h10] at hsz
  obtain ⟨l⟩ := cs
  have hl : l.length = 10 := hsz
  obtain ⟨fuel, hf⟩ := h
  obtain ⟨xs, n, _, hx, _, hlen, hg⟩ := DataW.trod_struct Try.underlying62 hf
  match l, hl with
  | [c0, c1, c2, c3, c4, c5, c6, c7, c8, c9], _ =>
    match xs, hlen with
    | [x0, x1, x2, x3], _ =>
      have g0 := (show DataW.trod enc Try.prog W 0 (fun _ => true) true n 3 (([c0, c1, c2, c3, c4, c5, c6, c7, c8, c9] : List Value).drop 0 |>.take (Try.prog.cellsOf 3)) = some x0 from hg 0 _ rfl)
      have g1 := (show DataW.trod enc Try.prog W 0 (fun _ => true) true n 23 (([c0, c1, c2, c3, c4, c5, c6, c7, c8, c9] : List Value).drop 1 |>.take (Try.prog.cellsOf 23)) = some x1 from hg 1 _ rfl)
      have g2 := (show DataW.trod enc Try.prog W 0 (fun _ => true) true n 59 (([c0, c1, c2, c3, c4, c5, c6, c7, c8, c9] : List Value).drop 5 |>.take (Try.prog.cellsOf 59)) = some x2 from hg 2 _ rfl)
      have g3 := (show DataW.trod enc Try.prog W 0 (fun _ => true) true n 60 (([c0, c1, c2, c3, c4, c5, c6, c7, c8, c9] : List Value).drop 6 |>.take (Try.prog.cellsOf 60)) = some x3 from hg 3 _ rfl)
      rw [h1] at g0
      rw [h4] at g1
      rw [h16] at g2
      rw [h84] at g3
      obtain ⟨i0, rfl, w0⟩ := int_cellv (show DataW.trod enc Try.prog W 0 (fun _ => true) true n 3 [c0] = some x0 from g0)
      obtain ⟨b2, rfl⟩ := u16_cellv (show DataW.trod enc Try.prog W 0 (fun _ => true) true n 59 [c5] = some x2 from g2)
      obtain ⟨ys, m, _, _, _, hly, hgy⟩ := DataW.trod_struct Try.underlying23 (show DataW.trod enc Try.prog W 0 (fun _ => true) true n 23 [c1, c2, c3, c4] = some x1 from g1)
      obtain ⟨zs, k, _, _, _, hlz, hgz⟩ := DataW.trod_array Try.underlying60 (show DataW.trod enc Try.prog W 0 (fun _ => true) true n 60 [c6, c7, c8, c9] = some x3 from g3)
      match ys, hly with
      | [y0, y1, y2, y3], _ =>
        match zs, hlz with
        | [z0, z1, z2, z3], _ =>
          have k0 := (show DataW.trod enc Try.prog W 0 (fun _ => true) true m 3 (([c1, c2, c3, c4] : List Value).drop 0 |>.take (Try.prog.cellsOf 3)) = some y0 from hgy 0 _ rfl)
          have k1 := (show DataW.trod enc Try.prog W 0 (fun _ => true) true m 3 (([c1, c2, c3, c4] : List Value).drop 1 |>.take (Try.prog.cellsOf 3)) = some y1 from hgy 1 _ rfl)
          have k2 := (show DataW.trod enc Try.prog W 0 (fun _ => true) true m 3 (([c1, c2, c3, c4] : List Value).drop 2 |>.take (Try.prog.cellsOf 3)) = some y2 from hgy 2 _ rfl)
          have k3 := (show DataW.trod enc Try.prog W 0 (fun _ => true) true m 9 (([c1, c2, c3, c4] : List Value).drop 3 |>.take (Try.prog.cellsOf 9)) = some y3 from hgy 3 _ rfl)
          rw [h1] at k0 k1 k2
          rw [hst] at k3
          obtain ⟨a0, rfl, u0⟩ := int_cellv (show DataW.trod enc Try.prog W 0 (fun _ => true) true m 3 [c1] = some y0 from k0)
          obtain ⟨a1, rfl, u1⟩ := int_cellv (show DataW.trod enc Try.prog W 0 (fun _ => true) true m 3 [c2] = some y1 from k1)
          obtain ⟨a2, rfl, u2⟩ := int_cellv (show DataW.trod enc Try.prog W 0 (fun _ => true) true m 3 [c3] = some y2 from k2)
          obtain ⟨ld, rfl, u3⟩ := str_cellv (show DataW.trod enc Try.prog W 0 (fun _ => true) true m 9 [c4] = some y3 from k3)
          have e0 := hgz 0 (by decide)
          have e1 := hgz 1 (by decide)
          have e2 := hgz 2 (by decide)
          have e3 := hgz 3 (by decide)
          rw [h8] at e0 e1 e2 e3
          obtain ⟨t0, rfl⟩ := u8_cellv (show DataW.trod enc Try.prog W 0 (fun _ => true) true k 5 [c6] = some z0 from e0)
          obtain ⟨t1, rfl⟩ := u8_cellv (show DataW.trod enc Try.prog W 0 (fun _ => true) true k 5 [c7] = some z1 from e1)
          obtain ⟨t2, rfl⟩ := u8_cellv (show DataW.trod enc Try.prog W 0 (fun _ => true) true k 5 [c8] = some z2 from e2)
          obtain ⟨t3, rfl⟩ := u8_cellv (show DataW.trod enc Try.prog W 0 (fun _ => true) true k 5 [c9] = some z3 from e3)
          exact ⟨⟨i0, ⟨a0, a1, a2, ld⟩, b2, t0, t1, t2, t3⟩, rfl, ⟨u0, u1, u2, u3⟩⟩
end
end Go.Proofs.Ytopjadmjahpeoaa

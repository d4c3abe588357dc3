/-
  Two heads of unlike turns, saved by turns: which are told.
  Conditions: none.
-/
import Derived.Test.YthdnpomfjhehkaaSup15
namespace Go.Proofs.Ythdnpomfjhehkaa
open Go.RowKit

theorem two_told {d : Dev} (hu : d.Up) (hs : d.sectors = 60) (hz : d.size = 96) {x y : HeadP} (hx : x.err = 0) (hy : y.err = 0) (wx : x.Wf) (wy : y.Wf) (px : x.plan = smallP) (py : y.plan = smallP) (gx : x.gen % 2 = 1) (gy : y.gen % 2 = 0)
    (c0 : d.cur 0 = y.sector 96) (c1 : d.cur 1 = x.sector 96) : headsTo d 2 = [y, x] := by
  have o0 : smallP.ofDev (Dev.new 60 96) = true := by decide
  have o1 : smallP.ofDev d = true := (ofDev_same (by rw [hs]; rfl) (by rw [hz]; rfl)).trans o0
  obtain ⟨i1, i2⟩ := in_of_cur (d := d) hu (x := y) hy wy (by rw [py]; exact o1) (i := 0) gy (by rw [hz]; exact c0)
  obtain ⟨j1, j2⟩ := in_of_cur (d := d) hu (x := x) hx wx (by rw [px]; exact o1) (i := 1) gx (by rw [hz]; exact c1)
  unfold headsTo
  rw [if_pos j1, j2]
  unfold headsTo
  rw [if_pos i1, i2]
  rfl
/-- The devices behind each save. -/
def nw1 (x : HeadP) : Dev := (Dev.new 60 96).saved x
def nw2 (x y : HeadP) : Dev := (nw1 x).saved y
def nw3 (x y : HeadP) : Dev := (nw2 x y).saved x
theorem newest_first {x : HeadP} (hx : x.err = 0) (px : x.plan = smallP) : saveErr (Dev.new 60 96) x = 0 := (saved_up new_up hx (by rw [px]; decide)).1
theorem newest_not {d : Dev} {x : HeadP} (hx : x.err ≠ 0) : saveErr d x = x.err := by unfold saveErr; rw [if_neg hx]
theorem newest_all {x y : HeadP} (hx : x.err = 0) (hy : y.err = 0) (wx : x.Wf) (wy : y.Wf) (px : x.plan = smallP) (py : y.plan = smallP) (gx : x.gen % 2 = 1) (gy : y.gen % 2 = 0) :
    saveErr (nw1 x) y = 0 ∧ saveErr (nw2 x y) x = 0 ∧ (nw2 x y).down = false ∧ (nw3 x y).down = false ∧ headsTo (nw2 x y) 2 = [y, x] ∧ headsTo (nw3 x y) 2 = [y, x] := by
  have o0 : smallP.ofDev (Dev.new 60 96) = true := by decide
  obtain ⟨a1, a2, a3, a4, a5⟩ := saved_up new_up (x := x) hx (by rw [px]; exact o0)
  have o1 : smallP.ofDev (nw1 x) = true := (ofDev_same a3 a4).trans o0
  obtain ⟨b1, b2, b3, b4, b5⟩ := saved_up (d := nw1 x) a2 (x := y) hy (by rw [py]; exact o1)
  have o2 : smallP.ofDev (nw2 x y) = true := (ofDev_same b3 b4).trans o1
  obtain ⟨e1, e2, e3, e4, e5⟩ := saved_up (d := nw2 x y) b2 (x := x) hx (by rw [px]; exact o2)
  have s1 : (nw1 x).size = 96 := a4
  have s2 : (nw2 x y).size = 96 := b4.trans a4
  have s3 : (nw3 x y).size = 96 := e4.trans s2
  have t2 : (nw2 x y).sectors = 60 := b3.trans a3
  have t3 : (nw3 x y).sectors = 60 := e3.trans t2
  have nx : (x.gen % 2).toNat = 1 := by rw [gx]; rfl
  have ny : (y.gen % 2).toNat = 0 := by rw [gy]; rfl
  have c0 : (nw2 x y).cur 0 = y.sector 96 := by
    have := b5 0
    rw [ny, if_pos rfl, s1] at this
    exact this
  have c1 : (nw2 x y).cur 1 = x.sector 96 := by
    have h1 := b5 1
    rw [ny, if_neg (by decide)] at h1
    have h2 := a5 1
    rw [nx, if_pos rfl] at h2
    exact h1.trans h2
  have c2 : (nw3 x y).cur 0 = y.sector 96 := by
    have h1 := e5 0
    rw [nx, if_neg (by decide)] at h1
    exact h1.trans c0
  have c3 : (nw3 x y).cur 1 = x.sector 96 := by
    have := e5 1
    rw [nx, if_pos rfl, s2] at this
    exact this
  exact ⟨b1, e1, b2.down, e2.down, two_told b2 t2 s2 hx hy wx wy px py gx gy c0 c1, two_told e2 t3 s3 hx hy wx wy px py gx gy c2 c3⟩
/-- The one with the greater generation, and the other. -/
def newer (x y : HeadP) : HeadP := if y.gen < x.gen then x else y
def older (x y : HeadP) : HeadP := if y.gen < x.gen then y else x
theorem newest_sort (x y : HeadP) : sortH [y, x] = [newer x y, older x y] := by
  rw [sortH_two]
  unfold newer older
  split <;> rfl
theorem newest_gens {x y : HeadP} (gx : x.gen % 2 = 1) (gy : y.gen % 2 = 0) : (newer x y).gen = max x.gen y.gen ∧ (older x y).gen < (newer x y).gen := by
  unfold newer older
  split <;> constructor <;> omega
end Go.Proofs.Ythdnpomfjhehkaa

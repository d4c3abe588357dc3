/-
  What script's read reads; its blocks.
  Conditions: none.
-/
import Derived.Test.YtgaabclgoolalaaRdB
namespace Go.Proofs.Ytgaabclgoolalaa
open Go.RowKit
attribute [local go_sem] Oper.semAt_some

/-- An int of eight bytes. -/
def toI (x : BitVec 64) : Int := wrap64 (U x)
def rNums : Nat → RSt → List Int × RSt
  | 0, s => ([], s)
  | n + 1, s => ((rNums n s).1 ++ [toI (rNum (rNums n s).2 8).1], (rNum (rNums n s).2 8).2)
theorem rNums_len (s : RSt) : ∀ n, (rNums n s).2.1.length ≤ s.1.length
  | 0 => Nat.le_refl _
  | n + 1 => Nat.le_trans (rNum_len _ _) (rNums_len s n)
theorem rNums_size (s : RSt) : ∀ n, (rNums n s).1.length = n
  | 0 => rfl
  | n + 1 => by
    show ((rNums n s).1 ++ [_]).length = _
    rw [List.length_append, rNums_size s n]; rfl
/-- What is read of an act whose kind's number is read. -/
def readS (k v u c : Bool) (l : Nat) (kind : Int) (s : RSt) : SAct × RSt :=
  let a := if k then rTxt s else ([], s)
  let b := if v then rTxt a.2 else ([], a.2)
  let d := if u then (toI (rNum b.2 8).1, (rNum b.2 8).2) else (0, b.2)
  let n := if c then ((U (rNum d.2 1).1).toNat, (rNum d.2 1).2) else (l, d.2)
  let e := rNums n.1 n.2
  (⟨kind, a.1, b.1, d.1, e.1⟩, e.2)
/-- What read answers. -/
def ReadRet (n₀ R : Nat) (x : SAct) (s : RSt) (w : World) (e : Ending) (w' : World) : Prop := ∃ a1 c1 a2 c2 a3 c3, e = .returned (.agg #[.int .i64 x.kind, .slice a1 x.key.length c1, .slice a2 x.val.length c2, .int .i64 x.num, .slice a3 x.nums.length c3]) ∧ BytesT w' (.slice a1 x.key.length c1) x.key ∧ BytesT w' (.slice a2 x.val.length c2) x.val ∧ IntsT w' (.slice a3 x.nums.length c3) x.nums ∧ ReadB n₀ R s w' ∧ Moves (rS R) w w'
section
variable {n₀ : Nat} {w W W' : World} {R X : Nat} {wh : Array Value} {s s' : RSt} {x : SAct} {a1 a2 a3 : Option Addr} {c1 c2 c3 : Nat}
theorem TypeAt.turn {v : Value} {t t' : TypeId} {cs : Array Value} (h : TypeAt W v t) (hX : W.heap[X]? = some (.cells cs t' (0, 0))) (ht : t' ≠ t) (hm : Moves (fun k => k = X) W W') : TypeAt W' v t := fun g hg => by
  obtain ⟨cs', sp, h1⟩ := h g hg
  exact ⟨cs', sp, (hm.block g (blk_lt h1) (fun e => by
    subst e
    rw [hX] at h1
    cases h1
    exact ht rfl)).trans h1⟩
theorem BytesT.turn {v : Value} {bs : List (BitVec 8)} {t : TypeId} {cs : Array Value} (h : BytesT W v bs) (hX : W.heap[X]? = some (.cells cs t (0, 0))) (ht : t ≠ 5) (hm : Moves (fun k => k = X) W W') : BytesT W' v bs :=
  ⟨(hm.bytes h.1 (Nat.le_refl _) (fun _ k hk e => by
    obtain ⟨cs', sp, h1⟩ := h.2 k hk
    have e : k = X := e
    subst e
    rw [hX] at h1
    cases h1
    exact ht rfl)).mono hm.size, h.2.turn hX ht hm⟩
theorem IntsT.turn {v : Value} {l : List Int} {t : TypeId} {cs : Array Value} (h : IntsT W v l) (hX : W.heap[X]? = some (.cells cs t (0, 0))) (ht : t ≠ 3) (hm : Moves (fun k => k = X) W W') : IntsT W' v l :=
  ⟨h.1.keep hm.size (fun p hp hl => World.cell?_of_block (w := W) (hm.block p.block hl (fun e => by
    obtain ⟨cs', sp, h1⟩ := h.2 p.block hp
    have e : p.block = X := e
    rw [e, hX] at h1
    cases h1
    exact ht rfl))), h.2.turn hX ht hm⟩
theorem ReadB.turn (h : ReadB n₀ R s W) (hne : R ≠ X) (hX : n₀ ≤ X) (hn : n₀ ≤ W.heap.size) (hm : Moves (fun k => k = X) W W') : ReadB n₀ R s W' := by
  obtain ⟨h0, v, h, hv⟩ := h
  exact ⟨h0, v, (hm.block R (blk_lt h) hne).trans h, hm.bytes hv hn (fun hnil k hk e => by
    have e : k = X := e
    have := hv.lt hnil hk
    omega)⟩
end
end Go.Proofs.Ytgaabclgoolalaa

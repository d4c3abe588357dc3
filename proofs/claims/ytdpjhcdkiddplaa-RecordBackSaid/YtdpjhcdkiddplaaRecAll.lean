/-
  record.All: the records of bytes.
  Conditions: none.
-/
import Derived.Test.YtdpjhcdkiddplaaRec4F
import Derived.Test.YtdpjhcdkiddplaaRecsMath
import Derived.Test.YtdpjhcdkiddplaaScope
import Derived.Test.YtdpjhcdkiddplaaSeen
import Derived.Maps.OwnIn
namespace Go.Proofs.Ytdpjhcdkiddplaa
open Go.RowKit Go.Shelf
attribute [local go_sem] Oper.semAt_some

/-- A record as it lies in memory. -/
structure RX where
  r : RecP
  au : Option Addr
  nu : Nat
  cu : Nat
  av : Option Addr
  nv : Nat
  cv : Nat
def RX.u (x : RX) : Value := .slice x.au x.nu x.cu
def RX.v (x : RX) : Value := .slice x.av x.nv x.cv
def RX.cells (x : RX) : Array Value := #[.slice x.au x.nu x.cu, .slice x.av x.nv x.cv, .int .i64 x.r.fin]
def rows (xs : List RX) : List Value := xs.flatMap fun x => x.cells.toList
theorem rows_len (xs : List RX) : (rows xs).length = 3 * xs.length := by
  induction xs with
  | nil => rfl
  | cons x xs ih => rw [rows, List.flatMap_cons, List.length_append]; rw [rows] at ih; rw [ih, List.length_cons]; show 3 + _ = _; omega
theorem rows_snoc (xs : List RX) (x : RX) : rows (xs ++ [x]) = rows xs ++ x.cells.toList := by
  rw [rows, List.flatMap_append, List.flatMap_cons, List.flatMap_nil, List.append_nil]; rfl
theorem RX.one (x : RX) : ∀ u ∈ x.cells.toList, u.oneCell' = true := by
  intro u hu
  have : u = .slice x.au x.nu x.cu ∨ u = .slice x.av x.nv x.cv ∨ u = .int .i64 x.r.fin := by simpa [RX.cells] using hu
  rcases this with rfl | rfl | rfl <;> rfl
def RX.Good (W : World) (x : RX) : Prop := BytesAt W.heap.size W x.u x.r.key ∧ BytesAt W.heap.size W x.v x.r.val
theorem BytesAt.keepsAt {S : Nat → Prop} {n m : Nat} {W W' : World} {u : Value} {bs : List (BitVec 8)} (h : BytesAt n W u bs) (hk : KeepsAt S W W') (hs : bs ≠ [] → ∀ k, u.ownBlock = some k → S k) (hm : n ≤ m) : BytesAt m W' u bs := by
  obtain ⟨a, cap, rfl, hl, h0, h⟩ := h
  refine ⟨a, cap, rfl, hl, h0, ?_⟩
  by_cases hne : bs = []
  · exact .inl hne
  · rcases h with h | ⟨g, off, rfl, hg, hc⟩
    · exact .inl h
    · exact .inr ⟨g, off, rfl, Nat.lt_of_lt_of_le hg hm, fun j hj => hk.cell (p := ⟨g, off + j, none⟩) (hs hne g rfl) (hc j hj)⟩
/-- What a round finds: the list in its box. -/
def AllPre (n₀ Bx : Nat) (s : List RX × Value) (W : World) : Prop := Boxed W Bx 35 s.2 ∧ W.ownsRow n₀ 30 3 s.2 s.1.length (rows s.1) ∧ s.1.length ≤ 1073741824 ∧ n₀ ≤ Bx
/-- What a round leaves. -/
def AllBody (n₀ Bx : Nat) (s : List RX × Value) (x : RX) (W W' : World) : Prop := ∃ v', Boxed W' Bx 35 v' ∧ W'.ownsRow n₀ 30 3 v' (s.1 ++ [x]).length (rows (s.1 ++ [x])) ∧ Below n₀ W W' ∧
  KeepsAt (fun i => i ≠ Bx ∧ s.2.ownBlock ≠ some i) W W' ∧ (v'.ownBlock = s.2.ownBlock ∨ ∃ k, v'.ownBlock = some k ∧ W.heap.size ≤ k)
/-- What is there at the end. -/
def AllS (n₀ Bx : Nat) (bs : List (BitVec 8)) (w W : World) : Prop := ∃ (xs : List RX) (v : Value), xs.map RX.r = recs bs ∧ Boxed W Bx 35 v ∧ W.ownsRow n₀ 30 3 v xs.length (rows xs) ∧ (∀ x ∈ xs, x.Good W) ∧ Below n₀ w W
theorem boxed_put {W : World} {B l : Nat} {t : TypeId} {v : Value} {o : Obj} (h : Boxed W B t v) (o' : Obj) (hl : W.heap[l]? = some o) (ho : o.isCells = false) : Boxed (W.putObj l o') B t v := KeepsAt.put (S := fun _ => True) W l o o' hl ho B trivial _ _ _ h
theorem AllPre.turn {n₀ Bx : Nat} {s : List RX × Value} {W : World} {l : Nat} {o o' v : Obj} (hl : W.heap[l]? = some o) (ho : o.isCells = false) (h : AllPre n₀ Bx s W) : AllPre n₀ Bx s ((W.alloc v).putObj l o') := by
  obtain ⟨h1, h2, h3, h4⟩ := h
  have hl2 : (W.alloc v).heap[l]? = some o := (Below.heap_alloc W _ _ (Array.getElem?_eq_some_iff.1 hl).1).trans hl
  exact ⟨boxed_put (h1.alloc v) o' hl2 ho, ownsRow_putObj (h2.alloc v) o' hl2 ho, h3, h4⟩
theorem AllBody.turn {n₀ Bx : Nat} {s : List RX × Value} {x : RX} {W W' : World} {l : Nat} {o o1 o2 o' c : Obj} (hn : n₀ ≤ l) (hl : W.heap[l]? = some o) (ho : o.isCells = false) (hl' : W'.heap[l]? = some o1) (ho1 : o1.isCells = false)
    (h : AllBody n₀ Bx s x ((W.alloc c).putObj l o2) W') : AllBody n₀ Bx s x W (W'.putObj l o') := by
  obtain ⟨v', h1, h2, h3, h4, h5⟩ := h
  have hlt := (Array.getElem?_eq_some_iff.1 hl).1
  have hl2 : (W.alloc c).heap[l]? = some o := (Below.heap_alloc W _ _ hlt).trans hl
  have b1 : Below n₀ W ((W.alloc c).putObj l o2) := ((Below.refl n₀ W).alloc (by omega) c).grown (grownBy_putObj' _ l o2) (by simp; omega) (fun k e => by cases e; exact hn)
  have b2 : Below n₀ W' (W'.putObj l o') := (Below.refl n₀ W').grown (grownBy_putObj' _ l o') (by have := (Array.getElem?_eq_some_iff.1 hl').1; omega) (fun k e => by cases e; exact hn)
  refine ⟨v', boxed_put h1 o' hl' ho1, ownsRow_putObj h2 o' hl' ho1, (b1.trans h3).trans b2, ((KeepsAt.alloc W c).trans (KeepsAt.put _ l o o2 hl2 ho)).trans (h4.trans (KeepsAt.put _ l o1 o' hl' ho1)), ?_⟩
  rcases h5 with h5 | ⟨k, e, hk⟩
  · exact .inl h5
  · exact .inr ⟨k, e, by rw [World.putObj_size, World.size_alloc] at hk; omega⟩
theorem AllS.turn {n₀ Bx : Nat} {bs : List (BitVec 8)} {w W : World} {l : Nat} {o o' : Obj} (hn : n₀ ≤ l) (hl : W.heap[l]? = some o) (ho : o.isCells = false) (h : AllS n₀ Bx bs w W) : AllS n₀ Bx bs w (W.putObj l o') := by
  obtain ⟨xs, v, h1, h2, h3, h4, h5⟩ := h
  have b2 : Below n₀ W (W.putObj l o') := (Below.refl n₀ W).grown (grownBy_putObj' _ l o') (by have := (Array.getElem?_eq_some_iff.1 hl).1; omega) (fun k e => by cases e; exact hn)
  refine ⟨xs, v, h1, boxed_put h2 o' hl ho, ownsRow_putObj h3 o' hl ho, fun x hx => ?_, h5.trans b2⟩
  have hk := KeepsAt.put (S := fun _ => True) W l o o' hl ho
  exact ⟨(h4 x hx).1.keepsAt hk (fun _ _ _ => trivial) (by simp), (h4 x hx).2.keepsAt hk (fun _ _ _ => trivial) (by simp)⟩
end Go.Proofs.Ytdpjhcdkiddplaa

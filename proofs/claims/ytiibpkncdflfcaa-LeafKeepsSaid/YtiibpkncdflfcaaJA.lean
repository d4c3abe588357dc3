/-
  Joined: Base, Moves, Mem, Clone, Range.
  Conditions: none.
-/
import Derived.WalkKit
import Derived.WalkSpells
import Derived.WalkLawsBesides
import Derived.Below
import Derived.Laws.OwnMore
import Derived.Lib.Hide
import Derived.Test.YtiibpkncdflfcaaRows
import Derived.Laws.BytesArg
import Derived.Deep.Draws
import Derived.Deep.Slices
import Derived.Maps.AppendAt
import Derived.Laws.AppendOwnNone
import Derived.RegionTactic
import Derived.RangeFuncBox
import Derived.RangeFuncNested
import Derived.RangeFuncBound
import Derived.RangeFuncCalls
import Derived.RangeFuncLeaves
import Derived.Shelf.Abstract
import Derived.OwnWalkIn
import Derived.TacticsInMore
import Derived.LoopNIn
import Derived.LoopIn
import Derived.Deep.QuietTactic
import Derived.BigQuiet
import Derived.Laws.CopyRow
import Derived.Laws.CopyOwn
namespace Go.Proofs.Ytiibpkncdflfcaa
open Go.RowKit

/-- A word of n bits, as the number that stands in a cell. -/
def U {n : Nat} (x : BitVec n) : Int := (x.toNat : Int)

theorem U_nonneg {n : Nat} (x : BitVec n) : 0 ≤ U x := Int.natCast_nonneg _
theorem U_lt {n : Nat} (x : BitVec n) : U x < 2 ^ n := by
  unfold U; exact_mod_cast x.isLt
theorem U_inj {n : Nat} {x y : BitVec n} : U x = U y ↔ x = y := by
  unfold U
  constructor
  · intro h; exact BitVec.eq_of_toNat_eq (by exact_mod_cast h)
  · rintro rfl; rfl
theorem U_beq {n : Nat} (x y : BitVec n) : (U x == U y) = decide (x = y) := by
  rw [Bool.eq_iff_iff]; simp [U_inj]
theorem U_mk {n : Nat} {i : Int} (h0 : 0 ≤ i) (h1 : i < 2 ^ n) : ∃ x : BitVec n, i = U x := by
  refine ⟨BitVec.ofNat n i.toNat, ?_⟩
  unfold U
  obtain ⟨m, rfl⟩ := Int.eq_ofNat_of_zero_le h0
  have : m < 2 ^ n := by exact_mod_cast h1
  simp [Nat.mod_eq_of_lt this]
theorem U_ofNat {n : Nat} {m : Nat} (h : m < 2 ^ n) : (m : Int) = U (BitVec.ofNat n m) := by
  unfold U; simp [Nat.mod_eq_of_lt h]

theorem wf_u8 {i : Int} (h : (Lit.int .u8 i).wf = true) : ∃ x : BitVec 8, i = U x := by
  have := h; simp [Lit.wf, IntKind.min, IntKind.max, IntKind.bits, IntKind.signed] at this
  exact U_mk (by omega) (by omega)
theorem wf_u16 {i : Int} (h : (Lit.int .u16 i).wf = true) : ∃ x : BitVec 16, i = U x := by
  have := h; simp [Lit.wf, IntKind.min, IntKind.max, IntKind.bits, IntKind.signed] at this
  exact U_mk (by omega) (by omega)
theorem wf_u32 {i : Int} (h : (Lit.int .u32 i).wf = true) : ∃ x : BitVec 32, i = U x := by
  have := h; simp [Lit.wf, IntKind.min, IntKind.max, IntKind.bits, IntKind.signed] at this
  exact U_mk (by omega) (by omega)
theorem wf_u64 {i : Int} (h : (Lit.int .u64 i).wf = true) : ∃ x : BitVec 64, i = U x := by
  have := h; simp [Lit.wf, IntKind.min, IntKind.max, IntKind.bits, IntKind.signed] at this
  exact U_mk (by omega) (by omega)

/-! What the operations do -/
theorem ofInt_U {n : Nat} (x : BitVec n) : BitVec.ofInt n (U x) = x := by
  unfold U; simp
theorem wrap_u8_U (x : BitVec 8) : IntKind.u8.wrap (U x) = U x := by
  have := U_nonneg x; have := U_lt x; simp [IntKind.wrap, IntKind.bits, IntKind.signed]; omega
theorem wrap_u32_U (x : BitVec 32) : IntKind.u32.wrap (U x) = U x := by
  have := U_nonneg x; have := U_lt x; simp [IntKind.wrap, IntKind.bits, IntKind.signed]; omega
theorem wrap_u64_U (x : BitVec 64) : IntKind.u64.wrap (U x) = U x := by
  have := U_nonneg x; have := U_lt x; simp [IntKind.wrap, IntKind.bits, IntKind.signed]; omega

theorem xor_u8 (x y : BitVec 8) : bits .xor .u8 (U x) (U y) = U (x ^^^ y) := by
  show IntKind.u8.wrap (((BitVec.ofInt 8 (U x)) ^^^ (BitVec.ofInt 8 (U y))).toNat : Int) = _
  rw [ofInt_U, ofInt_U]; exact wrap_u8_U (x ^^^ y)
theorem xor_u32 (x y : BitVec 32) : bits .xor .u32 (U x) (U y) = U (x ^^^ y) := by
  show IntKind.u32.wrap (((BitVec.ofInt 32 (U x)) ^^^ (BitVec.ofInt 32 (U y))).toNat : Int) = _
  rw [ofInt_U, ofInt_U]; exact wrap_u32_U (x ^^^ y)
theorem xor_u64 (x y : BitVec 64) : bits .xor .u64 (U x) (U y) = U (x ^^^ y) := by
  show IntKind.u64.wrap (((BitVec.ofInt 64 (U x)) ^^^ (BitVec.ofInt 64 (U y))).toNat : Int) = _
  rw [ofInt_U, ofInt_U]; exact wrap_u64_U (x ^^^ y)
theorem and_u32 (x y : BitVec 32) : bits .and .u32 (U x) (U y) = U (x &&& y) := by
  show IntKind.u32.wrap (((BitVec.ofInt 32 (U x)) &&& (BitVec.ofInt 32 (U y))).toNat : Int) = _
  rw [ofInt_U, ofInt_U]; exact wrap_u32_U (x &&& y)

theorem shr_U {n : Nat} (x : BitVec n) (k : Nat) (m : Int) (h : m = 2 ^ k) : U x / m = U (x >>> k) := by
  subst h; unfold U
  rw [BitVec.toNat_ushiftRight, Nat.shiftRight_eq_div_pow]; simp

theorem wrap_u64_mod (i : Int) : IntKind.u64.wrap i = U (BitVec.ofInt 64 i) := by
  unfold U
  rw [BitVec.toNat_ofInt]
  simp [IntKind.wrap, IntKind.bits, IntKind.signed]
  omega
theorem wrap_u32_mod (i : Int) : IntKind.u32.wrap i = U (BitVec.ofInt 32 i) := by
  unfold U
  rw [BitVec.toNat_ofInt]
  simp [IntKind.wrap, IntKind.bits, IntKind.signed]
  omega
theorem wrap_u8_mod (i : Int) : IntKind.u8.wrap i = U (BitVec.ofInt 8 i) := by
  unfold U
  rw [BitVec.toNat_ofInt]
  simp [IntKind.wrap, IntKind.bits, IntKind.signed]
  omega
theorem mul_u64 (x : BitVec 64) (c : Int) : IntKind.u64.wrap (U x * c) = U (x * BitVec.ofInt 64 c) := by
  rw [wrap_u64_mod, BitVec.ofInt_mul, ofInt_U]
theorem add_u64 (x : BitVec 64) (c : Int) : IntKind.u64.wrap (U x + c) = U (x + BitVec.ofInt 64 c) := by
  rw [wrap_u64_mod, BitVec.ofInt_add, ofInt_U]

end Go.Proofs.Ytiibpkncdflfcaa
namespace Go.Proofs.Ytiibpkncdflfcaa
open Go.RowKit

/-- From w to w' no block that was there has turned but those of S. -/
structure Moves (S : Nat → Prop) (w w' : World) : Prop where
  os : w'.os = w.os
  tape : w'.tape = w.tape
  output : w'.output = w.output
  size : w.heap.size ≤ w'.heap.size
  block : ∀ k, k < w.heap.size → ¬ S k → w'.heap[k]? = w.heap[k]?
section
variable {S T : Nat → Prop} {a b c w w' : World}
theorem Moves.refl (S : Nat → Prop) (w : World) : Moves S w w := ⟨rfl, rfl, rfl, Nat.le_refl _, fun _ _ _ => rfl⟩
theorem Moves.trans (h : Moves S a b) (k : Moves T b c) (hT : ∀ i, i < a.heap.size → T i → S i) : Moves S a c :=
  ⟨k.os.trans h.os, k.tape.trans h.tape, k.output.trans h.output, Nat.le_trans h.size k.size,
    fun i hi hs => (k.block i (Nat.lt_of_lt_of_le hi h.size) (fun ht => hs (hT i hi ht))).trans (h.block i hi hs)⟩
theorem Moves.mono (h : Moves S a b) (hS : ∀ i, i < a.heap.size → S i → T i) : Moves T a b := (Moves.refl T a).trans h hS
theorem Moves.of_below (h : Below a.heap.size a b) : Moves S a b := ⟨h.os, h.tape, h.output, h.size, fun i hi _ => h.block i hi⟩
theorem Moves.of_grown {row : Option Nat} (h : a.grownBy b row) (hS : ∀ k, row = some k → S k) : Moves S a b :=
  ⟨h.os, h.tape, h.output, h.size, fun i hi hs => h.block i hi (fun e => hs (hS i e.symm))⟩
theorem Moves.alloc (h : Moves S a b) (o : Obj) : Moves S a (b.alloc o) :=
  h.trans (T := fun _ => False) ⟨rfl, rfl, rfl, by simp, fun k hk _ => Below.heap_alloc _ _ _ hk⟩ (fun _ _ h => h.elim)
theorem Moves.setCell (h : Moves S a b) {p : Addr} (hp : p.block < a.heap.size → S p.block) (u : Value) : Moves S a (b.setCell p u) :=
  h.trans (T := fun k => k = p.block) ⟨rfl, rfl, rfl, by simp [World.setCell], fun k _ hk => Below.heap_setCell _ _ _ _ hk⟩ (fun i hi e => by rw [e] at hi ⊢; exact hp hi)
theorem Moves.drewN (h : Moves S a b) (k : Nat) : Moves S a (b.drewN k) := ⟨h.os, h.tape, h.output, h.size, h.block⟩
theorem Moves.drew (h : Moves S a b) : Moves S a b.drew := ⟨h.os, h.tape, h.output, h.size, h.block⟩
theorem Moves.below {B : Nat} (h : Moves S a b) (hS : ∀ i, S i → B ≤ i) (hB : B ≤ a.heap.size) : Below B a b :=
  ⟨h.os, h.tape, h.output, h.size, fun i hi => h.block i (by omega) (fun hs => by have := hS i hs; omega)⟩
theorem Moves.cell (h : Moves S a b) {p : Addr} (hp : p.block < a.heap.size) (hs : ¬ S p.block) : b.cell? p = a.cell? p := World.cell?_of_block (w := a) (h.block p.block hp hs)
theorem Moves.frozen (h : Moves S a b) {p : Addr} (hp : p.block < a.heap.size) (hs : ¬ S p.block) : b.frozen? p = a.frozen? p := World.frozen?_of_block (w := a) (h.block p.block hp hs)
theorem Moves.row {base : Nat} {e : TypeId} {size : Nat} {v : Value} {n : Nat} {xs : List Value} (h : Moves S a b) (hr : a.ownsRow base e size v n xs) (hs : ∀ k, v.ownBlock = some k → ¬ S k) : b.ownsRow base e size v n xs := by
  obtain ⟨h1, h2⟩ := hr
  refine ⟨h1, ?_⟩
  rcases h2 with h2 | ⟨g, cap, cur, rfl, hg, hh, r⟩
  · exact .inl h2
  · exact .inr ⟨g, cap, cur, rfl, hg, (h.block g (Array.getElem?_eq_some_iff.1 hh).1 (hs g rfl)).trans hh, r⟩
end

/-! A block that is known whole -/
theorem blk_lt {w : World} {g : Nat} {o : Obj} (h : w.heap[g]? = some o) : g < w.heap.size := (Array.getElem?_eq_some_iff.1 h).1
theorem blk_cell {w : World} {g : Nat} {cs : Array Value} {t : TypeId} (h : w.heap[g]? = some (.cells cs t (0, 0))) (i : Nat) : w.cell? ⟨g, i, none⟩ = cs[i]? := cell_of_row w g i cs t (0, 0) h
theorem blk_frozen {w : World} {g : Nat} {cs : Array Value} {t : TypeId} (h : w.heap[g]? = some (.cells cs t (0, 0))) (i : Nat) : w.frozen? ⟨g, i, none⟩ = false := by simp [World.frozen?, h]
theorem blk_set {w : World} {g : Nat} {cs : Array Value} {t : TypeId} (h : w.heap[g]? = some (.cells cs t (0, 0))) (i : Nat) (u : Value) : (w.setCell ⟨g, i, none⟩ u).heap[g]? = some (.cells (cs.setIfInBounds i u) t (0, 0)) := by
  simp [World.setCell, Array.getElem?_modify, h]
theorem blk_ne {w : World} {g g' : Nat} {cs cs' : Array Value} {t t' : TypeId} (h : w.heap[g]? = some (.cells cs t (0, 0))) (h' : w.heap[g']? = some (.cells cs' t' (0, 0))) (hne : t ≠ t') : g ≠ g' := by
  rintro rfl
  rw [h] at h'
  simp only [Option.some.injEq, Obj.cells.injEq] at h'
  exact hne h'.2.1
theorem own_ne {w : World} {base g : Nat} {e t : TypeId} {size n : Nat} {v : Value} {xs : List Value} {cs : Array Value} (h : w.ownsRow base e size v n xs) (hg : w.heap[g]? = some (.cells cs t (0, 0))) (hne : e ≠ t) : v.ownBlock ≠ some g := by
  rcases h.2 with ⟨rfl, _⟩ | ⟨g', cap, cur, rfl, _, hh, _⟩
  · simp [Value.ownBlock]
  · intro he
    obtain rfl : g' = g := by simpa [Value.ownBlock] using he
    exact blk_ne hh hg hne rfl
theorem owns_slice {w : World} {base : Nat} {e : TypeId} {size n : Nat} {v : Value} {xs : List Value} (h : w.ownsRow base e size v n xs) : ∃ a cap, v = .slice a n cap := by
  rcases h.2 with ⟨rfl, rfl⟩ | ⟨g, cap, cur, rfl, _⟩
  · exact ⟨_, _, rfl⟩
  · exact ⟨_, _, rfl⟩
theorem blk_keep {w w' : World} {g : Nat} {o : Obj} {row : Option Nat} (h : w.heap[g]? = some o) (hg : w.grownBy w' row) (hne : row ≠ some g) : w'.heap[g]? = some o := (hg.block g (blk_lt h) (fun e => hne e.symm)).trans h
theorem blk_alloc {w : World} {g : Nat} {o : Obj} (h : w.heap[g]? = some o) (o' : Obj) : (w.alloc o').heap[g]? = some o := (Below.heap_alloc w o' g (blk_lt h)).trans h
theorem world_drewN_cell (w : World) (k : Nat) (p : Addr) : (w.drewN k).cell? p = w.cell? p := rfl

end Go.Proofs.Ytiibpkncdflfcaa
namespace Go.Proofs.Ytiibpkncdflfcaa
open Go.RowKit

theorem add_plain (g off i : Nat) : (⟨g, off, none⟩ : Addr).add i = ⟨g, off + i, none⟩ := by unfold Addr.add; split <;> simp_all

/-- A slice value that reads as these bytes, in a block below n₀. -/
def BytesAt (n₀ : Nat) (w : World) (v : Value) (bs : List (BitVec 8)) : Prop :=
  ∃ a cap, v = .slice a bs.length cap ∧ bs.length ≤ cap ∧ (a = none → cap = 0) ∧ (bs = [] ∨ ∃ g off, a = some ⟨g, off, none⟩ ∧ g < n₀ ∧ ∀ j, j < bs.length → w.cell? ⟨g, off + j, none⟩ = some (.int .u8 (U (bs[j]?.getD 0))))
theorem BytesAt.keep {n₀ : Nat} {w w' : World} {v : Value} {bs : List (BitVec 8)} (h : BytesAt n₀ w v bs) (hk : bs ≠ [] → ∀ p : Addr, v.ownBlock = some p.block → p.block < n₀ → w'.cell? p = w.cell? p) : BytesAt n₀ w' v bs := by
  obtain ⟨a, cap, rfl, hl, h0, h⟩ := h
  refine ⟨a, cap, rfl, hl, h0, ?_⟩
  rcases h with h | ⟨g, off, rfl, hg, hc⟩
  · exact .inl h
  · exact .inr ⟨g, off, rfl, hg, fun j hj => (hk (fun e => by subst e; simp at hj) ⟨g, off + j, none⟩ rfl hg).trans (hc j hj)⟩
theorem BytesAt.below {n₀ : Nat} {w w' : World} (hb : Below n₀ w w') {v : Value} {bs : List (BitVec 8)} (h : BytesAt n₀ w v bs) : BytesAt n₀ w' v bs := h.keep fun _ _ _ hp => hb.cell hp
theorem BytesAt.mono {n₀ n₁ : Nat} (hn : n₀ ≤ n₁) {w : World} {v : Value} {bs : List (BitVec 8)} (h : BytesAt n₀ w v bs) : BytesAt n₁ w v bs := by
  obtain ⟨a, cap, rfl, hl, h0, h⟩ := h
  refine ⟨a, cap, rfl, hl, h0, ?_⟩
  rcases h with h | ⟨g, off, rfl, hg, hc⟩
  · exact .inl h
  · exact .inr ⟨g, off, rfl, by omega, hc⟩
theorem BytesAt.nil (n₀ : Nat) (w : World) : BytesAt n₀ w (.slice none 0 0) [] := ⟨none, 0, rfl, Nat.le_refl _, fun _ => rfl, .inl rfl⟩
theorem BytesAt.lt {n₀ : Nat} {w : World} {v : Value} {bs : List (BitVec 8)} (h : BytesAt n₀ w v bs) (hne : bs ≠ []) {k : Nat} (e : v.ownBlock = some k) : k < n₀ := by
  obtain ⟨a, cap, rfl, hl, h0, h⟩ := h
  rcases h with h | ⟨g, off, rfl, hg, hc⟩
  · exact absurd h hne
  · have : g = k := by simpa [Value.ownBlock] using e
    omega
theorem BytesAt.drewN {n₀ : Nat} {w : World} {v : Value} {bs : List (BitVec 8)} (h : BytesAt n₀ w v bs) (k : Nat) : BytesAt n₀ (w.drewN k) v bs := h
theorem BytesAt.pre {n₀ : Nat} {w : World} {a : Option Addr} {n cap : Nat} {bs : List (BitVec 8)} (h : BytesAt n₀ w (.slice a n cap) bs) (k : Nat) (hk : k ≤ bs.length) : BytesAt n₀ w (.slice a k cap) (bs.take k) := by
  obtain ⟨a', cap', e, hl, h0, h⟩ := h
  simp only [Value.slice.injEq] at e
  obtain ⟨rfl, rfl, rfl⟩ := e
  have hk' : (bs.take k).length = k := by rw [List.length_take]; omega
  refine ⟨a, cap, by rw [hk'], by omega, h0, ?_⟩
  rcases h with rfl | ⟨g, off, rfl, hg, hc⟩
  · exact .inl (by simp)
  · refine .inr ⟨g, off, rfl, hg, fun j hj => ?_⟩
    have hj' : j < k := by omega
    rw [hc j (by omega)]
    simp [hj']
theorem BytesAt.suf {n₀ : Nat} {w : World} {ad : Addr} {n cap : Nat} {bs : List (BitVec 8)} (h : BytesAt n₀ w (.slice (some ad) n cap) bs) (k : Nat) (hk : k ≤ bs.length) : BytesAt n₀ w (.slice (some (ad.add k)) (n - k) (cap - k)) (bs.drop k) := by
  obtain ⟨a', cap', e, hl, h0, h⟩ := h
  simp only [Value.slice.injEq] at e
  obtain ⟨rfl, rfl, rfl⟩ := e
  have hk' : (bs.drop k).length = bs.length - k := List.length_drop
  refine ⟨_, _, by rw [hk'], by omega, fun h => (by cases h), ?_⟩
  rcases h with rfl | ⟨g, off, hg2, hg, hc⟩
  · exact .inl (by simp)
  · cases hg2
    by_cases hkn : k = bs.length
    · exact .inl (by subst hkn; simp)
    · refine .inr ⟨g, off + k, by rw [add_plain], hg, fun j hj => ?_⟩
      rw [Nat.add_assoc, hc (k + j) (by omega)]
      simp
theorem BytesAt.none_nil {n₀ : Nat} {w : World} {len cap : Nat} {bs : List (BitVec 8)} (h : BytesAt n₀ w (.slice none len cap) bs) : len = 0 ∧ cap = 0 ∧ bs = [] := by
  obtain ⟨a, cap', e, hl, h0, h⟩ := h
  simp only [Value.slice.injEq] at e
  obtain ⟨rfl, rfl, rfl⟩ := e
  rcases h with rfl | ⟨g, off, hg, _⟩
  · exact ⟨rfl, h0 rfl, rfl⟩
  · cases hg

/-- The cells of bytes. -/
def cellsOf (bs : List (BitVec 8)) : List Value := bs.map fun b => .int .u8 (U b)
theorem cellsOf_len (bs : List (BitVec 8)) : (cellsOf bs).length = bs.length := by simp [cellsOf]
theorem cellsOf_one (bs : List (BitVec 8)) : ∀ u ∈ cellsOf bs, u.oneCell' = true := by
  intro u hu
  obtain ⟨b, _, rfl⟩ := List.mem_map.1 hu
  rfl
theorem cellsOf_append (xs ys : List (BitVec 8)) : cellsOf (xs ++ ys) = cellsOf xs ++ cellsOf ys := by simp [cellsOf]
theorem cellsOf_nil : cellsOf [] = [] := rfl
theorem BytesAt.of_owns {w : World} {base : Nat} {v : Value} {bs : List (BitVec 8)} (h : w.ownsRow base 5 1 v bs.length (cellsOf bs)) : BytesAt w.heap.size w v bs := by
  have h0 := h
  rcases h.2 with ⟨rfl, h1⟩ | ⟨g, cap, cur, rfl, _, hg, hn, _⟩
  · obtain rfl : bs = [] := by simpa using h1
    exact BytesAt.nil _ _
  · refine ⟨_, cap, rfl, hn, fun h => (by cases h), .inr ⟨g, 0, rfl, (Array.getElem?_eq_some_iff.1 hg).1, fun j hj => ?_⟩⟩
    have := h0.cells (g := g) rfl j (.int .u8 (U (bs[j]?.getD 0))) (by simp [cellsOf, hj])
    rw [add_plain] at this
    exact this
/-- What a slice of bytes holds, for an append from it. -/
theorem BytesAt.news {n₀ : Nat} {w : World} {ad : Addr} {len cap : Nat} {bs : List (BitVec 8)} (h : BytesAt n₀ w (.slice (some ad) len cap) bs) :
    len = bs.length ∧ ∀ j u, (cellsOf bs)[j]? = some u → w.cell? (ad.add j) = some u := by
  obtain ⟨a, cap', e, _, _, h⟩ := h
  simp only [Value.slice.injEq] at e
  obtain ⟨rfl, rfl, rfl⟩ := e
  refine ⟨rfl, fun j u hj => ?_⟩
  have hlt : j < bs.length := by
    have := (List.getElem?_eq_some_iff.1 hj).1
    rwa [cellsOf_len] at this
  rcases h with rfl | ⟨g, off, hg, _, hc⟩
  · simp at hlt
  · cases hg
    rw [add_plain, hc j hlt]
    simp [cellsOf, hlt] at hj
    simp [hlt, hj]
theorem Try.infoU8 : (Try.prog.info? 5).map (fun i => (i.zero, i.size, i.bytes)) = some (some (.int .u8 0), 1, 1) := by kernel_rfl

/-! Steps that write named blocks alone -/

section
variable {S : Nat → Prop} {a b : World}
theorem Moves.bytes {n₀ : Nat} {v : Value} {bs : List (BitVec 8)} (h : Moves S a b) (hv : BytesAt n₀ a v bs) (hn : n₀ ≤ a.heap.size) (hs : bs ≠ [] → ∀ k, v.ownBlock = some k → ¬ S k) : BytesAt n₀ b v bs :=
  hv.keep fun hne p hp hlt => h.cell (by omega) (hs hne _ hp)
end


/-- A slice of bytes that was just laid. -/
theorem bytes_new (w : World) (bs : List (BitVec 8)) (n : Nat) (hn : n = bs.length) (cs : Array Value) (hcs : cs = (cellsOf bs).toArray) (z : Nat × Nat := (0, 0)) : BytesAt (w.heap.size + 1) (w.alloc (.cells cs 5 z)) (.slice (some ⟨w.heap.size, 0, none⟩) n n) bs := by
  subst hn hcs
  refine ⟨_, _, rfl, Nat.le_refl _, fun h => (by cases h), .inr ⟨w.heap.size, 0, rfl, by omega, fun j hj => ?_⟩⟩
  rw [cell_of_row _ _ _ _ _ _ (heap_alloc_new w (.cells (cellsOf bs).toArray 5 z))]
  simp [cellsOf, hj]
theorem bytes_one (w : World) (b : BitVec 8) : BytesAt (w.heap.size + 1) (w.alloc (.cells #[.int .u8 (U b)] 5)) (.slice (some ⟨w.heap.size, 0, none⟩) 1 1) [b] := bytes_new w [b] 1 rfl _ rfl

/-! An append of bytes, whatever the source -/
section
variable {w : World}
theorem run_append_bytes (base : Nat) (i0 : TypeInfo) (hi : Try.prog.info? 5 = some i0) (hz0 : i0.zero = some (.int .u8 0)) (hz1 : i0.size = 1) (hz2 : i0.bytes = 1)
    (v : Value) (xs : List (BitVec 8)) (hown : w.ownsRow base 5 1 v xs.length (cellsOf xs)) (u : Value) (n₀ : Nat) (bs : List (BitVec 8)) (hu : BytesAt n₀ w u bs) (hlen : xs.length + bs.length ≤ 70368744177664) (hb : base ≤ w.heap.size) :
    ∃ v' w', (Builtin.append_ #[30, 30] 30 #[v, u]).run Try.prog w = .ok v' w' ∧ w'.ownsRow base 5 1 v' (xs ++ bs).length (cellsOf (xs ++ bs)) ∧ w.grownBy w' v.ownBlock ∧
      (v'.ownBlock = v.ownBlock ∨ v'.ownBlock = some w.heap.size) := by
  have hu0 := hu
  obtain ⟨a, cap, rfl, hl, hn, hu⟩ := hu
  cases a with
  | none =>
    obtain ⟨_, rfl, rfl⟩ := hu0.none_nil
    refine ⟨v, w, ?_, by simpa using hown, ⟨rfl, rfl, rfl, Nat.le_refl _, fun _ _ _ => rfl⟩, .inl rfl⟩
    exact run_append_owned_none (P := Try.prog) (w := w) base 30 30 5 i0 1 Try.underlying30 hi v xs.length (cellsOf xs) hown
  | some ad =>
    obtain ⟨v', w', hr, h2, h3, _, h5⟩ := run_append_own_at (P := Try.prog) w base 30 30 5 i0 (.int .u8 0) 1 1 Try.underlying30 hi hz0 hz1 hz2 rfl (by decide) v xs.length (cellsOf xs) hown ad bs.length cap (cellsOf bs)
      (by rw [cellsOf_len]; simp) hu0.news.2 (cellsOf_one bs) (by unfold maxLen; omega) (by omega) hb
    exact ⟨v', w', hr, by rw [cellsOf_append, List.length_append]; exact h2, h3, h5⟩
theorem wpList_append_bytes {ops : Array Oper} {rest : List Oper} {o : Oper} {a : Act} {Q : Exit → Act → World → Prop} (hgd : o.guard = none) (s x : Operand) (hty : o.type = 30)
    (ho : o.op = .call { callee := .builtin .append, args := #[s, x], argTypes := #[30, 30] })
    (base : Nat) (i0 : TypeInfo) (hi : Try.prog.info? 5 = some i0) (hz0 : i0.zero = some (.int .u8 0)) (hz1 : i0.size = 1) (hz2 : i0.bytes = 1)
    (v : Value) (hs : a.eval s = v) (xs : List (BitVec 8)) (hown : w.ownsRow base 5 1 v xs.length (cellsOf xs)) (u : Value) (hx : a.eval x = u) (n₀ : Nat) (bs : List (BitVec 8)) (hu : BytesAt n₀ w u bs) (hlen : xs.length + bs.length ≤ 70368744177664) (hb : base ≤ w.heap.size)
    (h : ∀ v' w' n, Hid (n = (xs ++ bs).length) → w'.ownsRow base 5 1 v' n (cellsOf (xs ++ bs)) → w.grownBy w' v.ownBlock → (v'.ownBlock = v.ownBlock ∨ v'.ownBlock = some w.heap.size) → wpList Try.prog ops Q rest (a.put o.dst v') w') : wpList Try.prog ops Q (o :: rest) a w := by
  refine wpList_plain hgd fun K hK => ?_
  obtain ⟨v', w', hr, h2, h3, h4⟩ := run_append_bytes (w := w) base i0 hi hz0 hz1 hz2 v xs hown u n₀ bs hu hlen hb
  unfold Oper.wp
  simp [execOp, ho, resolve, invoke, builtin, hs, hx, hty, hr, Result.andThen]
  exact hK _ _ (h v' w' _ rfl h2 h3 h4)
theorem step_append_bytes {ops : Array Oper} {o : Oper} {a : Act} {K : Act → World → Prop} {Q : Exit → Act → World → Prop} {E : Prop} (hgd : o.guard = none) (s x : Operand) (hty : o.type = 30)
    (ho : o.op = .call { callee := .builtin .append, args := #[s, x], argTypes := #[30, 30] })
    (base : Nat) (i0 : TypeInfo) (hi : Try.prog.info? 5 = some i0) (hz0 : i0.zero = some (.int .u8 0)) (hz1 : i0.size = 1) (hz2 : i0.bytes = 1)
    (v : Value) (hs : a.eval s = v) (xs : List (BitVec 8)) (hown : w.ownsRow base 5 1 v xs.length (cellsOf xs)) (u : Value) (hx : a.eval x = u) (n₀ : Nat) (bs : List (BitVec 8)) (hu : BytesAt n₀ w u bs) (hlen : xs.length + bs.length ≤ 70368744177664) (hb : base ≤ w.heap.size)
    (h : ∀ v' w' n, Hid (n = (xs ++ bs).length) → w'.ownsRow base 5 1 v' n (cellsOf (xs ++ bs)) → w.grownBy w' v.ownBlock → (v'.ownBlock = v.ownBlock ∨ v'.ownBlock = some w.heap.size) → K (a.put o.dst v') w') :
    if Region.wanted o (yielded ops a.tmps) = true then Oper.wp Try.prog o a w K Q else E := by
  have hw : Region.wanted o (yielded ops a.tmps) = true := by simp [Region.wanted, hgd]
  rw [if_pos hw]
  obtain ⟨v', w', hr, h2, h3, h4⟩ := run_append_bytes (w := w) base i0 hi hz0 hz1 hz2 v xs hown u n₀ bs hu hlen hb
  unfold Oper.wp
  simp [execOp, ho, resolve, invoke, builtin, hs, hx, hty, hr, Result.andThen]
  exact h v' w' _ rfl h2 h3 h4
end

theorem own_empty_at (w : World) (base n : Nat) (hn : n = w.heap.size) (hb : base ≤ n) : (w.alloc (.cells #[] 5)).ownsRow base 5 1 (.slice (some ⟨n, 0, none⟩) 0 0) ([] : List (BitVec 8)).length (cellsOf []) := by
  subst hn
  exact World.ownsRow_made w #[] 0 hb (by unfold maxLen; omega) rfl
theorem own_empty (w : World) (base : Nat) (hb : base ≤ w.heap.size) : (w.alloc (.cells #[] 5)).ownsRow base 5 1 (.slice (some ⟨w.heap.size, 0, none⟩) 0 0) ([] : List (BitVec 8)).length (cellsOf []) :=
  World.ownsRow_made w #[] 0 hb (by unfold maxLen; omega) rfl

/-! Texts -/

/-- A text of bytes as a string. -/
def strB (bs : List (BitVec 8)) : ByteArray := ⟨(bs.map fun b => UInt8.ofBitVec b).toArray⟩
theorem strB_inj {xs ys : List (BitVec 8)} : strB xs = strB ys ↔ xs = ys := by
  refine ⟨fun h => ?_, fun h => by rw [h]⟩
  have h1 : xs.map (fun b => UInt8.ofBitVec b) = ys.map (fun b => UInt8.ofBitVec b) := by
    have := congrArg (fun s : ByteArray => s.data.toList) h
    simpa [strB] using this
  have h2 := congrArg (fun l => l.map UInt8.toBitVec) h1
  have e : UInt8.toBitVec ∘ (fun b => UInt8.ofBitVec b) = id := by funext b; rfl
  simpa [e] using h2
theorem strB_size (xs : List (BitVec 8)) : (strB xs).size = xs.length := by simp [strB, ByteArray.size]
theorem strB_list (xs : List (BitVec 8)) : (strB xs).data.toList = xs.map fun b => UInt8.ofBitVec b := by simp [strB]

theorem strB_nums (bs : List (BitVec 8)) : strOfNums (bs.map U) = strB bs := by
  unfold strOfNums strB
  congr 2
  rw [List.map_map]
  refine List.map_congr_left fun b _ => ?_
  simp [U]
theorem conv_str {n₀ : Nat} {w : World} {v : Value} {bs : List (BitVec 8)} (h : BytesAt n₀ w v bs) : (convert 30 9 v).run Try.prog w = .ok (.string (strB bs)) w := by
  obtain ⟨a, cap, rfl, hl, h0, h⟩ := h
  by_cases he : bs = []
  · subst he
    cases a with
    | none => rw [run_convert_bytes_nil w 30 5 Try.underlying30 Try.underlying5 _ _ 9 Try.underlying9]; rfl
    | some ad =>
      have h1 : (loadCells ad 0).run Try.prog w = .ok #[] w := by simp [loadCells, loadCellsFrom]
      rw [run_convert_bytes_string w 30 9 5 _ _ _ Try.underlying30 Try.underlying5 Try.underlying9]
      have := run_bytesToString (P := Try.prog) w ad 0 cap [] (by simpa using h1)
      exact this
  · rcases h with h | ⟨g, off, rfl, hg, hc⟩
    · exact absurd h he
    · rw [run_convert_bytes_arg w 30 5 Try.underlying30 Try.underlying5 g off bs.length cap (bs.map U) (by simp) (fun i hi => by rw [hc i hi]; simp [List.getD, hi]) 9 Try.underlying9, strB_nums]

end Go.Proofs.Ytiibpkncdflfcaa
namespace Go.Proofs.Ytiibpkncdflfcaa
open Go.RowKit

set_option maxHeartbeats 1000000 in
theorem clone_any (n₀ : Nat) (u : Value) (bs : List (BitVec 8)) (w : World) (hu : BytesAt n₀ w u bs) (hn : n₀ ≤ w.heap.size) (hl : bs.length ≤ 1099511627776) :
    Calls Try.prog 18 #[u] w fun e w' => ∃ v, e = .returned v ∧ w'.ownsRow w.heap.size 5 1 v bs.length (cellsOf bs) ∧ Below w.heap.size w w' := by
  obtain ⟨i0, hi, hz0, hz1, hz2⟩ := info_parts Try.infoU8
  have hu0 := hu
  obtain ⟨a, cap, rfl, _, _, _⟩ := hu
  cases a with
  | none =>
    obtain ⟨e0, rfl, rfl⟩ := hu0.none_nil
    have hnil := fun W => Lib.run_eql_slice_nil (P := Try.prog) W 30 5 none 0 0 0 0 Try.underlying30
    go_enter Try.func18, Try.ntmps18
    go_wp2
    go_ret
    exact ⟨_, rfl, World.ownsRow_nil _ _ _ _, Below.refl _ _⟩
  | some ad =>
    have hu1 := (hu0.mono hn).below (((Below.refl w.heap.size w).alloc (Nat.le_refl _) (.cells #[] 5)))
    have HU := Lib.hid hu1
    clear hu0 hu1
    have hnil := fun W => Lib.run_eql_slice_nil (P := Try.prog) W 30 5 (some ad) bs.length cap 0 0 Try.underlying30
    go_enter Try.func18, Try.ntmps18
    go_wp2_with (at_builtin; go_must (refine wpList_append_bytes rfl (.tmp 5) (.tmp 6) rfl rfl w.heap.size i0 hi hz0 hz1 hz2 _ rfl [] (own_empty w w.heap.size (Nat.le_refl _)) _ rfl _ bs HU.out (by simp; omega) (by simp) ?_); intro v1 w1 n1 HN hown1 hgrow1 hat1; rw [List.nil_append] at hown1 HN)
    go_ret
    obtain rfl := HN.out
    exact ⟨_, rfl, hown1, ((Below.refl w.heap.size w).alloc (Nat.le_refl _) _).grown hgrow1 (by simp) (fun k e => by cases e; exact Nat.le_refl _)⟩

theorem clone_nil (w : World) : Calls Try.prog 18 #[.slice none 0 0] w fun e w' => e = .returned (.slice none 0 0) ∧ w = w' := by
  have hnil := fun W => Lib.run_eql_slice_nil (P := Try.prog) W 30 5 none 0 0 0 0 Try.underlying30
  go_enter Try.func18, Try.ntmps18
  go_wp2
  go_ret
  exact ⟨rfl, rfl⟩

end Go.Proofs.Ytiibpkncdflfcaa
namespace Go.Proofs.Ytiibpkncdflfcaa
open Go.RowKit Go.Shelf
variable {F : Fence} {n : Nat} {P : Program}

theorem rangeFunc_open {α : Type} {g : Operand} {ps : Array Tmp} {assign body : Code} {Q : Exit → Act → World → Prop} {a : Act} {w : World}
    (hro : F.round = none) (h1 : 1 ≤ n) {gf : Nat} {lb : Array Value} (hg : a.eval g = .func (.func gf) #[] lb) (hFg : F.fn gf) (eg : ∀ args w, (callFunc gf args).run P w = .ok (.enter gf args) w)
    {encs : α → Array Value} {Kp : World → World → Prop} {S Sp : List α → Prop} {N : Nat} {w0 : World} (hseq : SeqStopsK F (n - 1) P gf lb encs Kp S Sp N w0)
    (hKt : ∀ {A B C : World}, Kp A B → Kp B C → Kp A C) (hKb : ∀ (W : World) (l : Nat) (o o' : Obj), w.heap.size ≤ l → W.heap[l]? = some o → o.isCells = false → o.isWalk = false → Kp W (W.putObj l o')) (hb0 : Below w0.heap.size w0 w) (hps : ∀ x, (encs x).size = ps.size)
    (I : List α → World → Prop) (Ix : Code → List α → World → Prop) (hI : OwnFrom w.heap.size I) (hIx : ∀ c, OwnFrom w.heap.size (Ix c)) (h0 : I [] w)
    (hround : ∃ a₁ : α → Act, (∀ (l : Nat) (x : α) (W : World) (K : Act → World → Prop), K (a₁ x) W →
        assign.wpIn (F.inRound l) (n - 1 - 1) P (Exit.then K (fun _ _ _ => False)) { tmps := (ps.zip (encs x)).foldl (fun t (p, v) => t.setIfInBounds p v) a.tmps, defers := [] } W) ∧
      (∀ (l : Nat) (pre : List α) (x : α) (W : World), I pre W → pre.length < N → body.wpIn (F.inRound l) (n - 1 - 1) P (ownPostG w.heap.size Kp I Ix (pre ++ [x]) W) (a₁ x) W))
    (hdone : ∀ (D : Nat) (xs : List α) (W : World), w.heap.size ≤ D → S xs → I xs W → W.heap[D]? = some (.deferred (some [])) → Q .normal { a with defers := { target := .collected D, args := #[] } :: a.defers } W)
    (hstop : ∀ (D : Nat) (c : Code) (pre : List α) (W : World), w.heap.size ≤ D → Sp pre → Ix c pre W → W.heap[D]? = some (.deferred (some [])) → c.wpIn F n P Q { a with defers := { target := .collected D, args := #[] } :: a.defers } W) :
    (Code.rangeFunc g ps assign body).wpIn F n P Q a w := by
  obtain ⟨a₁, ha, hb⟩ := hround
  exact wpIn_rangeFunc_ownG hro h1 hg hFg eg hseq hKt hKb hb0 hps I Ix hI hIx h0 a₁ ha hb hdone hstop

/-- What has come when k rounds are over. -/
def upto {α : Type} (f : Nat → α) (k : Nat) : List α := (List.range k).map f
theorem upto_succ {α : Type} (f : Nat → α) (k : Nat) : upto f (k + 1) = upto f k ++ [f k] := by simp [upto, List.range_succ]
theorem upto_length {α : Type} (f : Nat → α) (k : Nat) : (upto f k).length = k := by simp [upto]

/-- The blocks of cells that S names hold what they held. -/
def KeepsAt (S : Nat → Prop) (W W' : World) : Prop := ∀ b, S b → ∀ c t z, W.heap[b]? = some (.cells c t z) → W'.heap[b]? = some (.cells c t z)
theorem KeepsAt.refl (S : Nat → Prop) (W : World) : KeepsAt S W W := fun _ _ _ _ _ h => h
theorem KeepsAt.trans {S : Nat → Prop} {A B C : World} (h : KeepsAt S A B) (k : KeepsAt S B C) : KeepsAt S A C := fun b hb c t z e => k b hb c t z (h b hb c t z e)
theorem KeepsAt.cell {S : Nat → Prop} {W W' : World} (h : KeepsAt S W W') {p : Addr} (hp : S p.block) {v : Value} (hc : W.cell? p = some v) : W'.cell? p = some v := by
  unfold World.cell? at hc ⊢
  cases e : W.heap[p.block]? with
  | none => rw [e] at hc; cases hc
  | some o =>
    cases o with
    | cells c t z => rw [h p.block hp c t z e]; rw [e] at hc; exact hc
    | _ => rw [e] at hc; cases hc
theorem KeepsAt.of_below {S : Nat → Prop} {n₀ : Nat} {W W' : World} (h : Below n₀ W W') (hS : ∀ b, S b → b < n₀) : KeepsAt S W W' := fun b hb _ _ _ e => (h.block b (hS b hb)).trans e
theorem KeepsAt.alloc {S : Nat → Prop} (W : World) (o : Obj) : KeepsAt S W (W.alloc o) := fun b _ _ _ _ e => (Below.heap_alloc W o b (Array.getElem?_eq_some_iff.1 e).1).trans e
theorem KeepsAt.setCell {S : Nat → Prop} (W : World) (p : Addr) (v : Value) (hp : ¬ S p.block) : KeepsAt S W (W.setCell p v) := fun b hb _ _ _ e => (Below.heap_setCell W p v b (fun h => hp (h ▸ hb))).trans e
theorem KeepsAt.grown {S : Nat → Prop} {W W' : World} {row : Option Nat} (hg : W.grownBy W' row) (hr : ∀ k, row = some k → ¬ S k) : KeepsAt S W W' := fun b hb _ _ _ e =>
  (hg.block b (Array.getElem?_eq_some_iff.1 e).1 (fun h => hr b h.symm hb)).trans e
theorem KeepsAt.put {S : Nat → Prop} (W : World) (l : Nat) (o o' : Obj) (hl : W.heap[l]? = some o) (ho : o.isCells = false) : KeepsAt S W (W.putObj l o') := fun b _ c t z e => by
  by_cases h : b = l
  · subst h; rw [e] at hl; cases hl; cases ho
  · exact (World.putObj_heap_other h).trans e
theorem keepsAt_t {S : Nat → Prop} {A B C : World} (h : KeepsAt S A B) (k : KeepsAt S B C) : KeepsAt S A C := h.trans k
theorem keepsAt_b {S : Nat → Prop} {w : World} : ∀ (W : World) (l : Nat) (o o' : Obj), w.heap.size ≤ l → W.heap[l]? = some o → o.isCells = false → o.isWalk = false → KeepsAt S W (W.putObj l o') :=
  fun W l o o' _ hl ho _ => KeepsAt.put W l o o' hl ho

/-- 'x = append(x, v)' within the capacity, x in a box of its own: what the walk owes behind the store. -/
theorem Boxed.fits {W w1 : World} {n₀ B g : Nat} {t e : TypeId} {size cap : Nat} {v v' : Value} {k m : Nat} {xs ys : List Value} {tmp : Obj} {S : Nat → Prop}
    (hv : Boxed W B t v) (hrow : W.ownsRow n₀ e size (.slice (some ⟨g, 0, none⟩) k cap) k xs) (hBg : B ≠ g) (hn₀ : n₀ ≤ W.heap.size) (hB : n₀ ≤ B) (hg₀ : n₀ ≤ g) (hSg : ¬ S g) (hSB : ¬ S B)
    (hown' : w1.ownsRow n₀ e size (.slice (some ⟨g, 0, none⟩) m cap) m ys) (hgrow : (W.alloc tmp).grownBy w1 (some g)) :
    Boxed w1 B t v ∧ Boxed (w1.setCell ⟨B, 0, none⟩ v') B t v' ∧ (w1.setCell ⟨B, 0, none⟩ v').ownsRow n₀ e size (.slice (some ⟨g, 0, none⟩) m cap) m ys ∧ KeepsOthers W (w1.setCell ⟨B, 0, none⟩ v') ∧ Below n₀ W (w1.setCell ⟨B, 0, none⟩ v') ∧ KeepsAt S W (w1.setCell ⟨B, 0, none⟩ v') := by
  have hv1 : Boxed w1 B t v := (hv.alloc tmp).kept hgrow (by simpa using hBg)
  refine ⟨hv1, hv1.set v', hown'.kept (grownBy_setCell' w1 B v') (.inr ?_), ?_, ?_, ?_⟩
  · simp only [Value.ownBlock, ne_eq, Option.some.injEq]; omega
  · refine ((KeepsOthers.alloc W tmp).trans (KeepsOthers.of_grownBy hgrow fun j o ej hj => ?_)).trans (KeepsOthers.setCell _ _ _)
    rcases (hrow.alloc tmp).2 with ⟨h, _⟩ | ⟨g', cap', cur, hs, _, hgb, _⟩
    · cases h
    · simp only [Value.slice.injEq, Option.some.injEq, Addr.mk.injEq] at hs
      obtain rfl : g = j := by simpa using ej
      rw [← hs.1.1] at hgb
      rw [hgb] at hj; cases hj; rfl
  · exact (((Below.refl n₀ W).alloc hn₀ tmp).grown hgrow (by simp; omega) fun j ej => by
      obtain rfl : g = j := by simpa using ej
      exact hg₀).setCell (p := ⟨B, 0, none⟩) hB v'
  · exact ((KeepsAt.alloc W tmp).trans (KeepsAt.grown hgrow fun j ej => by
      obtain rfl : g = j := by simpa using ej
      exact hSg)).trans (KeepsAt.setCell _ _ _ hSB)

theorem ownsRow_block {W : World} {n₀ g : Nat} {e : TypeId} {size k m cap : Nat} {xs : List Value} (h : W.ownsRow n₀ e size (.slice (some ⟨g, 0, none⟩) k cap) m xs) : n₀ ≤ g ∧ g < W.heap.size := h.lt g rfl

/-- 'x is a row of known place in a box' speaks of cells alone. -/
theorem holdsRowAt_own {β : Type} (n₀ B g : Nat) (t e : TypeId) (size cap : Nat) (k : β → Nat) (f : β → List Value) : Own (fun s W => Boxed W B t (.slice (some ⟨g, 0, none⟩) (k s) cap) ∧ W.ownsRow n₀ e size (.slice (some ⟨g, 0, none⟩) (k s) cap) (k s) (f s)) := by
  rintro s X Y row ⟨hv, hr⟩ hg hrow
  refine ⟨hv.kept hg (fun e' => ?_), hr.kept hg (.inr fun e' => ?_)⟩
  · obtain ⟨o, ho, hc⟩ := hrow B e'.symm
    rw [show X.heap[B]? = _ from hv] at ho; cases ho; cases hc
  · rcases hr.2 with ⟨h, _⟩ | ⟨g', cap', cur, hs, _, hgb, _⟩
    · cases h
    · simp only [Value.slice.injEq, Option.some.injEq, Addr.mk.injEq] at hs
      obtain ⟨o, ho, hc⟩ := hrow g (by simpa [Value.ownBlock] using e'.symm)
      rw [← hs.1.1] at hgb
      rw [hgb] at ho; cases ho; cases hc

/-- A row stays owned while nothing below the heap's size turns. -/
theorem ownsRow_below {w w' : World} {base : Nat} {e : TypeId} {size : Nat} {v : Value} {n : Nat} {xs : List Value} (h : w.ownsRow base e size v n xs) (hb : Below w.heap.size w w') : w'.ownsRow base e size v n xs := by
  obtain ⟨h1, h2⟩ := h
  refine ⟨h1, ?_⟩
  rcases h2 with h2 | ⟨g, cap, cur, hv, hg, hh, r⟩
  · exact .inl h2
  · exact .inr ⟨g, cap, cur, hv, hg, (hb.block g (Array.getElem?_eq_some_iff.1 hh).1).trans hh, r⟩

/-- A callee that only computes, in a region that draws its order. -/
theorem quiet_here {f : FuncId} {args : Array Value} {w : World} {m : Nat} {v : Value}
    (c : Calls P f args (w.drewN m) fun e w' => e = .returned v ∧ w.drewN m = w') : Calls P f args (w.drewN m) fun e w'' => e = .returned v ∧ ∃ k, w'' = w.drewN k :=
  c.mono fun _ _ ⟨he, h⟩ => ⟨he, m, h.symm⟩
theorem quiet_there {f : FuncId} {args : Array Value} {w : World} {a m : Nat} {v : Value}
    (c : Calls P f args (w.drewN (a + m)) fun e w' => e = .returned v ∧ w.drewN (a + m) = w') : Calls P f args (w.drewN (a + m)) fun e w'' => e = .returned v ∧ ∃ k, w'' = w.drewN (a + k) :=
  c.mono fun _ _ ⟨he, h⟩ => ⟨he, m, h.symm⟩

theorem upto_get {f : Nat → Int} {n k : Nat} (h : k < n) : (upto f n)[k]?.getD 0 = f k := by
  unfold upto
  simp [h]

/-- A whole row stored into a variable of an array's type. -/
theorem run_storeAll {w : World} {g : Nat} {t : TypeId} {cur cs : Array Value} (hg : w.heap[g]? = some (.cells cur t (0, 0))) (hs : cs.size = cur.size) (h1 : ∀ v ∈ cs.toList, v.oneCell' = true) :
    (storeCells ⟨g, 0, none⟩ cs.toList).run P w = .ok () (w.setRow g cs) := by
  have h := run_storeCells_at (P := P) g 0 t cs.toList 0 cur w hg (by simp [hs]) h1
  rw [h]
  congr 2
  have : List.drop cs.size cur.toList = [] := List.drop_eq_nil_of_le (by simp [hs])
  simp [this]

/-- 'A block holds these cells' speaks of cells alone. -/
theorem holdsBlock_own {β : Type} (B : Nat) (t : TypeId) (f : β → Array Value) : Own (fun s W => W.heap[B]? = some (.cells (f s) t (0, 0))) := by
  rintro s X Y row h hg hrow
  refine (hg.block B (Array.getElem?_eq_some_iff.1 h).1 (fun e' => ?_)).trans h
  obtain ⟨o, ho, hc⟩ := hrow B e'.symm
  rw [h] at ho; cases ho; cases hc

end Go.Proofs.Ytiibpkncdflfcaa

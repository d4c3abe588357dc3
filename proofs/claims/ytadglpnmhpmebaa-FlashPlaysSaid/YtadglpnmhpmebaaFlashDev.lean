/-
  A device in memory: what it holds, and which blocks it consists of. What flash.New makes.
  Conditions: none.
-/
import Derived.Test.YtadglpnmhpmebaaFlash2
import Derived.Test.YtadglpnmhpmebaaFoot
namespace Go.Proofs.Ytadglpnmhpmebaa
open Go.RowKit

/-- A device, as the document has it: what is fast in each sector, its past (the oldest first, without the 0), the loose writes. -/
structure Dev where
  sectors : Nat
  size : Nat
  fast : Nat → List (BitVec 8)
  past : Nat → List (List (BitVec 8))
  loose : List (Nat × List (BitVec 8))
  armed : Nat
  acts : Nat
  down : Bool
def zeros (n : Nat) : List (BitVec 8) := List.replicate n 0#8
theorem zeros_len (n : Nat) : (zeros n).length = n := by simp [zeros]
def Dev.new (sectors size : Nat) : Dev := ⟨sectors, size, fun _ => zeros size, fun _ => [], [], 0, 0, false⟩

/-- A row of slices of bytes that a device owns. -/
def RowsIn (n₀ : Nat) (O : Foot) (w : World) (v : Value) (l : List (List (BitVec 8))) : Prop :=
  ∃ cells : List Value, w.ownsRow n₀ 42 1 v l.length cells ∧ (∀ k, v.ownBlock = some k → O k) ∧ ∀ (i : Nat) x, l[i]? = some x → ∃ u, cells[i]? = some u ∧ BytesIn O w u x
/-- The loose writes. -/
def LooseIn (n₀ : Nat) (O : Foot) (w : World) (v : Value) (l : List (Nat × List (BitVec 8))) : Prop :=
  ∃ cells : List Value, w.ownsRow n₀ 72 2 v l.length cells ∧ (∀ k, v.ownBlock = some k → O k) ∧ ∀ (i : Nat) x, l[i]? = some x → cells[2 * i]? = some (.int .i64 (x.1 : Int)) ∧ ∃ u, cells[2 * i + 1]? = some u ∧ BytesIn O w u x.2
/-- Keys are sectors. -/
def KeysIn (m : List (Int × Value)) (n : Nat) : Prop := ∀ p ∈ m, ∃ k : Nat, k < n ∧ p.1 = k

/-- A device's parts, told by their blocks. -/
structure DevParts (n₀ : Nat) (O : Foot) (w : World) (D F P L : Nat) (lv : Value) (fm pm lm : List (Int × Value)) (d : Dev) : Prop where
  blk : DevBlk w D d.sectors d.size F P lv L d.armed d.acts d.down
  mF : MapIs w F fm
  mP : MapIs w P pm
  mL : MapIs w L lm
  oD : O D
  oF : O F
  oP : O P
  oL : O L
  apart : F ≠ P ∧ F ≠ L ∧ P ≠ L
  inn : Foot.In O w
  lo : ∀ k, O k → n₀ ≤ k
  right : (1 ≤ d.sectors ∧ d.sectors ≤ 16384) ∧ (96 ≤ d.size ∧ d.size ≤ 512)
  kF : KeysIn fm d.sectors
  kP : KeysIn pm d.sectors
  kL : KeysIn lm d.sectors
  len : ∀ k, (d.fast k).length = d.size
  fast : ∀ k, k < d.sectors → (mget fm k = none ∧ d.fast k = zeros d.size) ∨ ∃ v, mget fm k = some v ∧ BytesIn O w v (d.fast k)
  plen : ∀ k x, x ∈ d.past k → x.length = d.size
  past : ∀ k, k < d.sectors → (mget pm k = none ∧ d.past k = []) ∨ ∃ v, mget pm k = some v ∧ RowsIn n₀ O w v (d.past k)
  rows : ∀ (i j : Int) u v g, mget pm i = some u → mget pm j = some v → u.ownBlock = some g → v.ownBlock = some g → i = j
  loose : LooseIn n₀ O w lv d.loose
  llen : ∀ x ∈ d.loose, x.1 < d.sectors ∧ x.2.length = d.size
  last : ∀ k, k < d.sectors → (mget lm k = none ∧ ∀ x ∈ d.loose, x.1 ≠ k) ∨ ∃ (i : Nat) (bs : List (BitVec 8)), mget lm k = some (.int .i64 (i : Int)) ∧ d.loose[i]? = some (k, bs) ∧ ∀ (j : Nat) x, i < j → d.loose[j]? = some x → x.1 ≠ k
/-- A device. -/
def DevAt (n₀ : Nat) (O : Foot) (w : World) (D : Nat) (d : Dev) : Prop := ∃ F P L lv fm pm lm, DevParts n₀ O w D F P L lv fm pm lm d

theorem RowsIn.keep {n₀ : Nat} {O : Foot} {w w' : World} {v : Value} {l : List (List (BitVec 8))} (h : RowsIn n₀ O w v l) (hs : Same O w w') : RowsIn n₀ O w' v l := by
  obtain ⟨cs, h1, h2, h3⟩ := h
  refine ⟨cs, hs.row h1 h2, h2, fun i x hx => ?_⟩
  obtain ⟨u, hu, hb⟩ := h3 i x hx
  exact ⟨u, hu, hs.bytes hb⟩
theorem LooseIn.keep {n₀ : Nat} {O : Foot} {w w' : World} {v : Value} {l : List (Nat × List (BitVec 8))} (h : LooseIn n₀ O w v l) (hs : Same O w w') : LooseIn n₀ O w' v l := by
  obtain ⟨cs, h1, h2, h3⟩ := h
  refine ⟨cs, hs.row h1 h2, h2, fun i x hx => ?_⟩
  obtain ⟨h0, u, hu, hb⟩ := h3 i x hx
  exact ⟨h0, u, hu, hs.bytes hb⟩
theorem DevParts.keep {n₀ : Nat} {O : Foot} {w w' : World} {D F P L : Nat} {lv : Value} {fm pm lm : List (Int × Value)} {d : Dev} (h : DevParts n₀ O w D F P L lv fm pm lm d) (hs : Same O w w') : DevParts n₀ O w' D F P L lv fm pm lm d :=
  { h with
    blk := (hs.2 D h.oD).trans h.blk
    mF := hs.map h.mF h.oF
    mP := hs.map h.mP h.oP
    mL := hs.map h.mL h.oL
    inn := fun k hk => Nat.lt_of_lt_of_le (h.inn k hk) hs.1
    fast := fun k hk => (h.fast k hk).imp id fun ⟨v, h1, h2⟩ => ⟨v, h1, hs.bytes h2⟩
    past := fun k hk => (h.past k hk).imp id fun ⟨v, h1, h2⟩ => ⟨v, h1, h2.keep hs⟩
    loose := h.loose.keep hs }
theorem DevAt.keep {n₀ : Nat} {O : Foot} {w w' : World} {D : Nat} {d : Dev} (h : DevAt n₀ O w D d) (hs : Same O w w') : DevAt n₀ O w' D d := by
  obtain ⟨F, P, L, lv, fm, pm, lm, h⟩ := h
  exact ⟨F, P, L, lv, fm, pm, lm, h.keep hs⟩

/-- A device that was just made. -/
theorem dev_new (n₀ : Nat) (w : World) (sectors size : Nat) (hr : (1 ≤ sectors ∧ sectors ≤ 16384) ∧ (96 ≤ size ∧ size ≤ 512)) (hn : n₀ ≤ w.heap.size) :
    DevAt n₀ (fun k => w.heap.size ≤ k ∧ k < w.heap.size + 4) ((((w.alloc (.map #[] 0)).alloc (.map #[] 0)).alloc (.map #[] 0)).alloc (.cells (devCells sectors size w.heap.size (w.heap.size + 1) (.slice none 0 0) (w.heap.size + 2) 0 0 false) 68)) (w.heap.size + 3) (Dev.new sectors size) := by
  have e1 : (w.alloc (.map #[] 0)).heap.size = w.heap.size + 1 := by simp
  have e2 : ((w.alloc (.map #[] 0)).alloc (.map #[] 0)).heap.size = w.heap.size + 2 := by simp
  have e3 : (((w.alloc (.map #[] 0)).alloc (.map #[] 0)).alloc (.map #[] 0)).heap.size = w.heap.size + 3 := by simp
  have m0 := MapIs.new w
  have m1 := MapIs.new (w.alloc (.map #[] 0))
  have m2 := MapIs.new ((w.alloc (.map #[] 0)).alloc (.map #[] 0))
  have b3 := heap_alloc_new (((w.alloc (.map #[] 0)).alloc (.map #[] 0)).alloc (.map #[] 0)) (.cells (devCells sectors size w.heap.size (w.heap.size + 1) (.slice none 0 0) (w.heap.size + 2) 0 0 false) 68)
  rw [e1] at m1
  rw [e2] at m2
  rw [e3] at b3
  have up : ∀ {W : World} {b : Nat} {m : List (Int × Value)} (o : Obj), MapIs W b m → MapIs (W.alloc o) b m := fun o h => h.same (Below.heap_alloc _ o _ h.lt)
  refine ⟨w.heap.size, w.heap.size + 1, w.heap.size + 2, .slice none 0 0, [], [], [], ?_⟩
  exact
    { blk := b3
      mF := up _ (up _ (up _ m0))
      mP := up _ (up _ m1)
      mL := up _ m2
      oD := by show _ ∧ _; omega
      oF := by show _ ∧ _; omega
      oP := by show _ ∧ _; omega
      oL := by show _ ∧ _; omega
      apart := by omega
      inn := fun k hk => by simp; omega
      lo := fun k hk => by omega
      right := hr
      kF := fun p hp => by cases hp
      kP := fun p hp => by cases hp
      kL := fun p hp => by cases hp
      len := fun k => zeros_len size
      fast := fun k _ => .inl ⟨rfl, rfl⟩
      plen := fun k x hx => by cases hx
      past := fun k _ => .inl ⟨rfl, rfl⟩
      rows := fun i j u v g h => by cases h
      loose := ⟨[], World.ownsRow_nil _ _ _ _, (fun k e => by cases e), (fun i x hx => by simp [Dev.new] at hx)⟩
      llen := fun x hx => by cases hx
      last := fun k _ => .inl ⟨rfl, fun x hx => by cases hx⟩ }

theorem fnew_any (n₀ : Nat) (sectors size : Nat) (hr : (1 ≤ sectors ∧ sectors ≤ 16384) ∧ (96 ≤ size ∧ size ≤ 512)) (w : World) (hn : n₀ ≤ w.heap.size) :
    Calls Try.prog 6 #[.int .i64 sectors, .int .i64 size] w fun e w' => e = .returned (.pointer (some ⟨w.heap.size + 3, 0, none⟩)) ∧ DevAt n₀ (fun k => w.heap.size ≤ k ∧ k < w.heap.size + 4) w' (w.heap.size + 3) (Dev.new sectors size) ∧ Below w.heap.size w w' := by
  have HD := Lib.hid (dev_new n₀ w sectors size hr hn)
  have s1 : (1 : Int) ≤ sectors := by omega
  have s2 : (sectors : Int) ≤ 16384 := by omega
  have s3 : (96 : Int) ≤ size := by omega
  have s4 : (size : Int) ≤ 512 := by omega
  have hmm := @run_makeMap Try.prog
  clear hr
  go_enter Try.func6, Try.ntmps6
  go_wp2
  go_ret
  exact ⟨rfl, HD.out, ((((Below.refl _ w).alloc (Nat.le_refl _) _).alloc (by simp) _).alloc (by simp; omega) _).alloc (by simp; omega) _⟩

end Go.Proofs.Ytadglpnmhpmebaa

/-
  Joined: Plan1, Plan2.
  Conditions: none.
-/
import Derived.Test.YtfdipeaddofjaaaJA
import Derived.WalkKit
import Derived.IntWalk
import Derived.Outline
import Derived.Deep.RegionHeld3
import Derived.Deep.DeepCutAuto
import Derived.RegionTactic
import Derived.Laws.Tables
import Derived.Laws.Rows
import Derived.Laws.CopyOwn
namespace Go.Proofs.Ytfdipeaddofjaaa
open Go.RowKit

theorem isSize_any (n : Int) (w : World) : Calls Try.prog 75 #[.int .i64 n] w fun e w' => e = .returned (.bool (decide (96 ≤ n ∧ n ≤ 512))) ∧ w = w' := by
  by_cases h0 : 96 ≤ n
  · by_cases h1 : n ≤ 512
    · have HE : Hid (decide (96 ≤ n ∧ n ≤ 512) = true) := by unfold Hid; simp [h0, h1]
      go_enter Try.func75, Try.ntmps75
      go_wp2
      go_ret
      first | exact ⟨rfl, rfl⟩ | exact ⟨by rw [HE.out]; rfl, rfl⟩
    · have HE : Hid (decide (96 ≤ n ∧ n ≤ 512) = false) := by unfold Hid; simp [h1]
      have e1 : decide (n ≤ 512) = false := by simpa using h1
      go_enter Try.func75, Try.ntmps75
      go_wp2
      go_ret
      first | exact ⟨rfl, rfl⟩ | exact ⟨by rw [HE.out]; rfl, rfl⟩
  · have HE : Hid (decide (96 ≤ n ∧ n ≤ 512) = false) := by unfold Hid; simp [h0]
    have e1 : decide (96 ≤ n) = false := by simpa using h0
    go_enter Try.func75, Try.ntmps75
    go_wp2
    go_ret
    first | exact ⟨rfl, rfl⟩ | exact ⟨by rw [HE.out]; rfl, rfl⟩
theorem room_yes (n : Int) (h : 96 ≤ n ∧ n ≤ 512) (w : World) : Calls Try.prog 73 #[.int .i64 n] w fun e w' => e = .returned (.int .i64 (n - 19)) ∧ w = w' := by
  have hs := isSize_any n w
  rw [show decide (96 ≤ n ∧ n ≤ 512) = true by simpa using h] at hs
  have HS := Lib.hid hs
  obtain ⟨h0, h1⟩ := h
  clear hs
  go_enter Try.func73, Try.ntmps73
  go_wp2_with (go_at_call 75; (with_reducible refine HS.out.mono ?_); rintro e w' ⟨rfl, rfl⟩)
  go_ret
  exact ⟨rfl, rfl⟩

/-- A bound: a number, the least, the most. -/
structure Bnd where
  n : Int
  lo : Int
  hi : Int
instance : Inhabited Bnd := ⟨⟨0, 0, 0⟩⟩
def Bnd.ok (b : Bnd) : Bool := decide (b.lo ≤ b.n ∧ b.n ≤ b.hi)
def Bnd.cells (b : Bnd) : List Value := [.int .i64 b.n, .int .i64 b.lo, .int .i64 b.hi]
def bndCells (l : List Bnd) : List Value := l.flatMap Bnd.cells
theorem bnd_get : ∀ (l : List Bnd) (k : Nat), k < l.length → (bndCells l)[k * 3]? = some (.int .i64 (l[k]?.getD default).n) ∧ (bndCells l)[k * 3 + 1]? = some (.int .i64 (l[k]?.getD default).lo) ∧ (bndCells l)[k * 3 + 2]? = some (.int .i64 (l[k]?.getD default).hi)
  | [], k, h => by simp at h
  | b :: l, 0, _ => by simp [bndCells, Bnd.cells]
  | b :: l, k + 1, h => by
    have := bnd_get l k (by simpa using h)
    have e : bndCells (b :: l) = .int .i64 b.n :: .int .i64 b.lo :: .int .i64 b.hi :: bndCells l := by simp [bndCells, Bnd.cells]
    rw [e, show (k + 1) * 3 = k * 3 + 3 by omega, show k * 3 + 3 + 1 = (k * 3 + 1) + 3 by omega, show k * 3 + 3 + 2 = (k * 3 + 2) + 3 by omega]
    simpa using this

set_option maxHeartbeats 1000000 in
theorem met_any (l : List Bnd) (g : Nat) (t : TypeId) (w : World) (hl : l.length ≤ 100) (hg : w.heap[g]? = some (.cells (bndCells l).toArray t (0, 0))) :
    Calls Try.prog 54 #[.slice (some ⟨g, 0, none⟩) l.length l.length] w fun e w' => e = .returned (.bool (l.all Bnd.ok)) ∧ Below w.heap.size w w' := by
  have l1 : (l.length : Int) ≤ 100 := by omega
  have hlt := blk_lt hg
  have HG := Lib.hid hg
  clear hg
  go_enter Try.func54, Try.ntmps54
  go_wp2
  go_step3
  go_wp2
  go_step3
  go_wp2
  go_loopw [3, 8] (fun av iv wr => ∃ k : Nat, k ≤ l.length ∧ iv = .int .i64 k ∧ av = .bool true ∧ (∀ j, j < k → (l[j]?.getD default).ok = true) ∧ Below w.heap.size w wr) (fun _ iv _ => l.length - (intOf iv).toNat)
  case atStart => exact ⟨0, Nat.zero_le _, rfl, rfl, fun j hj => absurd hj (by omega), Below.refl _ _⟩
  case round =>
    obtain ⟨k, hk, rfl, rfl, hno, hB⟩ := hrel
    by_cases hkl : k < l.length
    · have hgr := (hB.block g hlt).trans HG.out
      obtain ⟨e0, e1, e2⟩ := bnd_get l k hkl
      have q0 : wr.cell? ⟨g, k * 3, none⟩ = some (.int .i64 (l[k]?.getD default).n) := by rw [blk_cell hgr]; simpa using e0
      have q1 : wr.cell? ⟨g, k * 3 + 1, none⟩ = some (.int .i64 (l[k]?.getD default).lo) := by rw [blk_cell hgr]; simpa using e1
      have q2 : wr.cell? ⟨g, k * 3 + 2, none⟩ = some (.int .i64 (l[k]?.getD default).hi) := by rw [blk_cell hgr]; simpa using e2
      have k0 : (0 : Int) ≤ k := by omega
      have k1 : (k : Int) < l.length := by omega
      have hmem : (l[k]?.getD default) ∈ l := by simp [hkl]
      have hfalse : (l[k]?.getD default).ok = false → Hid (l.all Bnd.ok = false) := fun h => by
        unfold Hid
        rw [List.all_eq_false]
        exact ⟨_, hmem, by simp [h]⟩
      obtain ⟨x, hx⟩ : ∃ x, l[k]?.getD default = x := ⟨_, rfl⟩
      rw [hx] at q0 q1 q2 hfalse
      have HX := Lib.hid hx
      have HN := Lib.hid hno
      have HB := Lib.hid hB
      clear hgr e0 e1 e2 hmem hx hno hB
      by_cases c1 : x.n < x.lo
      · have HF := hfalse (by unfold Bnd.ok; simp; omega)
        clear hfalse
        go_wp2
        (try rw [Exit.noGoto_ret])
        go_ret
        exact ⟨by rw [HF.out]; rfl, HB.out.alloc HB.out.size _⟩
      · have c1' : x.lo ≤ x.n := by omega
        by_cases c2 : x.hi < x.n
        · have HF := hfalse (by unfold Bnd.ok; simp; omega)
          clear hfalse c1
          go_wp2
          (try rw [Exit.noGoto_ret])
          go_ret
          exact ⟨by rw [HF.out]; rfl, HB.out.alloc HB.out.size _⟩
        · have c2' : x.n ≤ x.hi := by omega
          have hok : x.ok = true := by unfold Bnd.ok; simp; omega
          have HOK := Lib.hid hok
          clear hfalse c1 c2 hok
          go_wp2
          go_roundw
          case rel =>
            refine ⟨k + 1, by omega, by go_num, rfl, fun j hj => ?_, HB.out.alloc HB.out.size _⟩
            by_cases hjk : j = k
            · subst hjk; rw [HX.out]; exact HOK.out
            · exact HN.out j (by omega)
          case measure => simp [intOf]; omega
    · obtain rfl : k = l.length := by omega
      have hA : l.all Bnd.ok = true := by
        rw [List.all_eq_true]
        intro y hy
        obtain ⟨j, hj, rfl⟩ := List.mem_iff_getElem.1 hy
        have := hno j hj
        simpa [hj] using this
      have HA := Lib.hid hA
      have HB := Lib.hid hB
      clear hA hno hB
      go_wp2
      (try rw [Exit.noGoto_ret])
      go_ret
      exact ⟨by rw [HA.out]; rfl, HB.out⟩

end Go.Proofs.Ytfdipeaddofjaaa
namespace Go.Proofs.Ytfdipeaddofjaaa
open Go.RowKit

/-- A plan. -/
structure PlanP where
  sectors : Int
  size : Int
  regions : Int
  rs : Int
  log : Int
  depth : Int
  memory : Int
  seed : BitVec 64
def PlanP.cells (p : PlanP) : Array Value := #[.int .i64 p.sectors, .int .i64 p.size, .int .i64 p.regions, .int .i64 p.rs, .int .i64 p.log, .int .i64 p.depth, .int .i64 p.memory, .int .u64 (U p.seed)]
/-- A layout. -/
structure LayP where
  log : Int
  region : Int
  page : Int
  pages : Int
  per : Int
  slots : Int
  tree : Int
  room : Int
def LayP.cells (x : LayP) : Array Value := #[.int .i64 x.log, .int .i64 x.region, .int .i64 x.page, .int .i64 x.pages, .int .i64 x.per, .int .i64 x.slots, .int .i64 x.tree, .int .i64 x.room]
def LayP.zero : LayP := ⟨0, 0, 0, 0, 0, 0, 0, 0⟩

def PlanP.alone (p : PlanP) : List Bnd := [⟨p.size, 96, 512⟩, ⟨p.sectors, 1, 16384⟩, ⟨p.regions, 3, 64⟩, ⟨p.rs, 1, 32⟩, ⟨p.log, 4, 256⟩, ⟨p.depth, 0, 8⟩, ⟨p.memory, 8, 256⟩]
def PlanP.many (p : PlanP) : Int := ((2 ^ p.depth.toNat : Nat) : Int)
/-- The layout of a plan whose numbers, each alone, may be. -/
def PlanP.lay (p : PlanP) : LayP :=
  { log := 2, region := 2 + p.log, page := 2 + p.log + p.regions * p.rs, pages := p.sectors - (2 + p.log + p.regions * p.rs), per := (p.size - 19) / 12, slots := (p.size - 19 - 10) / 20,
    tree := 1 + (p.many + (p.size - 19) / 12 - 1) / ((p.size - 19) / 12) + p.many, room := p.rs * (p.size - 19) }
def PlanP.together (p : PlanP) : List Bnd := [⟨p.many, 1, p.lay.per * p.lay.per⟩, ⟨p.lay.pages, 3 * p.lay.tree + 4, 16384⟩]
/-- Is there a layout? -/
def PlanP.fits (p : PlanP) : Bool := p.alone.all Bnd.ok && p.together.all Bnd.ok
def PlanP.fit (p : PlanP) : LayP := if p.fits then p.lay else LayP.zero
def PlanP.err (p : PlanP) : Int := if p.fits then 0 else 12

/-- What a plan's numbers are, if each alone may be. -/
structure PlanP.Alone (p : PlanP) : Prop where
  size : 96 ≤ p.size ∧ p.size ≤ 512
  sectors : 1 ≤ p.sectors ∧ p.sectors ≤ 16384
  regions : 3 ≤ p.regions ∧ p.regions ≤ 64
  rs : 1 ≤ p.rs ∧ p.rs ≤ 32
  log : 4 ≤ p.log ∧ p.log ≤ 256
  depth : 0 ≤ p.depth ∧ p.depth ≤ 8
  memory : 8 ≤ p.memory ∧ p.memory ≤ 256
theorem alone_iff (p : PlanP) : p.alone.all Bnd.ok = true ↔ p.Alone := by
  unfold PlanP.alone Bnd.ok
  simp only [List.all_cons, List.all_nil, Bool.and_true, Bool.and_eq_true, decide_eq_true_eq]
  exact ⟨fun ⟨a, b, c, d, e, f, g⟩ => ⟨a, b, c, d, e, f, g⟩, fun h => ⟨h.size, h.sectors, h.regions, h.rs, h.log, h.depth, h.memory⟩⟩
theorem many_bound {p : PlanP} (h : p.Alone) : 1 ≤ p.many ∧ p.many ≤ 256 := by
  have h1 : p.depth.toNat ≤ 8 := by have := h.depth; omega
  have h2 : 2 ^ p.depth.toNat ≤ 2 ^ 8 := Nat.pow_le_pow_right (by decide) h1
  have h3 := Nat.two_pow_pos p.depth.toNat
  unfold PlanP.many
  omega
theorem prod_bound {a b x y : Int} (h0 : 0 ≤ a) (h1 : a ≤ x) (h2 : 0 ≤ b) (h3 : b ≤ y) : 0 ≤ a * b ∧ a * b ≤ x * y :=
  ⟨Int.mul_nonneg h0 h2, Int.mul_le_mul h1 h3 h2 (Int.le_trans h0 h1)⟩
theorem lay_bound {p : PlanP} (h : p.Alone) : (6 ≤ p.lay.per ∧ p.lay.per ≤ 41) ∧ (1 ≤ p.lay.slots ∧ p.lay.slots ≤ 24) ∧ (2 ≤ p.lay.tree ∧ p.lay.tree ≤ 400) ∧ (0 ≤ p.regions * p.rs ∧ p.regions * p.rs ≤ 2048) ∧ (-2400 ≤ p.lay.pages ∧ p.lay.pages ≤ 16384) ∧ (0 ≤ p.rs * (p.size - 19) ∧ p.rs * (p.size - 19) ≤ 20000) := by
  have hs := h.size
  have hm := many_bound h
  have h1 := prod_bound (a := p.regions) (b := p.rs) (x := 64) (y := 32) (by have := h.regions; omega) h.regions.2 (by have := h.rs; omega) h.rs.2
  have h2 := prod_bound (a := p.rs) (b := p.size - 19) (x := 32) (y := 493) (by have := h.rs; omega) h.rs.2 (by omega) (by omega)
  have hper : 6 ≤ p.lay.per ∧ p.lay.per ≤ 41 := by show 6 ≤ (p.size - 19) / 12 ∧ (p.size - 19) / 12 ≤ 41; omega
  have hdiv : 0 ≤ (p.many + p.lay.per - 1) / p.lay.per ∧ (p.many + p.lay.per - 1) / p.lay.per ≤ p.many + p.lay.per - 1 := ⟨Int.ediv_nonneg (by omega) (by omega), Int.ediv_le_self _ (by omega)⟩
  refine ⟨hper, ?_, ?_, ⟨h1.1, by omega⟩, ?_, h2.1, by omega⟩
  · show 1 ≤ (p.size - 19 - 10) / 20 ∧ (p.size - 19 - 10) / 20 ≤ 24; omega
  · show 2 ≤ 1 + (p.many + p.lay.per - 1) / p.lay.per + p.many ∧ 1 + (p.many + p.lay.per - 1) / p.lay.per + p.many ≤ 400
    have h3 : (p.many + p.lay.per - 1) / p.lay.per ≤ 60 := by
      have : (p.many + p.lay.per - 1) / p.lay.per < 61 := Int.ediv_lt_of_lt_mul (by omega) (by
        have : 6 * 61 ≤ p.lay.per * 61 := by omega
        rw [Int.mul_comm]
        omega)
      omega
    omega
  · show -2400 ≤ p.sectors - (2 + p.log + p.regions * p.rs) ∧ p.sectors - (2 + p.log + p.regions * p.rs) ≤ 16384
    have := h.sectors
    have := h.log
    omega

set_option maxRecDepth 100000 in
set_option maxHeartbeats 2000000 in
theorem lay_any (p : PlanP) (h : p.Alone) (w : World) : Calls Try.prog 55 #[.agg p.cells] w fun e w' => e = .returned (.agg p.lay.cells) ∧ Below w.heap.size w w' := by
  have hb := lay_bound h
  have hm := many_bound h
  have HR := Lib.hid (room_yes p.size h.size)
  have hs := h.size
  have hl := h.log
  have hsec := h.sectors
  obtain ⟨d, hd⟩ : ∃ d : Nat, p.depth = d := ⟨p.depth.toNat, by have := h.depth; omega⟩
  have hpow : wrap64 ((2 : Int) ^ d) = p.many := by
    have e : p.many = ((2 : Int) ^ d) := by unfold PlanP.many; rw [hd]; simp
    rw [← e]; exact IntWalk.wrap64_in _ ⟨by omega, by omega⟩
  have hw1 : wrap64 (p.regions * p.rs) = p.regions * p.rs := IntWalk.wrap64_in _ ⟨by omega, by omega⟩
  have hw2 : wrap64 (p.rs * (p.size - 19)) = p.rs * (p.size - 19) := IntWalk.wrap64_in _ ⟨by omega, by omega⟩
  have hcells : Hid (p.lay.cells = #[.int .i64 2, .int .i64 (2 + p.log), .int .i64 (2 + p.log + p.regions * p.rs), .int .i64 (p.sectors - (2 + p.log + p.regions * p.rs)), .int .i64 ((p.size - 19) / 12), .int .i64 ((p.size - 19 - 10) / 20), .int .i64 (1 + (p.many + (p.size - 19) / 12 - 1) / ((p.size - 19) / 12) + p.many), .int .i64 (p.rs * (p.size - 19))]) := rfl
  obtain ⟨hper, _, htree, hrr, _, hroom⟩ := hb
  have htree2 : 2 ≤ 1 + (p.many + (p.size - 19) / 12 - 1) / ((p.size - 19) / 12) + p.many ∧ 1 + (p.many + (p.size - 19) / 12 - 1) / ((p.size - 19) / 12) + p.many ≤ 400 := htree
  have hper2 : 6 ≤ (p.size - 19) / 12 ∧ (p.size - 19) / 12 ≤ 41 := hper
  unfold PlanP.cells
  rw [hcells.out]
  obtain ⟨hper2a, hper2b⟩ := hper2
  obtain ⟨hma, hmb⟩ := hm
  obtain ⟨hsa, hsb⟩ := hs
  obtain ⟨hla, hlb⟩ := hl
  obtain ⟨hra, hrb⟩ := hrr
  obtain ⟨hoa, hob⟩ := hroom
  obtain ⟨hca, hcb⟩ := hsec
  obtain ⟨hta, htb⟩ := htree2
  have hd8 : (d : Int) ≤ 8 := by have := h.depth; omega
  clear hcells hper htree h
  go_enter Try.func55, Try.ntmps55
  go_wp2_with (go_at_call 73; (with_reducible refine (HR.out _).mono ?_); rintro e w' ⟨rfl, rfl⟩)
  refine bodyPost_ret (v := .agg #[.int .i64 2, .int .i64 (2 + p.log), .int .i64 (2 + p.log + p.regions * p.rs), .int .i64 (p.sectors - (2 + p.log + p.regions * p.rs)), .int .i64 ((p.size - 19) / 12), .int .i64 ((p.size - 19 - 10) / 20), .int .i64 (1 + (p.many + (p.size - 19) / 12 - 1) / ((p.size - 19) / 12) + p.many), .int .i64 (p.rs * (p.size - 19))]) (by simp [results, Try.results55, go_sem]) rfl ⟨rfl, ?_⟩
  exact (((Below.refl _ w).alloc (Nat.le_refl _) _).alloc (by simp) _).alloc (by simp; omega) _

end Go.Proofs.Ytfdipeaddofjaaa

/-
  Proved: what any calls of a writer write is what the document says. Whatever comes in, the law WireWrites answers true and the arguments read as they did.
  Conditions: none.
-/
import Derived.Test.YtghbnomlejnfjaaActs03
import Derived.Test.YtghbnomlejnfjaaRef03
import Derived.Test.YtghbnomlejnfjaaWireLimits
import Derived.Deep.CutBlock
import Derived.Deep.RegionLaw
namespace Go.Proofs.Ytghbnomlejnfjaa
open Go.ChangeShapes Go.WideShapes Go.ChangeAt Go.RowKit

/-- The writer, the reference, the act in hand. -/
structure WAll (w : World) (B X Y : Nat) (x : Act3) (ux : Value) (row : List (BitVec 8)) (limit : Int) (full : Bool) (row' : List (BitVec 8)) (full' : Bool) (wr : World) : Prop where
  both : ∃ v u, WriterAt w.heap.size wr B v row limit full ∧ wr.heap[X]? = some (.cells #[u, .int .i64 limit, .bool full'] 37 (0, 0)) ∧ BytesAt wr.heap.size wr u row' ∧ (row' ≠ [] → ∀ k, u.ownBlock = some k → ¬ wS B v k)
  act : wr.heap[Y]? = some (.cells #[.int .i64 x.kind, .int .i64 x.len, .int .u64 (U x.n), ux] 39 (0, 0))
  arg : BytesAt w.heap.size wr ux x.b
  below : Below w.heap.size w wr
  far : w.heap.size ≤ B ∧ w.heap.size ≤ X
section
variable {w wr w2 : World} {B X Y : Nat} {x : Act3} {ux : Value} {row row' r1 : List (BitVec 8)} {limit : Int} {full full' b1 : Bool}
theorem WAll.on (h : WAll w B X Y x ux row limit full row' full' wr) (hb : Below wr.heap.size wr w2) : WAll w B X Y x ux row limit full row' full' w2 := by
  obtain ⟨v, u, hA, hX, hu, hd⟩ := h.both
  refine ⟨⟨v, u, hA.below hb, (hb.block X (blk_lt hX)).trans hX, (hu.below hb).mono hb.size, hd⟩, (hb.block Y (blk_lt h.act)).trans h.act, h.arg.below (hb.mono h.below.size), h.below.trans (hb.mono h.below.size), h.far⟩
theorem WAll.writeStep (h : WAll w B X Y x ux row limit full row' full' wr) {v v' : Value} (hA : WriterAt w.heap.size wr B v row limit full) (hd : ∃ u, wr.heap[X]? = some (.cells #[u, .int .i64 limit, .bool full'] 37 (0, 0)) ∧ BytesAt wr.heap.size wr u row' ∧ (row' ≠ [] → ∀ k, u.ownBlock = some k → ¬ wS B v k))
    (hA2 : WriterAt w.heap.size w2 B v' r1 limit b1) (hS : WStep B v v' wr w2) : WAll w B X Y x ux r1 limit b1 row' full' w2 := by
  obtain ⟨u, hX, hu, hd⟩ := hd
  have hXB : ¬ wS B v X := by
    rintro (rfl | e)
    · exact blk_ne hX hA.blk (by decide) rfl
    · exact own_ne hA.own hX (by decide) e
  have hYB : ¬ wS B v Y := by
    rintro (rfl | e)
    · exact blk_ne h.act hA.blk (by decide) rfl
    · exact own_ne hA.own h.act (by decide) e
  have hB : Below w.heap.size wr w2 := hS.moves.below (fun i hi => by
    rcases hi with rfl | hi
    · exact h.far.1
    · exact (hA.own.lt i hi).1) h.below.size
  refine ⟨⟨v', u, hA2, (hS.moves.block X (blk_lt hX) hXB).trans hX, ?_, fun hne k e hk => ?_⟩, (hS.moves.block Y (blk_lt h.act) hYB).trans h.act, h.arg.below hB, h.below.trans hB, h.far⟩
  · exact (hu.keep fun hne p hp hlt => hS.moves.cell hlt (hd hne _ hp)).mono hS.moves.size
  · have hlt := hu.lt hne e
    rcases hk with rfl | hk
    · exact hd hne _ e (.inl rfl)
    · rcases hS.own k hk with e2 | e2
      · exact hd hne _ e (.inr e2)
      · omega
theorem WAll.refStep (h : WAll w B X Y x ux row limit full row' full' wr) {v u u' : Value} (hA : WriterAt w.heap.size wr B v row limit full) (hX : wr.heap[X]? = some (.cells #[u, .int .i64 limit, .bool full'] 37 (0, 0))) (hd : row' ≠ [] → ∀ k, u.ownBlock = some k → ¬ wS B v k) (hu : BytesAt wr.heap.size wr u row')
    (hb : Below wr.heap.size wr w2) (hu2 : BytesAt w2.heap.size w2 u' r1) (hown : (∀ k, u'.ownBlock = some k → wr.heap.size ≤ k) ∨ (u' = u ∧ r1 = row')) :
    WAll w B X Y x ux row limit full r1 b1 (((w2.setCell ⟨X, 0, none⟩ u').setCell ⟨X, 1, none⟩ (.int .i64 limit)).setCell ⟨X, 2, none⟩ (.bool b1)) := by
  have h2 := h.on hb
  have hX2 := (hb.block X (blk_lt hX)).trans hX
  have hA2 := hA.below hb
  have hm : Moves (fun k => k = X) w2 (((w2.setCell ⟨X, 0, none⟩ u').setCell ⟨X, 1, none⟩ (.int .i64 limit)).setCell ⟨X, 2, none⟩ (.bool b1)) :=
    (((Moves.refl (fun k => k = X) w2).setCell (p := ⟨X, 0, none⟩) (fun _ => rfl) _).setCell (p := ⟨X, 1, none⟩) (fun _ => rfl) _).setCell (p := ⟨X, 2, none⟩) (fun _ => rfl) _
  have hXB : B ≠ X := fun e => by subst e; exact blk_ne hX hA.blk (by decide) rfl
  have hXv : v.ownBlock ≠ some X := own_ne hA.own hX (by decide)
  have hXY : Y ≠ X := fun e => by subst e; exact blk_ne hX h.act (by decide) rfl
  have hB : Below w.heap.size w2 (((w2.setCell ⟨X, 0, none⟩ u').setCell ⟨X, 1, none⟩ (.int .i64 limit)).setCell ⟨X, 2, none⟩ (.bool b1)) := hm.below (fun i hi => by subst hi; exact h.far.2) h2.below.size
  refine ⟨⟨v, u', ⟨(hm.block B (blk_lt hA2.blk) hXB).trans hA2.blk, hm.row hA2.own (fun k e ek => hXv (by subst ek; exact e))⟩, blk_set (blk_set (blk_set hX2 0 _) 1 _) 2 _, ?_, fun hne1 k e hk => ?_⟩, (hm.block Y (blk_lt h2.act) hXY).trans h2.act, h2.arg.below hB, h2.below.trans hB, h.far⟩
  · refine (hu2.keep fun hne1 p hp hlt => hm.cell hlt fun hpX => ?_).mono hm.size
    have hpX : p.block = X := hpX
    obtain ⟨a, cap, rfl, _, _, hc⟩ := hu2
    rcases hc with hc | ⟨g, off, rfl, _, hc⟩
    · exact hne1 hc
    · have hg : g = X := by
        have : g = p.block := by simpa [Value.ownBlock] using hp
        omega
      subst hg
      have h1 := hc 0 (List.length_pos_iff.2 hne1)
      rw [blk_cell hX2] at h1
      match off with
      | 0 =>
        have : u = .int .u8 (U (r1[0]?.getD 0)) := by simpa using h1
        obtain ⟨_, _, e, _⟩ := hu
        rw [this] at e
        cases e
      | 1 => simp at h1
      | 2 => simp at h1
      | k + 3 => simp at h1
  · have hlt : k < wr.heap.size := by
      rcases hk with rfl | hk
      · exact blk_lt hA.blk
      · exact (hA.own.lt k hk).2
    rcases hown with hown | ⟨rfl, rfl⟩
    · have := hown k e; omega
    · exact hd hne1 k e hk
theorem WAll.refFull (h : WAll w B X Y x ux row limit full row' full' wr) : WAll w B X Y x ux row limit full row' true (wr.setCell ⟨X, 2, none⟩ (.bool true)) := by
  obtain ⟨v, u, hA, hX, hu, hd⟩ := h.both
  have hm : Moves (fun k => k = X) wr (wr.setCell ⟨X, 2, none⟩ (.bool true)) := (Moves.refl (fun k => k = X) wr).setCell (p := ⟨X, 2, none⟩) (fun _ => rfl) _
  have hXB : B ≠ X := fun e => by subst e; exact blk_ne hX hA.blk (by decide) rfl
  have hXv : v.ownBlock ≠ some X := own_ne hA.own hX (by decide)
  have hXY : Y ≠ X := fun e => by subst e; exact blk_ne hX h.act (by decide) rfl
  have hB : Below w.heap.size wr (wr.setCell ⟨X, 2, none⟩ (.bool true)) := hm.below (fun i hi => by subst hi; exact h.far.2) h.below.size
  refine ⟨⟨v, u, ⟨(hm.block B (blk_lt hA.blk) hXB).trans hA.blk, hm.row hA.own (fun k e ek => hXv (by subst ek; exact e))⟩, blk_set hX 2 _, ?_, hd⟩, (hm.block Y (blk_lt h.act) hXY).trans h.act, h.arg.below hB, h.below.trans hB, h.far⟩
  refine (hu.keep fun hne1 p hp hlt => hm.cell hlt fun hpX => ?_).mono hm.size
  have hpX : p.block = X := hpX
  obtain ⟨a, cap, rfl, _, _, hc⟩ := hu
  rcases hc with hc | ⟨g, off, rfl, _, hc⟩
  · exact hne1 hc
  · have hg : g = X := by
      have : g = p.block := by simpa [Value.ownBlock] using hp
      omega
    subst hg
    have h1 := hc 0 (List.length_pos_iff.2 hne1)
    rw [blk_cell hX] at h1
    match off with
    | 0 => simp at h1
    | 1 => simp at h1
    | 2 => simp at h1
    | k + 3 => simp at h1

theorem WAll.use (h : WAll w B X Y x ux row limit full row' full' wr) : ∃ v a c, WriterAt w.heap.size wr B v row limit full ∧ wr.heap[X]? = some (.cells #[.slice a row'.length c, .int .i64 limit, .bool full'] 37 (0, 0)) ∧ BytesAt wr.heap.size wr (.slice a row'.length c) row' ∧ (row' ≠ [] → ∀ k, (Value.slice a row'.length c).ownBlock = some k → ¬ wS B v k) := by
  obtain ⟨v, u, hA, hX, hu, hd⟩ := h.both
  obtain ⟨a, c, rfl, _⟩ := id hu
  exact ⟨v, a, c, hA, hX, hu, hd⟩
theorem wRow_len (row : List (BitVec 8)) (limit : Int) (full : Bool) (bs : List (BitVec 8)) : (wRow row limit full (some bs)).length ≤ row.length + bs.length := by
  unfold wRow
  dsimp only
  split
  · omega
  · rw [List.length_append]; exact Nat.le_refl _

theorem own_len {w w' : World} {b : Nat} {v : Value} {n m : Nat} {cs : List Value} (h : w.ownsRow w'.drew.heap.size b 1 v n cs) (e : m = n) : w.ownsRow w'.heap.size b 1 v m cs := by
  subst e; exact h
theorem own_bytes {w : World} {b : Nat} {v : Value} {n : Nat} {bs : List (BitVec 8)} (h : w.ownsRow b 5 1 v n (cellsOf bs)) (e : n = bs.length) : BytesAt w.heap.size w v bs := by
  subst e; exact BytesAt.of_owns h
/-- Between two rounds. -/
def WPair (w : World) (B X : Nat) (limit : Int) (n : Nat) (wr : World) : Prop := ∃ (v : Value) (u : Value) (row : List (BitVec 8)) (full : Bool), row.length ≤ n ∧ WriterAt w.heap.size wr B v row limit full ∧ wr.heap[X]? = some (.cells #[u, .int .i64 limit, .bool full] 37 (0, 0)) ∧ BytesAt wr.heap.size wr u row ∧ (row ≠ [] → ∀ k, u.ownBlock = some k → ¬ wS B v k) ∧ Below w.heap.size w wr ∧ w.heap.size ≤ B ∧ w.heap.size ≤ X
theorem WAll.pair (h : WAll w B X Y x ux row limit full row full wr) {n : Nat} (hn : row.length ≤ n) : WPair w B X limit n wr := by
  obtain ⟨v, u, hA, hX, hu, hd⟩ := h.both
  exact ⟨v, u, row, full, hn, hA, hX, hu, hd, h.below, h.far⟩
theorem WPair.on {n : Nat} (h : WPair w B X limit n wr) (hb : Below wr.heap.size wr w2) : WPair w B X limit n w2 := by
  obtain ⟨v, u, row, full, hn, hA, hX, hu, hd, hB, hf⟩ := h
  exact ⟨v, u, row, full, hn, hA.below hb, (hb.block X (blk_lt hX)).trans hX, (hu.below hb).mono hb.size, hd, hB.trans (hb.mono hB.size), hf⟩
end

set_option maxRecDepth 100000 in
set_option maxHeartbeats 8000000 in
theorem wireWrites_walk (lim : Int) (l : List Act3) (v : Value) (w : World) (hlim : lim ≤ 9223372036854775807) (hv : ActsAt w.heap.size w v l) (hm : l.length ≤ maxLen) : Calls Try.prog 5 #[.int .i64 lim, v] w (Good w) := by
  have HL := Lib.hid (light_any l v w hv hm)
  unfold maxLen at hm
  obtain ⟨a, cap, rfl, hcap, hwf, hv⟩ := hv
  cases hlight : lightB l with
  | false =>
    rw [hlight] at HL
    clear hlight hwf hv
    go_enter Try.func5, Try.ntmps5
    go_wp2_with (go_at_call 18; refine HL.out.mono ?_; rintro e w' ⟨rfl, rfl⟩)
    go_ret
    exact ⟨rfl, Below.refl _ _⟩
  | true =>
    rw [hlight] at HL
    have hl40 : l.length ≤ 40 := by simp [lightB] at hlight; exact hlight.1
    have b1 : (l.length : Int) ≤ 40 := by omega
    have hshort : ∀ i : Nat, (l[i]?.getD default).b.length ≤ 300 := fun i => by
      by_cases hi : i < l.length
      · simp [lightB] at hlight
        simpa [hi] using hlight.2 _ (List.getElem_mem hi)
      · rw [List.getElem?_eq_none (by omega)]; exact Nat.zero_le _
    have HS := Lib.hid hshort
    clear hlight hshort hwf
    obtain ⟨limit, hlm⟩ : ∃ limit, max lim 0 = limit := ⟨_, rfl⟩
    have x0 : 0 ≤ limit := by omega
    have x1 : limit ≤ 9223372036854775807 := by omega
    have hnw := newWriter_any lim w
    rw [hlm] at hnw
    have HNW := Lib.hid hnw
    have HLM := Lib.hid hlm
    clear hnw hlm
    go_enter Try.func5, Try.ntmps5
    go_upto_region 4 with (first
      | (go_at_call 18; refine HL.out.mono ?_; rintro e w' ⟨rfl, rfl⟩)
      | (go_at_call 19; refine HNW.out.mono ?_; rintro e w' ⟨rfl, rfl⟩))
    go_cut [6] (fun s6 wx => s6 = .pointer (some ⟨w.heap.size + 1, 0, none⟩) ∧ WPair w w.heap.size (w.heap.size + 1) limit 0 wx)
    case first =>
      have hfin : WPair w w.heap.size (w.heap.size + 1) limit 0 ((w.alloc (.cells #[.slice none 0 0, .int .i64 limit, .bool false] 73)).alloc (.cells #[.slice none 0 0, .int .i64 limit, .bool false] 37)) := by
        have h2 := heap_alloc_new (w.alloc (.cells #[.slice none 0 0, .int .i64 limit, .bool false] 73)) (.cells #[.slice none 0 0, .int .i64 limit, .bool false] 37)
        have e : (w.alloc (.cells #[.slice none 0 0, .int .i64 limit, .bool false] 73)).heap.size = w.heap.size + 1 := by simp
        rw [e] at h2
        exact ⟨.slice none 0 0, .slice none 0 0, [], false, Nat.le_refl _, ⟨blk_alloc (heap_alloc_new _ _) _, World.ownsRow_nil _ _ _ _⟩, h2, BytesAt.nil _ _, fun h => absurd rfl h, ((Below.refl _ w).alloc (Nat.le_refl _) _).alloc (by simp) _, Nat.le_refl _, Nat.le_succ _⟩
      have HFIN := Lib.hid hfin
      clear hfin
      by_cases hneg : lim < 0
      · have e := HLM.out
        obtain rfl : limit = 0 := by omega
        clear e
        go_wp2_with fail
        go_meet
        exact ⟨rfl, HFIN.out⟩
      · have e := HLM.out
        obtain rfl : limit = lim := by omega
        clear e
        have hpos : 0 ≤ limit := x0
        go_wp2_with fail
        all_goals go_meet
        all_goals exact ⟨rfl, HFIN.out⟩
    case rest =>
      obtain ⟨rfl, hP⟩ := hcut
      go_wp2_with fail
      go_loopw [7] (fun iv wr => ∃ k : Nat, k ≤ l.length ∧ iv = .int .i64 k ∧ WPair w w.heap.size (w.heap.size + 1) limit (302 * k) wr) (fun iv _ => l.length - (intOf iv).toNat)
      case atStart => exact ⟨0, Nat.zero_le _, rfl, hP⟩
      case round =>
        obtain ⟨k, hk, rfl, v1, u1, row, full, hn, hA, hX, hu, hd, hB, hfar1, hfar2⟩ := hrel
        by_cases hlt : k < l.length
        · rcases hv with h | ⟨g, off, rfl, hg, hc⟩
          · subst h; simp at hlt
          have hact := (hc k hlt).below hB hg
          have hbl := HS.out k
          have k0 : (0 : Int) ≤ k := by omega
          have k1 : (k : Int) < l.length := by omega
          generalize l[k]?.getD default = x at hact hbl
          obtain ⟨c0, c1, c2, ux, c3, hux⟩ := hact
          have hall : WAll w w.heap.size (w.heap.size + 1) wr.heap.size x ux row limit full row full (wr.alloc (.cells #[.int .i64 x.kind, .int .i64 x.len, .int .u64 (U x.n), ux] 39)) := by
            have hb := (Below.refl wr.heap.size wr).alloc (Nat.le_refl _) (.cells #[.int .i64 x.kind, .int .i64 x.len, .int .u64 (U x.n), ux] 39)
            exact ⟨⟨v1, u1, hA.below hb, (hb.block _ (blk_lt hX)).trans hX, (hu.below hb).mono hb.size, hd⟩, heap_alloc_new _ _, hux.below (hb.mono hB.size), hB.trans (hb.mono hB.size), Nat.le_refl _, Nat.le_succ _⟩
          obtain ⟨aux, cux, rfl, _⟩ := id hux
          have HALL := Lib.hid hall
          clear hA hX hu hd hB hc hux hall
          go_upto_block 2 with (fail)
          obtain ⟨Wy, hWy⟩ : ∃ Wy, wr.alloc (.cells #[.int .i64 x.kind, .int .i64 x.len, .int .u64 (U x.n), .slice aux x.b.length cux] 39) = Wy := ⟨_, rfl⟩
          rw [hWy] at HALL ⊢
          clear hWy c0 c1 c2 c3
          obtain ⟨Y, hY⟩ : ∃ Y, wr.heap.size = Y := ⟨_, rfl⟩
          rw [hY] at HALL ⊢
          clear hY
          have hrow : row.length ≤ 302 * k := hn
          go_cut [9] (fun _s9 wx => WPair w w.heap.size (w.heap.size + 1) limit (302 * (k + 1)) wx)
          case first =>
            obtain ⟨v2, a2, cp2, hA2, hX2, hu2, hd2⟩ := HALL.out.use
            have hY2 := HALL.out.act
            have y0 : Wy.cell? ⟨Y, 0, none⟩ = some (.int .i64 x.kind) := blk_cell hY2 0
            have y1 : Wy.cell? ⟨Y, 1, none⟩ = some (.int .i64 x.len) := blk_cell hY2 1
            have y2 : Wy.cell? ⟨Y, 2, none⟩ = some (.int .u64 (U x.n)) := blk_cell hY2 2
            have y3 : Wy.cell? ⟨Y, 3, none⟩ = some (.slice aux x.b.length cux) := blk_cell hY2 3
            have HA2 := Lib.hid hA2
            have HX2 := Lib.hid (show ∃ u, Wy.heap[w.heap.size + 1]? = some (.cells #[u, .int .i64 limit, .bool full] 37 (0, 0)) ∧ BytesAt Wy.heap.size Wy u row ∧ (row ≠ [] → ∀ k, u.ownBlock = some k → ¬ wS w.heap.size v2 k) from ⟨_, hX2, hu2, hd2⟩)
            cases hk0 : ((wrap64 (x.kind.tmod 3 + 3)).tmod 3 == 0) with
            | true =>
              cases hmay : mayB x.len with
              | true =>
                obtain ⟨kn, hkn, hk8⟩ : ∃ kn : Nat, x.len = kn ∧ kn ≤ 8 ∧ kn ≠ 0 := by
                  have : x.len = 1 ∨ x.len = 2 ∨ x.len = 4 ∨ x.len = 8 := by simpa [mayB] using hmay
                  exact ⟨x.len.toNat, by omega, by omega, by omega⟩
                have hnum : numB x.n x.len = some (leB kn x.n) := by unfold numB; rw [if_pos hmay, hkn]; rfl
                have hw := number_any w.heap.size w.heap.size v2 row limit full x.n x.len Wy hA2 x0 x1 (by omega) HALL.out.below.size
                have hrn := fun W => refNumber_yes x.n kn (by rw [← hkn]; exact hmay) W
                rw [hnum] at hw
                rw [← hkn] at hrn
                have hlb := leB_len kn x.n
                have hln := wRow_len row limit full (leB kn x.n)
                have e0 : (x.len == 0) = false := by rw [hkn]; simp; omega
                have HW := Lib.hid hw
                have HRN := Lib.hid hrn
                have HKN := Lib.hid hkn
                clear hA2 hX2 hu2 hd2 hY2 hw hrn hkn hnum hmay
                generalize leB kn x.n = lb at HW HRN hlb hln
                subst hlb
                have kk : (lb.length : Int) ≤ 8 := by omega
                have kz : ((lb.length : Int) == 0) = false := by simp; exact fun e => by subst e; simp at hk8
                have kz2 : lb ≠ [] := fun e => by subst e; simp at hk8
                go_upto_region 17 with (first
                  | (go_at_call 20; (with_reducible refine HW.out.mono ?_); rintro e w3 ⟨rfl, v3, hA3, hS3⟩; have hall3 := HALL.out.writeStep HA2.out HX2.out hA3 hS3; have hY3 := hall3.act; have y1' : w3.cell? ⟨Y, 1, none⟩ = some (.int .i64 x.len) := blk_cell hY3 1; have y2' : w3.cell? ⟨Y, 2, none⟩ = some (.int .u64 (U x.n)) := blk_cell hY3 2; have HALL3 := Lib.hid hall3; clear hA3 hS3 hall3 hY3)
                  | (go_at_call 21; (with_reducible refine (HRN.out _).mono ?_); rintro e w5 ⟨u5, rfl, hu5, hb5⟩; have HU5 := Lib.hid (BytesAt.of_owns hu5); obtain ⟨a5, cp5, rfl⟩ := owns_slice hu5; have HALL5 := Lib.hid (HALL3.out.on hb5); clear hu5 hb5))
                obtain ⟨v3, a3, cp3, hA3, hX3, hu3, hd3⟩ := HALL5.out.use
                have p0 : w5.cell? ⟨w.heap.size + 1, 0, none⟩ = some (.slice a3 row.length cp3) := blk_cell hX3 0
                have p1 : w5.cell? ⟨w.heap.size + 1, 1, none⟩ = some (.int .i64 limit) := blk_cell hX3 1
                have p2 : w5.cell? ⟨w.heap.size + 1, 2, none⟩ = some (.bool full) := blk_cell hX3 2
                have HPut := Lib.hid (refPut_any _ _ row lb limit full w5 hu3 HU5.out (by omega) (by omega))
                have HA3 := Lib.hid hA3
                have HX3 := Lib.hid hX3
                have HU3 := Lib.hid hu3
                have HD3 := Lib.hid hd3
                clear hA3 hX3 hu3 hd3
                generalize wRow row limit full (some lb) = rw at HALL5 HPut hln HA3
                generalize wFull row limit full (some lb) = bf at HALL5 HPut HA3
                go_wp2_with (first
                  | (go_at_call 22; (with_reducible refine HPut.out.mono ?_); rintro e w4 ⟨u4, rfl, hu4, hb4, hn4⟩; obtain ⟨a4, c4, rfl, _⟩ := id hu4; have hX4 := (hb4.block _ (blk_lt HX3.out)).trans HX3.out; have z0 := blk_cell hX4 0; have z1 := blk_cell hX4 1; have z2 := blk_cell hX4 2; have zf := blk_frozen hX4; have HF4 := Lib.hid (HALL5.out.refStep (b1 := bf) HA3.out HX3.out HD3.out HU3.out hb4 hu4 hn4); clear hX4 hu4 hb4 hn4))
                go_meet
                exact HF4.out.pair (by omega)
              | false =>
                have hnum : numB x.n x.len = none := by simp [numB, hmay]
                have hw := number_any w.heap.size w.heap.size v2 row limit full x.n x.len Wy hA2 x0 x1 (by omega) HALL.out.below.size
                rw [hnum] at hw
                have HW := Lib.hid hw
                have HRN := Lib.hid (fun W => refNumber_no x.n x.len hmay W)
                clear hA2 hX2 hu2 hd2 hY2 hw hnum hmay
                go_upto_region 16 with (first
                  | (go_at_call 20; (with_reducible refine HW.out.mono ?_); rintro e w3 ⟨rfl, v3, hA3, hS3⟩; have hall3 := HALL.out.writeStep HA2.out HX2.out hA3 hS3; have hY3 := hall3.act; have y1' : w3.cell? ⟨Y, 1, none⟩ = some (.int .i64 x.len) := blk_cell hY3 1; have y2' : w3.cell? ⟨Y, 2, none⟩ = some (.int .u64 (U x.n)) := blk_cell hY3 2; have HALL3 := Lib.hid hall3; clear hA3 hS3 hall3 hY3)
                  | (go_at_call 21; (with_reducible refine (HRN.out _).mono ?_); rintro e w5 ⟨rfl, rfl⟩))
                obtain ⟨v3, a3, cp3, hA3, hX3, hu3, hd3⟩ := HALL3.out.use
                have p2 : w3.cell? ⟨w.heap.size + 1, 2, none⟩ = some (.bool full) := blk_cell hX3 2
                have pf := blk_frozen hX3
                have HF := Lib.hid HALL3.out.refFull
                clear hA3 hX3 hu3 hd3
                go_wp2_with fail
                go_meet
                exact HF.out.pair (by show row.length ≤ _; omega)
            | false =>
              cases hk1 : ((wrap64 (x.kind.tmod 3 + 3)).tmod 3 == 1) with
              | true =>
                obtain ⟨i0, hi, hz0, hz1, hz2⟩ := info_parts Try.infoU8
                have htx : textB x.b = some (leB 2 (BitVec.ofNat 64 x.b.length) ++ x.b) := by unfold textB; rw [if_pos (by omega)]
                have hw := text_any w.heap.size w.heap.size v2 row limit full _ x.b Wy hA2 (HALL.out.arg.mono HALL.out.below.size) (text_arg hA2 HALL.out.arg (Nat.le_refl _) (Nat.le_refl _)) x0 x1 (by omega) (by omega) HALL.out.below.size
                rw [htx] at hw
                have hln := wRow_len row limit full (leB 2 (BitVec.ofNat 64 x.b.length) ++ x.b)
                have hl2 := leB_len 2 (BitVec.ofNat 64 x.b.length)
                rw [List.length_append] at hln
                have hwr : IntKind.u64.wrap (x.b.length : Int) = U (BitVec.ofNat 64 x.b.length) := by rw [← U_ofNat (n := 64) (m := x.b.length) (by omega)]; simp [IntKind.wrap, IntKind.bits, IntKind.signed]; omega
                have hrn : ∀ W : World, Calls Try.prog 21 #[.int .u64 (U (BitVec.ofNat 64 x.b.length)), .int .i64 2] W fun e w' => ∃ u, e = .returned u ∧ w'.ownsRow W.heap.size 5 1 u 2 (cellsOf (leB 2 (BitVec.ofNat 64 x.b.length))) ∧ Below W.heap.size W w' := fun W => refNumber_yes (BitVec.ofNat 64 x.b.length) 2 rfl W
                have HW := Lib.hid hw
                have HRN := Lib.hid hrn
                clear hA2 hX2 hu2 hd2 hY2 hw hrn htx
                generalize leB 2 (BitVec.ofNat 64 x.b.length) = lb at HW HRN hln hl2
                go_upto_region 20 with (first
                  | (go_at_call 23; (with_reducible refine HW.out.mono ?_); rintro e w3 ⟨rfl, v3, hA3, hS3⟩; have HALL3 := Lib.hid (HALL.out.writeStep HA2.out HX2.out hA3 hS3); clear hA3 hS3))
                obtain ⟨v3, a3, cp3, hA3, hX3, hu3, hd3⟩ := HALL3.out.use
                have hY3 := HALL3.out.act
                have y3' : w3.cell? ⟨Y, 3, none⟩ = some (.slice aux x.b.length cux) := blk_cell hY3 3
                have p0 : w3.cell? ⟨w.heap.size + 1, 0, none⟩ = some (.slice a3 row.length cp3) := blk_cell hX3 0
                have p1 : w3.cell? ⟨w.heap.size + 1, 1, none⟩ = some (.int .i64 limit) := blk_cell hX3 1
                have p2 : w3.cell? ⟨w.heap.size + 1, 2, none⟩ = some (.bool full) := blk_cell hX3 2
                have HA3 := Lib.hid hA3
                have HX3 := Lib.hid hX3
                have HU3 := Lib.hid hu3
                have HD3 := Lib.hid hd3
                have HRN3 := Lib.hid (HRN.out w3.drew)
                have hlb : (lb ++ x.b).length ≤ 302 := by rw [List.length_append]; omega
                have hput := fun (W : World) (vv u : Value) (h1 : BytesAt W.heap.size W vv row) (h2 : BytesAt W.heap.size W u (lb ++ x.b)) => refPut_any vv u row (lb ++ x.b) limit full W h1 h2 (by omega) (by omega)
                generalize wRow row limit full (some (lb ++ x.b)) = rw at HALL3 hput hln HA3
                generalize wFull row limit full (some (lb ++ x.b)) = bf at HALL3 hput HA3
                have HPUT := Lib.hid hput
                clear hA3 hX3 hu3 hd3 hput
                go_region_law (first
                  | (refine step_append_bytes (by rfl) _ _ (by rfl) (by rfl) w3.heap.size i0 hi hz0 hz1 hz2 (.slice a5 2 cp5) (by rfl) lb HO5.out (.slice aux x.b.length cux) (by rfl) w.heap.size x.b (HB5.out.1) (by omega) HB5.out.2.size ?_; intro v6 w6 n6 HN6 hown6 hgrow6 hat6; have hb6 : Below w3.heap.size w3 w6 := HB5.out.2.grown hgrow6 HB5.out.2.size (fun k e => (HO5.out.lt k e).1); obtain ⟨a6, cp6, rfl⟩ := owns_slice hown6; have HPut6 := Lib.hid (HPUT.out w6 (.slice a3 row.length cp3) (.slice a6 n6 cp6) ((HU3.out.below hb6).mono hb6.size) (own_bytes hown6 HN6.out)); have hX6 := (hb6.block _ (blk_lt HX3.out)).trans HX3.out; have r0 := blk_cell hX6 0; have r1 := blk_cell hX6 1; have r2 := blk_cell hX6 2; have HX6 := Lib.hid hX6; have HALL6 := Lib.hid (HALL3.out.on hb6); have HA6 := Lib.hid (HA3.out.below hb6); have HU6 := Lib.hid ((HU3.out.below hb6).mono hb6.size); clear hown6 hgrow6 hat6 hb6 hX6)
                  | (go_simp; go_at_call 22; (with_reducible refine HPut6.out.mono ?_); rintro e w8 ⟨u8, rfl, hu8, hb8, hn8⟩; obtain ⟨a8, c8, rfl, _⟩ := id hu8; have hX8 := (hb8.block _ (blk_lt HX6.out)).trans HX6.out; have z0 := blk_cell hX8 0; have z1 := blk_cell hX8 1; have z2 := blk_cell hX8 2; have zf := blk_frozen hX8; have HF8 := Lib.hid (HALL6.out.refStep (b1 := bf) HA6.out HX6.out HD3.out HU6.out hb8 hu8 hn8); clear hX8 hu8 hb8 hn8)
                  | (go_simp; go_at_call 21; (with_reducible refine HRN3.out.mono ?_); rintro e w5 ⟨u5, rfl, hu5, hb5d⟩; have hb5 : Below w3.heap.size w3 w5 := ⟨hb5d.os, hb5d.tape, hb5d.output, hb5d.size, hb5d.block⟩; obtain ⟨a5, cp5, rfl⟩ := owns_slice hu5; have HO5 := Lib.hid (own_len hu5 hl2); have y3'' : w5.cell? ⟨Y, 3, none⟩ = some (.slice aux x.b.length cux) := blk_cell ((hb5.block _ (blk_lt HALL3.out.act)).trans HALL3.out.act) 3; have HB5 := Lib.hid (And.intro (HALL3.out.arg.below (hb5.mono HALL3.out.below.size)) hb5); have hX5 := (hb5.block _ (blk_lt HX3.out)).trans HX3.out; have q0 := blk_cell hX5 0; have q1 := blk_cell hX5 1; have q2 := blk_cell hX5 2; clear hu5 hb5d hb5 hX5))
                all_goals (go_wp2_with fail)
                all_goals go_meet
                all_goals (first | exact HF8.out.pair (by omega) | exact (HF8.out.pair (by omega)).on (Below.refl _ _).drew)
              | false =>
                have HW := Lib.hid (raw_any w.heap.size w.heap.size v2 row limit full _ x.b Wy hA2 (HALL.out.arg.mono HALL.out.below.size) x0 x1 (by omega) (by omega) HALL.out.below.size)
                have hln := wRow_len row limit full x.b
                clear hA2 hX2 hu2 hd2 hY2
                go_upto_region 11 with (first
                  | (go_at_call 24; (with_reducible refine HW.out.mono ?_); rintro e w3 ⟨rfl, v3, hA3, hS3⟩; have HALL3 := Lib.hid (HALL.out.writeStep HA2.out HX2.out hA3 hS3); clear hA3 hS3))
                obtain ⟨v3, a3, cp3, hA3, hX3, hu3, hd3⟩ := HALL3.out.use
                have hY3 := HALL3.out.act
                have y3' : w3.cell? ⟨Y, 3, none⟩ = some (.slice aux x.b.length cux) := blk_cell hY3 3
                have p0 : w3.cell? ⟨w.heap.size + 1, 0, none⟩ = some (.slice a3 row.length cp3) := blk_cell hX3 0
                have p1 : w3.cell? ⟨w.heap.size + 1, 1, none⟩ = some (.int .i64 limit) := blk_cell hX3 1
                have p2 : w3.cell? ⟨w.heap.size + 1, 2, none⟩ = some (.bool full) := blk_cell hX3 2
                have HPut := Lib.hid (refPut_any _ _ row x.b limit full w3 hu3 (HALL3.out.arg.mono HALL3.out.below.size) (by omega) (by omega))
                have HA3 := Lib.hid hA3
                have HX3 := Lib.hid hX3
                have HU3 := Lib.hid hu3
                have HD3 := Lib.hid hd3
                clear hA3 hX3 hu3 hd3 hY3
                generalize wRow row limit full (some x.b) = rw at HALL3 HPut hln HA3
                generalize wFull row limit full (some x.b) = bf at HALL3 HPut HA3
                go_wp2_with (first
                  | (go_at_call 22; (with_reducible refine HPut.out.mono ?_); rintro e w4 ⟨u4, rfl, hu4, hb4, hn4⟩; obtain ⟨a4, c4, rfl, _⟩ := id hu4; have hX4 := (hb4.block _ (blk_lt HX3.out)).trans HX3.out; have z0 := blk_cell hX4 0; have z1 := blk_cell hX4 1; have z2 := blk_cell hX4 2; have zf := blk_frozen hX4; have HF4 := Lib.hid (HALL3.out.refStep (b1 := bf) HA3.out HX3.out HD3.out HU3.out hb4 hu4 hn4); clear hX4 hu4 hb4 hn4))
                go_meet
                exact HF4.out.pair (by omega)
          case rest =>
            have HP := Lib.hid hcut
            obtain ⟨v6, u6, row6, full6, hn6, hA6, hX6, hu6, _, hB6, _⟩ := hcut
            obtain ⟨a6, c6, rfl, _⟩ := id hu6
            have p0 : wc.cell? ⟨w.heap.size + 1, 0, none⟩ = some (.slice a6 row6.length c6) := blk_cell hX6 0
            have p2 : wc.cell? ⟨w.heap.size + 1, 2, none⟩ = some (.bool full6) := blk_cell hX6 2
            have hcv0 := conv_str (show BytesAt wc.heap.size wc.drew _ _ from hu6)
            have HFull := Lib.hid (full_any w.heap.size w.heap.size v6 row6 limit full6 wc.drew ⟨hA6.blk, hA6.own⟩)
            have HBytes := Lib.hid (bytes_any w.heap.size w.heap.size v6 row6 limit full6 wc.drew ⟨hA6.blk, hA6.own⟩ (by omega))
            have HX6 := Lib.hid hX6
            have HU6 := Lib.hid hu6
            clear hA6 hX6 hu6 hB6
            go_upto_region 21 with (fail)
            go_cut [90] (fun s wx => s = .bool false ∧ WPair w w.heap.size (w.heap.size + 1) limit (302 * (k + 1)) wx)
            case first =>
              go_region_with (first
                | (go_at_call 25; (with_reducible refine HFull.out.mono ?_); rintro e w7 ⟨rfl, rfl⟩)
                | (go_at_call 26; (with_reducible refine HBytes.out.mono ?_); rintro e w7 ⟨u7, rfl, hu7, hb7d⟩; have hb7 : Below wc.heap.size wc w7 := ⟨hb7d.os, hb7d.tape, hb7d.output, hb7d.size, hb7d.block⟩; have hcv1 := conv_str (BytesAt.of_owns hu7); have hcv2 := conv_str (HU6.out.below hb7); have hX7 := (hb7.block _ (blk_lt HX6.out)).trans HX6.out; have q0 := blk_cell hX7 0; have HP7 := Lib.hid (HP.out.on hb7); clear hu7 hb7d hb7 hX7))
              all_goals (go_wp2_with fail)
              all_goals go_meet
              all_goals exact ⟨rfl, HP7.out⟩
            case rest =>
              obtain ⟨rfl, hP7⟩ := hcut
              go_wp2
              go_roundw
              case rel => exact ⟨k + 1, by omega, by go_num, hP7⟩
              case measure => simp [intOf]; omega
        · obtain rfl : k = l.length := by omega
          clear hA hX hu hd
          go_wp2_with (go_at_call 27; refine (awake03 _).mono ?_; rintro e w4 ⟨rfl, hb4⟩)
          go_ret
          exact ⟨rfl, hB.trans (hb4.mono hB.size)⟩

set_option maxRecDepth 100000 in
theorem wireWrites_lifted (os : Os) (started : os.Started) (H : Type) (enc : TypeId × Value → H) :
    ReturnsInHanded {} Try.checked os 5 .any (Rows.wireWritesSpec.pre6 enc Try.prog Try.f5 Rows.wireWritesRow.domain false) (Rows.wireWritesSpec.post enc Try.prog Try.f5 false true false false) :=
  law_lifted 5 Try.f5 Rows.wireWritesSpec Try.func5 (by kernel_rfl) rfl rfl
    (fun ds h => by match ds, h with | [_, _], _ => rfl) (by kernel_rfl) os started
    (ChangeSpec.witness6 (enc := enc) (C := Try.checked) false ⟨#[], #[.int .i64 0, .slice none 0 0], []⟩ 8 (by kernel_rfl) (by kernel_rfl) (by kernel_rfl) (by kernel_rfl))
    fun W args ds ps hval hA => by
      rw [Try.params5] at hA hval
      obtain ⟨v0, vs0, d0, ds0, p0, q0, hargs, rfl, rfl, h0, r0⟩ := trodAll_cons hA
      obtain ⟨v1, vs1, d1, ds1, p1, q1, rfl, rfl, rfl, h1, r1⟩ := trodAll_cons r0
      obtain ⟨rfl, rfl, rfl⟩ := trodAll_nil r1
      obtain rfl : args = #[v0, v1] := by cases args; simp_all
      obtain ⟨b0, o0⟩ := hval 0 _ v0 rfl rfl
      obtain ⟨b1, o1⟩ := hval 1 _ v1 rfl rfl
      obtain ⟨a0, rfl, rfl, rfl, w0⟩ := open_int Try.underlying3 o0 h0
      obtain ⟨l1, hb1, hm1⟩ := open_acts o1 h1
      exact wireWrites_walk a0 l1 v1 W (wf_i64 w0).2 hb1 hm1

/-- The statement. -/
theorem wireWrites_holds : Rows.WireWritesSaid :=
  OpenClaim.holds_of_wide 5 Try.f5 rfl rfl rfl rfl rfl rfl rfl ⟨rfl, rfl, rfl, rfl, rfl⟩ rfl rfl rfl rfl rfl (by kernel_rfl) Try.func5 (by kernel_rfl)
    (of_decide_eq_true (by kernel_rfl)) (by unfold Func.isWrapper; first | (rw [if_pos (by decide +kernel)]; kernel_rfl) | (rw [if_neg (by decide +kernel)]; exact ⟨rfl, rfl⟩))
    (fun os started H enc _ => wireWrites_lifted os started H enc)
#print axioms wireWrites_holds
end Go.Proofs.Ytghbnomlejnfjaa

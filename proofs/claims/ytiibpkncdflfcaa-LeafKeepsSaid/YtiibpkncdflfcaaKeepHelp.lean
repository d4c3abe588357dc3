/-
  LeafKeeps: what it needs of a device, of copies, of foul sectors.
  Conditions: none.
-/
import Derived.Test.YtiibpkncdflfcaaFoul2
import Derived.Test.YtiibpkncdflfcaaLeafDev
import Derived.Test.YtiibpkncdflfcaaOpenKept
import Derived.Laws.CopyRow
import Derived.Laws.CopyOwn
import Derived.RegionTactic
import Derived.Outline
namespace Go.Proofs.Ytiibpkncdflfcaa
open Go.ChangeShapes Go.WideShapes Go.ChangeAt Go.RowKit

/-- 'copy' of bytes to the head of a row. -/
theorem wpList_copy_bytes {w : World} {ops : Array Oper} {rest : List Oper} {o : Oper} {a : Act} {Q : Exit → Act → World → Prop} (hgd : o.guard = none) (d s : Operand) (ho : o.op = .call { callee := .builtin .copy, args := #[d, s], argTypes := #[30, 30] })
    {base g n cap : Nat} {xs bs : List (BitVec 8)} (hd : a.eval d = .slice (some ⟨g, 0, none⟩) n cap) (hown : w.ownsRow base 5 1 (.slice (some ⟨g, 0, none⟩) n cap) n (cellsOf xs)) {u : Value} (hs : a.eval s = u) {n₀ : Nat} (hu : BytesAt n₀ w u bs) (hl : bs.length ≤ n)
    (h : ∀ w', w'.ownsRow base 5 1 (.slice (some ⟨g, 0, none⟩) n cap) n (cellsOf (bs ++ xs.drop bs.length)) → Moves (fun k => k = g) w w' → wpList Try.prog ops Q rest (a.put o.dst (goInt bs.length)) w') : wpList Try.prog ops Q (o :: rest) a w := by
  have hu0 := hu
  obtain ⟨au, cu, rfl, _, _, hu⟩ := hu
  obtain ⟨cur, hg, hgb, hnc, hcs⟩ := own_block hown
  rcases hu with rfl | ⟨g', off', rfl, hg', hc⟩
  · refine wpList_copy_nothing hgd d s 30 30 ho 5 Try.underlying30 sizeU8 _ _ _ _ _ _ hd hs (by simp) ?_
    exact h w (by simpa using hown) (Moves.refl _ _)
  · have hcl : (cellsOf bs).length = bs.length := cellsOf_len bs
    have key := h (w.setRow g (cur.toList.take 0 ++ (cellsOf bs ++ cur.toList.drop (0 + (cellsOf bs).length))).toArray)
      (own_splice hown hg (by
        have := setRow_heap w g cur (cur.toList.take 0 ++ (cellsOf bs ++ cur.toList.drop (0 + (cellsOf bs).length))).toArray 5 _ hg
        exact this) hl)
      ⟨rfl, rfl, rfl, by simp [World.setRow], fun k _ hk => setRow_other w g k _ hk⟩
    rw [← hcl] at key
    exact wpList_copy_own hgd d s 30 30 ho 5 Try.underlying30 sizeU8 g 0 n cap ⟨g', off', none⟩ bs.length cu hd hs cur 5 hg (cellsOf bs) (by rw [hcl]; exact (Nat.min_eq_left hl).symm) hu0.news.2 (by rw [hcl]; omega) (cellsOf_one bs) key
/-- A device of eight sectors that is up, after k writes. -/
structure KeepDev (d : Dev) (k : Nat) : Prop where
  sectors : d.sectors = 8
  size : d.size = 96
  down : d.down = false
  armed : d.armed = 0
  small : d.Small k
theorem keep_new : KeepDev (Dev.new 8 96) 0 := ⟨rfl, rfl, rfl, rfl, small_new 8 96⟩
theorem KeepDev.mono {d : Dev} {k : Nat} (h : KeepDev d k) : KeepDev d (k + 1) := ⟨h.1, h.2, h.3, h.4, h.small.mono (Nat.le_succ _)⟩
theorem KeepDev.write {d : Dev} {k : Nat} (h : KeepDev d k) (at_ : Int) (bs : List (BitVec 8)) : KeepDev (d.write at_ bs) (k + 1) := by
  refine ⟨?_, ?_, ?_, ?_, h.small.write at_ bs⟩
  · unfold Dev.write; split <;> exact h.1
  · unfold Dev.write; split <;> exact h.2
  · unfold Dev.write
    split
    · simp [Dev.act, Dev.give, h.armed, h.down]
    · exact h.3
  · unfold Dev.write
    split
    · simp [Dev.act, Dev.give, h.armed]
    · exact h.4
theorem KeepDev.crash {d : Dev} {k : Nat} (h : KeepDev d k) (fs : List Int) : KeepDev (d.crash fs) k := by
  have e := patches_same d (d.loose.zip fs)
  exact ⟨(show (d.patches (d.loose.zip fs)).sectors = 8 by rw [e.2.1]; exact h.1), (show (d.patches (d.loose.zip fs)).size = 96 by rw [e.2.2.1]; exact h.2), rfl, rfl, h.small.crash fs⟩
theorem KeepDev.ask {d : Dev} {k : Nat} (h : KeepDev d k) (at_ : Int) : askErr d.sectors d.down at_ = if 0 ≤ at_ ∧ at_ < 8 then 0 else 2 := by
  unfold askErr
  rw [h.sectors, h.down]
  simp
/-- What Put answers. -/
def putF (x : LeafP) (at_ : Int) : Int := if buildErr 96 x.kind x.place x.stamp x.load.length = 0 then (if 0 ≤ at_ ∧ at_ < 8 then 0 else 2) else buildErr 96 x.kind x.place x.stamp x.load.length
theorem keep_put {w W : World} {D k : Nat} {d : Dev} (h : DevHere w D d W) (hk : KeepDev d k) (hk2 : k ≤ 100) (at_ : Int) (x : LeafP) (u : Value) (hu : BytesAt W.heap.size W u x.load) (hst : x.stamp ≤ 9223372036854775807) :
    Calls Try.prog 7 #[.pointer (some ⟨D, 0, none⟩), .int .i64 at_, .agg (x.cells u)] W fun e W' => e = .returned (.int .i64 (putF x at_)) ∧ ∃ d', DevHere w D d' W' ∧ KeepDev d' (k + 1) := by
  have hp := put_here h at_ x u hu hst hk.small (by omega)
  rw [hk.size] at hp
  refine hp.mono ?_
  rintro e W' (⟨he, h1, h2⟩ | ⟨he, h1, h2⟩)
  · refine ⟨?_, _, h2, hk.write _ _⟩
    rw [h1]
    congr 2
    unfold putF
    have he' : buildErr 96 x.kind x.place x.stamp x.load.length = 0 := he
    rw [if_pos he']
    have hl : (buildB 96 x.kind x.place x.stamp x.load).length = 96 := by
      have hbb : buildB 96 x.kind x.place x.stamp x.load = leafB 96 x.kind x.place x.stamp x.load := by unfold buildB; rw [if_pos he']
      rw [hbb]
      obtain ⟨r1, r2, r3⟩ := read_built he' hst
      omega
    show writeErr d at_ _ = _
    unfold writeErr
    rw [hk.ask, hk.armed]
    have hl2 : ¬ (buildB (96 : Nat) x.kind x.place x.stamp x.load).length ≠ d.size := by rw [hk.size]; exact fun h => h hl
    by_cases ha : 0 ≤ at_ ∧ at_ < 8
    · rw [if_pos ha, if_neg (by decide), if_neg hl2, if_neg (by decide)]
    · rw [if_neg ha, if_pos (by decide)]
  · refine ⟨?_, _, h2, hk.mono⟩
    have he' : buildErr 96 x.kind x.place x.stamp x.load.length ≠ 0 := he
    unfold putF
    rw [if_neg he']
    exact h1
theorem keep_write {w W : World} {D k : Nat} {d : Dev} (h : DevHere w D d W) (hk : KeepDev d k) (hk2 : k ≤ 100) (at_ : Int) (u : Value) (bs : List (BitVec 8)) (hu : BytesAt W.heap.size W u bs) :
    Calls Try.prog 5 #[.pointer (some ⟨D, 0, none⟩), .int .i64 at_, u] W fun e W' => (∃ n, e = .returned (.int .i64 n)) ∧ ∃ d', DevHere w D d' W' ∧ KeepDev d' (k + 1) := by
  refine (here_write h at_ hu hk.small (by omega)).mono ?_
  rintro e W' ⟨h1, h2⟩
  exact ⟨⟨_, h1⟩, _, h2, hk.write _ _⟩
/-! The foul ones, counted -/
theorem fouls_pre (d : Dev) {k n : Nat} (h : k ≤ n) : ∃ r, d.fouls n = d.fouls k ++ r := by
  induction n with
  | zero => obtain rfl : k = 0 := by omega
            exact ⟨[], by simp⟩
  | succ n ih =>
    by_cases hk : k = n + 1
    · subst hk; exact ⟨[], by simp⟩
    · obtain ⟨r, hr⟩ := ih (by omega)
      rw [fouls_snoc]
      split
      · exact ⟨r ++ [(n : Int)], by rw [hr, List.append_assoc]⟩
      · exact ⟨r, hr⟩
theorem fouls_at (d : Dev) {k n : Nat} (h : k < n) (hf : d.foulAt k = true) : (d.fouls k).length < (d.fouls n).length ∧ (d.fouls n)[(d.fouls k).length]?.getD 0 = (k : Int) := by
  obtain ⟨r, hr⟩ := fouls_pre d (k := k + 1) (n := n) (by omega)
  rw [fouls_snoc, if_pos hf] at hr
  rw [hr]
  refine ⟨by simp, ?_⟩
  rw [List.append_assoc, List.getElem?_append_right (Nat.le_refl _), Nat.sub_self]
  rfl
end Go.Proofs.Ytiibpkncdflfcaa

/-
  flash: Read, Rot, and the small questions.
  Conditions: none.
-/
import Derived.Test.YtadglpnmhpmebaaFlash3
namespace Go.Proofs.Ytadglpnmhpmebaa
open Go.RowKit

/-- What a sector has now: its last loose write, or what is fast. -/
def Dev.cur (d : Dev) (k : Nat) : List (BitVec 8) :=
  match d.loose.reverse.find? (fun x => decide (x.1 = k)) with
  | some x => x.2
  | none => d.fast k
theorem cur_none {d : Dev} {k : Nat} (h : ∀ x ∈ d.loose, x.1 ≠ k) : d.cur k = d.fast k := by
  unfold Dev.cur
  rw [show d.loose.reverse.find? (fun x => decide (x.1 = k)) = none from List.find?_eq_none.2 (fun x hx => by simpa using h x (by simpa using hx))]
theorem cur_some {d : Dev} {k i : Nat} {bs : List (BitVec 8)} (hi : d.loose[i]? = some (k, bs)) (h : ∀ (j : Nat) x, i < j → d.loose[j]? = some x → x.1 ≠ k) : d.cur k = bs := by
  unfold Dev.cur
  have hlt : i < d.loose.length := (List.getElem?_eq_some_iff.1 hi).1
  have hsp : d.loose = d.loose.take i ++ (k, bs) :: d.loose.drop (i + 1) := by
    have e : d.loose[i] = (k, bs) := by simpa [hlt] using hi
    rw [← e, List.getElem_cons_drop, List.take_append_drop]
  have hno : ∀ x ∈ (d.loose.drop (i + 1)).reverse, ¬ (decide (x.1 = k)) = true := by
    intro x hx
    have hx : x ∈ d.loose.drop (i + 1) := by simpa using hx
    obtain ⟨j, hj, rfl⟩ := List.mem_iff_getElem.1 hx
    rw [List.getElem_drop]
    have hj2 : i + 1 + j < d.loose.length := by rw [List.length_drop] at hj; omega
    have := h (i + 1 + j) (d.loose[i + 1 + j]) (by omega) (by simp [hj2])
    simpa using this
  rw [hsp, List.reverse_append, List.reverse_cons, List.append_assoc, List.find?_append, List.find?_eq_none.2 hno]
  simp

/-- What Read answers. -/
def ReadOf (d : Dev) (at_ : Int) (w : World) (e : Ending) (w' : World) : Prop :=
  Below w.heap.size w w' ∧ ∃ v, e = .returned (.tuple #[v, .int .i64 (askErr d.sectors d.down at_)]) ∧
    ((askErr d.sectors d.down at_ ≠ 0 ∧ v = .slice none 0 0) ∨ (askErr d.sectors d.down at_ = 0 ∧ w'.ownsRow w.heap.size 5 1 v d.size (cellsOf (d.cur at_.toNat))))

theorem cell_at2 {w : World} {n₀ : Nat} {e : TypeId} {v : Value} {n g i : Nat} {cs : List Value} {u : Value} (h : w.ownsRow n₀ e 2 v n cs) (hg : v.ownBlock = some g) (hu : cs[i]? = some u) : w.cell? ⟨g, i, none⟩ = some u := by
  have := h.cells hg i u hu
  rwa [add_plain, Nat.zero_add] at this

set_option maxHeartbeats 2000000 in
theorem fread_any (n₀ : Nat) (O : Foot) (w : World) (D : Nat) (d : Dev) (h : DevAt n₀ O w D d) (at_ : Int) :
    Calls Try.prog 14 #[.pointer (some ⟨D, 0, none⟩), .int .i64 at_] w (ReadOf d at_ w) := by
  have h0 := h
  obtain ⟨F, P, L, lv, fm, pm, lm, h⟩ := h
  have ha := asked_any h.blk at_
  by_cases he : askErr d.sectors d.down at_ = 0
  · have hin : 0 ≤ at_ ∧ at_ < d.sectors := by
      unfold askErr at he
      split at he
      · cases he
      · split at he
        · assumption
        · cases he
    obtain ⟨k, rfl⟩ := Int.eq_ofNat_of_zero_le hin.1
    have hk : k < d.sectors := by omega
    have HFIN : Hid (∀ v w', Below w.heap.size w w' → w'.ownsRow w.heap.size 5 1 v d.size (cellsOf (d.cur k)) → ReadOf d k w (.returned (.tuple #[v, .int .i64 0])) w') := fun v w' hb ho => ⟨hb, v, by rw [he], .inr ⟨he, ho⟩⟩
    rw [he] at ha
    have c5 : w.cell? ⟨D, 5, none⟩ = some (.map (some L)) := blk_cell h.blk 5
    have c4 : w.cell? ⟨D, 4, none⟩ = some lv := blk_cell h.blk 4
    have hlk := run_lookup_int (P := Try.prog) Try.underlying65 Try.underlying3 h.mL (k : Int) (.int .i64 0) (by kernel_rfl) true
    have HA := Lib.hid ha
    have hsz := h.right.2
    rcases h.last k hk with ⟨hn, hno⟩ | ⟨i, bs, hi, hl, hno⟩
    · rw [hn] at hlk
      simp only [Option.getD_none, Option.isSome_none, if_true] at hlk
      have HC := Lib.hid (fastBytes_any n₀ O w D d h0 k hk)
      have HE := Lib.hid (cur_none hno)
      clear h0 h ha he hin hk hn hno
      go_enter Try.func14, Try.ntmps14
      go_wp2_with (first
        | (go_at_call 37; (with_reducible refine HA.out.mono ?_); rintro e w' ⟨rfl, rfl⟩)
        | (go_at_call 39; (with_reducible refine HC.out.mono ?_); rintro e w2 ⟨v, rfl, hv, hb⟩))
      go_ret2
      exact HFIN.out _ _ hb (by rw [HE.out]; exact hv)
    · rw [hi] at hlk
      simp only [Option.getD_some, Option.isSome_some, if_true] at hlk
      obtain ⟨cs, hrow, _, hcells⟩ := h.loose
      obtain ⟨_, u, hu, hub⟩ := hcells i _ hl
      have hub : BytesIn O w u bs := hub
      have hlen : bs.length = d.size := (h.llen _ (List.mem_of_getElem? hl)).2
      have hlt : i < d.loose.length := (List.getElem?_eq_some_iff.1 hl).1
      have hE := cur_some hl hno
      have hll : d.loose.length ≤ maxLen := by
        rcases hrow.2 with ⟨_, h2⟩ | ⟨_, cap, _, _, _, _, h2, h3, _⟩
        · rw [h2]; exact Nat.zero_le _
        · omega
      obtain ⟨g, cap, rfl⟩ : ∃ g cap, lv = .slice (some ⟨g, 0, none⟩) d.loose.length cap := by
        rcases hrow.2 with ⟨_, h2⟩ | ⟨g, cap, _, h1, _⟩
        · omega
        · exact ⟨g, cap, h1⟩
      have cu : w.cell? ⟨g, 2 * i + 1, none⟩ = some u := cell_at2 hrow rfl hu
      have cu2 : w.cell? ⟨g, i * 2 + 1, none⟩ = some u := by rw [Nat.mul_comm i 2]; exact cu
      have HC := Lib.hid (clone_any w.heap.size u bs w hub.1 (Nat.le_refl _) (by omega))
      obtain ⟨au, cpu, rfl, _⟩ := hub.1
      have HE := Lib.hid hE
      have HL := Lib.hid hlen
      unfold maxLen at hll
      have i0 : (0 : Int) ≤ i := by omega
      have i1 : (i : Int) < d.loose.length := by omega
      clear h0 h ha he hin hk hi hno hrow hcells hl hE hu hub hlen
      go_enter Try.func14, Try.ntmps14
      go_wp2_with (first
        | (go_at_call 37; (with_reducible refine HA.out.mono ?_); rintro e w' ⟨rfl, rfl⟩)
        | (go_at_call 38; (with_reducible refine HC.out.mono ?_); rintro e w2 ⟨v, rfl, hv, hb⟩))
      go_ret2
      exact HFIN.out _ _ hb (by rw [HE.out, ← HL.out]; exact hv)
  · have hne : (askErr d.sectors d.down at_ != 0) = true := by simpa using he
    have HA := Lib.hid ha
    have HFIN : Hid (ReadOf d at_ w (.returned (.tuple #[.slice none 0 0, .int .i64 (askErr d.sectors d.down at_)])) w) := ⟨Below.refl _ _, _, rfl, .inl ⟨he, rfl⟩⟩
    generalize askErr d.sectors d.down at_ = er at HA HFIN hne
    generalize ReadOf d at_ w = post at HFIN ⊢
    clear h0 h ha he
    go_enter Try.func14, Try.ntmps14
    go_wp2_with (go_at_call 37; (with_reducible refine HA.out.mono ?_); rintro e w' ⟨rfl, rfl⟩)
    exact HFIN.out

end Go.Proofs.Ytadglpnmhpmebaa

/-
  region: a round of an append, behind what it puts into the row.
  Conditions: none.
-/
import Derived.Test.YtiddfilhfdkogaaRegA
namespace Go.Proofs.Ytiddfilhfdkogaa
open Go.RowKit Go.Shelf

section
variable {w W : World} {E : Foot} {R D X I : Nat} {loc : Array Value} {x1 : LogS} {d1 : Dev} {bs : List (BitVec 8)} {K fin s : Nat} {x' : LogS} {d' : Dev} {b' : List (BitVec 8)} {v' : Value} {W3 : World}
theorem nx_step (h3 : AppInv x1 K fin x' d' b') (hpos : x'.pos = s) : nxP x1.room fin s = s + min b'.length (x'.room - x'.row.length) := by
  have hroom := h3.same.1
  have hfit := h3.fit
  obtain ⟨pd1, pd2⟩ := LogS.pos_div h3.lt
  unfold nxP
  rw [← hpos, ← hroom, pd1]
  have e : (x'.sector + 1) * x'.room = x'.pos + (x'.room - x'.row.length) := by
    unfold LogS.pos
    rw [Nat.add_mul, Nat.one_mul]
    have := h3.lt; omega
  rw [e]
  omega
theorem app_rest (hT : LogApart w (NineF E W.heap.size X I) R D (x'.took b') d' W3) (h2 : AppTo x1 d1 bs x' d' b') (h3 : AppInv x1 K fin x' d' b') (hbne : b' ≠ []) (hpos : x'.pos = s) (hS : AppSide W E R X I loc v' b' W3) (v'' : Value) (hv : BytesAt W3.heap.size W3 v'' (b'.drop (x'.room - x'.row.length))) (ho : ∀ k, v''.ownBlock = some k → E k)
    (hI : X < I) (hW : W.heap.size + 4 ≤ X) (hE : ∀ k, E k → k < W.heap.size) (hK : K ≤ 65536) :
    Calls Try.prog 37 #[.pointer (some ⟨R, 0, none⟩)] (W3.setCell ⟨W.heap.size + 1, 0, none⟩ v'') fun e W' => e = .returned (.int .i64 0) ∧ AppRound w W E R D X I loc x1 d1 bs K fin (nxP x1.room fin s) W' ∧ (W'.heap[I + 3]? = W3.heap[I + 3]? ∧ W'.heap[I + 2]? = W3.heap[I + 2]?) := by
  obtain ⟨hS4, hm4⟩ := hS.cut hv ho hI hW hE
  have hT4 := hT.turn hm4 (fun k hk => by subst hk; unfold NineF Four; simp)
  have hnx := nx_step h3 hpos
  have htl := x'.took_len b'
  have hlt := h3.lt
  have keep : ∀ W', Same (NineF E W.heap.size X I) (W3.setCell ⟨W.heap.size + 1, 0, none⟩ v'') W' → (W'.heap[I + 3]? = W3.heap[I + 3]? ∧ W'.heap[I + 2]? = W3.heap[I + 2]?) := fun W' hs =>
    ⟨(hs.2 _ (by unfold NineF; simp)).trans (Below.heap_setCell _ _ _ _ (by show I + 3 ≠ W.heap.size + 1; omega)), (hs.2 _ (by unfold NineF; simp)).trans (Below.heap_setCell _ _ _ _ (by show I + 2 ≠ W.heap.size + 1; omega))⟩
  by_cases hp : (x'.took b').row.length < x'.room
  · refine (rpart_any hT4 hp).mono fun e W' ⟨he, hL, hs⟩ => ⟨he, ⟨x'.took b', d', _, v'', hL, .part h2 hbne hp, h3.part hbne hp, ?_, hS4.on hs⟩, keep W' hs⟩
    rw [hnx, ← hpos]
    unfold LogS.pos
    show x'.sector * x'.room + (x'.took b').row.length = _
    omega
  · have hf : (x'.took b').row.length = x'.room := by omega
    obtain ⟨hfi, hwe⟩ := h3.full hbne hf
    obtain ⟨j, s1, s2⟩ := h3.small
    have hc := rfull_any hT4 (h3.on.with_ ⟨rfl, rfl, rfl, rfl⟩) hf (h3.ok.m1) s1 (by omega)
    rw [hwe] at hc
    refine hc.mono fun e W' ⟨he, hL, hs⟩ => ⟨he, ⟨(x'.took b').wrote, _, _, v'', hL, .full h2 hbne hf, hfi, ?_, hS4.on hs⟩, keep W' hs⟩
    rw [hnx, ← hpos]
    unfold LogS.pos
    show (x'.sector + 1) * x'.room + 0 = _
    rw [Nat.add_mul, Nat.one_mul]
    omega
theorem drop_min (b : List (BitVec 8)) (r : Nat) : b.drop (min b.length r) = b.drop r := by
  rcases Nat.le_total b.length r with h | h
  · rw [Nat.min_eq_left h, List.drop_length, List.drop_of_length_le h]
  · rw [Nat.min_eq_right h]
end
end Go.Proofs.Ytiddfilhfdkogaa

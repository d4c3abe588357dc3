/-
  flash: a device beside other new memory: its calls leave that as it was.
  Conditions: none.
-/
import Derived.Test.YtadglpnmhpmebaaFlashHere
namespace Go.Proofs.Ytadglpnmhpmebaa
open Go.RowKit

/-- A device that was made since w, beside the blocks Q. -/
def DevApart (w : World) (Q : Foot) (D : Nat) (d : Dev) (W : World) : Prop := ∃ O, DevAt w.heap.size O W D d ∧ Below w.heap.size w W ∧ Foot.Off O Q ∧ Foot.In Q W
/-- What a call leaves of it. -/
def DidApart (w : World) (Q : Foot) (D : Nat) (d : Dev) (r : Value) (W : World) (e : Ending) (W' : World) : Prop := e = .returned r ∧ DevApart w Q D d W' ∧ Same Q W W'
section
variable {w W W' W1 : World} {Q : Foot} {D : Nat} {d : Dev}
theorem apart_of (h : DevHere w D d W1) (hb : Below W1.heap.size W1 W) (hQ : ∀ k, Q k → W1.heap.size ≤ k) (hin : Foot.In Q W) : DevApart w Q D d W := by
  obtain ⟨O, h, h2⟩ := h
  exact ⟨O, h.keep (Same.of_below hb h.inn), h2.trans (hb.mono h2.size), fun k ho hq => by have := h.inn k ho; have := hQ k hq; omega, hin⟩
theorem DevApart.here (h : DevApart w Q D d W) : DevHere w D d W := by
  obtain ⟨O, h1, h2, _⟩ := h
  exact ⟨O, h1, h2⟩
theorem DevApart.on (h : DevApart w Q D d W) (hb : Below W.heap.size W W') : DevApart w Q D d W' := by
  obtain ⟨O, h1, h2, h3, h4⟩ := h
  exact ⟨O, h1.keep (Same.of_below hb h1.inn), h2.trans (hb.mono h2.size), h3, fun k hk => Nat.lt_of_lt_of_le (h4 k hk) hb.size⟩
theorem DevApart.left {O : Foot} (h : DevAt w.heap.size O W D d) (hb : Below w.heap.size w W) (ho : Foot.Off O Q) (hi : Foot.In Q W) {d' : Dev} {r : Value} {e : Ending} (hl : DevLeft w.heap.size O W D d' r e W') : DidApart w Q D d' r W e W' := by
  obtain ⟨he, O', h2, hs⟩ := hl
  have hsm := Same.of_step hs hi ho
  exact ⟨he, ⟨O', h2, hb.trans (hs.below h.lo hb.size), ho.step hs hi, fun k hk => Nat.lt_of_lt_of_le (hi k hk) hsm.1⟩, hsm⟩
theorem apart_write (h : DevApart w Q D d W) (at_ : Int) {u : Value} {bs : List (BitVec 8)} (hu : BytesAt W.heap.size W u bs) {k : Nat} (hs : d.Small k) (hk : k ≤ 65536) :
    Calls Try.prog 22 #[.pointer (some ⟨D, 0, none⟩), .int .i64 at_, u] W (DidApart w Q D (d.write at_ bs) (.int .i64 (writeErr d at_ bs.length)) W) := by
  obtain ⟨O, h, hb, ho, hi⟩ := h
  have h1 := hs.acts
  have h2 := hs.loose
  exact (write_any w.heap.size O W D d h at_ u bs hu hb.size (by omega) hs.armed (by omega) (fun j => by have := hs.past j; omega)).mono fun _ _ hl => DevApart.left h hb ho hi hl
theorem apart_sync (h : DevApart w Q D d W) {k : Nat} (hs : d.Small k) (hk : k ≤ 65536) :
    Calls Try.prog 12 #[.pointer (some ⟨D, 0, none⟩)] W (DidApart w Q D d.sync (.int .i64 (syncErr d)) W) := by
  obtain ⟨O, h, hb, ho, hi⟩ := h
  have h1 := hs.acts
  have h2 := hs.loose
  exact (sync_any w.heap.size O W D d h (by omega) hs.armed (by omega)).mono fun _ _ ⟨he, h2, hst⟩ => DevApart.left h hb ho hi ⟨he, O, h2, hst⟩
theorem apart_crash_new (h : DevApart w Q D d W) (fs : List Int) (hb2 : Below W.heap.size W W') {c : Nat} (hg : W'.heap[W.heap.size]? = some (.cells (fs.map (Value.int .i64)).toArray 3 (0, 0))) {k : Nat} (hs : d.Small k) (hk : k ≤ 65536) (hf : fs.length ≤ 1099511627776) {n : Nat} (hn : n = fs.length) :
    Calls Try.prog 17 #[.pointer (some ⟨D, 0, none⟩), .slice (some ⟨W.heap.size, 0, none⟩) n c] W' (DidApart w Q D (d.crash fs) (.tuple #[]) W') := by
  subst hn
  obtain ⟨O, h, hb, ho, hi⟩ := h
  have h2 := hs.loose
  have hv2 : IntsOff O W' (.slice (some ⟨W.heap.size, 0, none⟩) fs.length c) fs := by
    refine ⟨_, _, rfl, .inr ⟨_, 0, rfl, blk_lt hg, fun ho => by have := h.inn _ ho; omega, fun j hj => ?_⟩⟩
    rw [Nat.zero_add, blk_cell hg]
    simp [hj]
  have h3 := h.keep (Same.of_below hb2 h.inn)
  have hb3 := hb.trans (hb2.mono hb.size)
  exact (crash_any w.heap.size O W' D d h3 _ fs hv2 hb3.size (by omega) hf).mono fun _ _ hl => DevApart.left h3 hb3 ho (fun k hk => Nat.lt_of_lt_of_le (hi k hk) hb2.size) hl
end

end Go.Proofs.Ytadglpnmhpmebaa

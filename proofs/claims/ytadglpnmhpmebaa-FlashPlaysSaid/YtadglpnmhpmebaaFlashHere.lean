/-
  flash: a device that was made since a world, and what its calls do, in one word.
  Conditions: none.
-/
import Derived.Test.YtadglpnmhpmebaaFlash12
namespace Go.Proofs.Ytadglpnmhpmebaa
open Go.RowKit

/-- A device in block D that was made since w; nothing that was there then has turned. -/
def DevHere (w : World) (D : Nat) (d : Dev) (W : World) : Prop := ∃ O, DevAt w.heap.size O W D d ∧ Below w.heap.size w W
/-- A device is small enough for what is to come. -/
structure Dev.Small (d : Dev) (k : Nat) : Prop where
  acts : d.acts ≤ k
  loose : d.loose.length ≤ k
  past : ∀ j, (d.past j).length ≤ k
  armed : d.armed ≤ 9223372036854775807
section
variable {w W W' : World} {D : Nat} {d : Dev}
theorem DevAt.inn {n₀ : Nat} {O : Foot} (h : DevAt n₀ O W D d) : Foot.In O W := by obtain ⟨F, P, L, lv, fm, pm, lm, h⟩ := h; exact h.inn
theorem DevAt.lo {n₀ : Nat} {O : Foot} (h : DevAt n₀ O W D d) : ∀ k, O k → n₀ ≤ k := by obtain ⟨F, P, L, lv, fm, pm, lm, h⟩ := h; exact h.lo
theorem DevAt.right {n₀ : Nat} {O : Foot} (h : DevAt n₀ O W D d) : (1 ≤ d.sectors ∧ d.sectors ≤ 16384) ∧ (96 ≤ d.size ∧ d.size ≤ 512) := by obtain ⟨F, P, L, lv, fm, pm, lm, h⟩ := h; exact h.right
theorem DevAt.oD {n₀ : Nat} {O : Foot} (h : DevAt n₀ O W D d) : O D := by obtain ⟨F, P, L, lv, fm, pm, lm, h⟩ := h; exact h.oD
theorem DevAt.flen {n₀ : Nat} {O : Foot} (h : DevAt n₀ O W D d) (k : Nat) : (d.fast k).length = d.size := by obtain ⟨F, P, L, lv, fm, pm, lm, h⟩ := h; exact h.len k
theorem DevAt.llen {n₀ : Nat} {O : Foot} (h : DevAt n₀ O W D d) : ∀ x ∈ d.loose, x.1 < d.sectors ∧ x.2.length = d.size := by obtain ⟨F, P, L, lv, fm, pm, lm, h⟩ := h; exact h.llen
theorem DevAt.plen {n₀ : Nat} {O : Foot} (h : DevAt n₀ O W D d) : ∀ k x, x ∈ d.past k → x.length = d.size := by obtain ⟨F, P, L, lv, fm, pm, lm, h⟩ := h; exact h.plen
theorem DevHere.below (h : DevHere w D d W) : Below w.heap.size w W := by obtain ⟨O, _, h⟩ := h; exact h
theorem DevHere.size (h : DevHere w D d W) : w.heap.size ≤ W.heap.size := h.below.size
theorem DevHere.right (h : DevHere w D d W) : (1 ≤ d.sectors ∧ d.sectors ≤ 16384) ∧ (96 ≤ d.size ∧ d.size ≤ 512) := by obtain ⟨O, h, _⟩ := h; exact h.right
theorem DevHere.flen (h : DevHere w D d W) (k : Nat) : (d.fast k).length = d.size := by obtain ⟨O, h, _⟩ := h; exact h.flen k
theorem DevHere.llen (h : DevHere w D d W) : ∀ x ∈ d.loose, x.1 < d.sectors ∧ x.2.length = d.size := by obtain ⟨O, h, _⟩ := h; exact h.llen
theorem DevHere.plen (h : DevHere w D d W) : ∀ k x, x ∈ d.past k → x.length = d.size := by obtain ⟨O, h, _⟩ := h; exact h.plen
theorem DevHere.on (h : DevHere w D d W) (hb : Below W.heap.size W W') : DevHere w D d W' := by
  obtain ⟨O, h, h2⟩ := h
  exact ⟨O, h.keep (Same.of_below hb h.inn), h2.trans (hb.mono h2.size)⟩
theorem DevHere.drew (h : DevHere w D d W) : DevHere w D d W.drew := h.on (Below.refl _ _).drew
theorem DevHere.alloc (h : DevHere w D d W) (o : Obj) : DevHere w D d (W.alloc o) := h.on ((Below.refl _ _).alloc (Nat.le_refl _) _)
/-- What a call leaves of it. -/
def Did (w : World) (D : Nat) (d : Dev) (r : Value) (e : Ending) (W' : World) : Prop := e = .returned r ∧ DevHere w D d W'
theorem DevHere.left {O : Foot} (h : DevAt w.heap.size O W D d) (hb : Below w.heap.size w W) {d' : Dev} {r : Value} {e : Ending} (hl : DevLeft w.heap.size O W D d' r e W') : Did w D d' r e W' := by
  obtain ⟨he, O', h2, hs⟩ := hl
  exact ⟨he, O', h2, hb.trans (hs.below h.lo hb.size)⟩
theorem DevHere.step {O : Foot} (h : DevAt w.heap.size O W D d) (hb : Below w.heap.size w W) {d' : Dev} {r : Value} {e : Ending} (he : e = .returned r) (h2 : DevAt w.heap.size O W' D d') (hs : Step O O W W') : Did w D d' r e W' :=
  ⟨he, O, h2, hb.trans (hs.below h.lo hb.size)⟩

theorem here_new (sectors size : Nat) (hr : (1 ≤ sectors ∧ sectors ≤ 16384) ∧ (96 ≤ size ∧ size ≤ 512)) (hb : Below w.heap.size w W) :
    Calls Try.prog 6 #[.int .i64 sectors, .int .i64 size] W fun e W' => ∃ D, e = .returned (.pointer (some ⟨D, 0, none⟩)) ∧ DevHere w D (Dev.new sectors size) W' ∧ Below W.heap.size W W' :=
  (fnew_any w.heap.size sectors size hr W hb.size).mono fun _ _ ⟨he, hd, h2⟩ => ⟨_, he, ⟨_, hd, hb.trans (h2.mono hb.size)⟩, h2⟩
theorem here_write (h : DevHere w D d W) (at_ : Int) {u : Value} {bs : List (BitVec 8)} (hu : BytesAt W.heap.size W u bs) {k : Nat} (hs : d.Small k) (hk : k ≤ 65536) :
    Calls Try.prog 22 #[.pointer (some ⟨D, 0, none⟩), .int .i64 at_, u] W (Did w D (d.write at_ bs) (.int .i64 (writeErr d at_ bs.length))) := by
  obtain ⟨O, h, hb⟩ := h
  have h1 := hs.acts
  have h2 := hs.loose
  exact (write_any w.heap.size O W D d h at_ u bs hu hb.size (by omega) hs.armed (by omega) (fun j => by have := hs.past j; omega)).mono fun _ _ hl => DevHere.left h hb hl
theorem here_sync (h : DevHere w D d W) {k : Nat} (hs : d.Small k) (hk : k ≤ 65536) :
    Calls Try.prog 12 #[.pointer (some ⟨D, 0, none⟩)] W (Did w D d.sync (.int .i64 (syncErr d))) := by
  obtain ⟨O, h, hb⟩ := h
  have h1 := hs.acts
  have h2 := hs.loose
  exact (sync_any w.heap.size O W D d h (by omega) hs.armed (by omega)).mono fun _ _ ⟨he, h2, hst⟩ => DevHere.step h hb he h2 hst
theorem here_arm (h : DevHere w D d W) (n : Int) :
    Calls Try.prog 16 #[.pointer (some ⟨D, 0, none⟩), .int .i64 n] W (Did w D { d with armed := n.toNat } (.tuple #[])) := by
  obtain ⟨O, h, hb⟩ := h
  exact (arm_any h n).mono fun _ _ ⟨he, h2, hst⟩ => DevHere.step h hb he h2 hst
theorem here_rot (h : DevHere w D d W) (at_ byteAt : Int) (mask : BitVec 8) :
    Calls Try.prog 19 #[.pointer (some ⟨D, 0, none⟩), .int .i64 at_, .int .i64 byteAt, .int .u8 (U mask)] W (Did w D (d.rot at_ byteAt mask) (.int .i64 (rotErr d at_ byteAt))) := by
  obtain ⟨O, h, hb⟩ := h
  exact (rot_any w.heap.size O W D d h at_ byteAt mask hb.size).mono fun _ _ hl => DevHere.left h hb hl
/-- Numbers that came in. -/
def IntsIn (n₀ : Nat) (w : World) (v : Value) (fs : List Int) : Prop :=
  ∃ a cap, v = .slice a fs.length cap ∧ (fs = [] ∨ ∃ g off, a = some ⟨g, off, none⟩ ∧ g < n₀ ∧ ∀ j, j < fs.length → w.cell? ⟨g, off + j, none⟩ = some (.int .i64 (fs[j]?.getD 0)))
theorem IntsIn.below {n₀ : Nat} {v : Value} {fs : List Int} (h : IntsIn n₀ W v fs) (hb : Below n₀ W W') : IntsIn n₀ W' v fs := by
  obtain ⟨a, cap, rfl, h⟩ := h
  refine ⟨a, cap, rfl, h.imp id ?_⟩
  rintro ⟨g, off, rfl, hg, hc⟩
  exact ⟨g, off, rfl, hg, fun j hj => (hb.cell (p := ⟨g, off + j, none⟩) hg).trans (hc j hj)⟩
theorem here_crash (h : DevHere w D d W) {v : Value} {fs : List Int} (hv : IntsIn w.heap.size W v fs) {k : Nat} (hs : d.Small k) (hk : k ≤ 65536) (hf : fs.length ≤ 1099511627776) :
    Calls Try.prog 17 #[.pointer (some ⟨D, 0, none⟩), v] W (Did w D (d.crash fs) (.tuple #[])) := by
  obtain ⟨O, h, hb⟩ := h
  have h2 := hs.loose
  have hv2 : IntsOff O W v fs := by
    obtain ⟨a, cap, rfl, hv⟩ := hv
    refine ⟨a, cap, rfl, hv.imp id ?_⟩
    rintro ⟨g, off, rfl, hg, hc⟩
    exact ⟨g, off, rfl, by have := hb.size; omega, fun ho => by have := h.lo g ho; omega, hc⟩
  exact (crash_any w.heap.size O W D d h v fs hv2 hb.size (by omega) hf).mono fun _ _ hl => DevHere.left h hb hl
/-- The same, of numbers in a new block. -/
theorem here_crash_new (h : DevHere w D d W) (fs : List Int) (hb2 : Below W.heap.size W W') {c : Nat} (hg : W'.heap[W.heap.size]? = some (.cells (fs.map (Value.int .i64)).toArray 3 (0, 0))) {k : Nat} (hs : d.Small k) (hk : k ≤ 65536) (hf : fs.length ≤ 1099511627776) {n : Nat} (hn : n = fs.length) :
    Calls Try.prog 17 #[.pointer (some ⟨D, 0, none⟩), .slice (some ⟨W.heap.size, 0, none⟩) n c] W' (Did w D (d.crash fs) (.tuple #[])) := by
  subst hn
  obtain ⟨O, h, hb⟩ := h
  have h2 := hs.loose
  have hv2 : IntsOff O W' (.slice (some ⟨W.heap.size, 0, none⟩) fs.length c) fs := by
    refine ⟨_, _, rfl, .inr ⟨_, 0, rfl, blk_lt hg, fun ho => by have := h.inn _ ho; omega, fun j hj => ?_⟩⟩
    rw [Nat.zero_add, blk_cell hg]
    simp [hj]
  have h3 := h.keep (Same.of_below hb2 h.inn)
  have hb3 := hb.trans (hb2.mono hb.size)
  exact (crash_any w.heap.size O W' D d h3 _ fs hv2 hb3.size (by omega) hf).mono fun _ _ hl => DevHere.left h3 hb3 hl
/-- What Read leaves. -/
def GotAt (w : World) (D : Nat) (d : Dev) (at_ : Int) (W : World) (e : Ending) (W' : World) : Prop :=
  DevHere w D d W' ∧ Below W.heap.size W W' ∧ ∃ v, e = .returned (.tuple #[v, .int .i64 (askErr d.sectors d.down at_)]) ∧
    ((askErr d.sectors d.down at_ ≠ 0 ∧ v = .slice none 0 0) ∨ (askErr d.sectors d.down at_ = 0 ∧ W'.ownsRow W.heap.size 5 1 v d.size (cellsOf (d.cur at_.toNat)) ∧ (d.cur at_.toNat).length = d.size))
theorem cur_len {d : Dev} (h1 : ∀ k, (d.fast k).length = d.size) (h2 : ∀ x ∈ d.loose, x.2.length = d.size) (k : Nat) : (d.cur k).length = d.size := by
  unfold Dev.cur
  cases h : d.loose.reverse.find? (fun x => decide (x.1 = k)) with
  | none => exact h1 k
  | some x => exact h2 x (by simpa using List.mem_of_find?_eq_some h)
theorem here_read (h : DevHere w D d W) (at_ : Int) : Calls Try.prog 14 #[.pointer (some ⟨D, 0, none⟩), .int .i64 at_] W (GotAt w D d at_ W) := by
  have h0 := h
  obtain ⟨O, h, hb⟩ := h
  refine (fread_any w.heap.size O W D d h at_).mono fun e W' ⟨hb2, v, he, hv⟩ => ⟨h0.on hb2, hb2, v, he, ?_⟩
  exact hv.imp id fun ⟨h1, h2⟩ => ⟨h1, h2, cur_len h.flen (fun x hx => (h.llen x hx).2) _⟩
theorem here_quiet {f : FuncId} {r : Value} (h : DevHere w D d W) (c : ∀ {n₀ : Nat} {O : Foot}, DevAt n₀ O W D d → Calls Try.prog f #[.pointer (some ⟨D, 0, none⟩)] W fun e w' => e = .returned r ∧ W = w') : Calls Try.prog f #[.pointer (some ⟨D, 0, none⟩)] W fun e w' => e = .returned r ∧ W = w' := by
  obtain ⟨O, h, _⟩ := h
  exact c h
theorem here_sectors (h : DevHere w D d W) : Calls Try.prog 8 #[.pointer (some ⟨D, 0, none⟩)] W fun e w' => e = .returned (.int .i64 d.sectors) ∧ W = w' := here_quiet h sectors_any
theorem here_size (h : DevHere w D d W) : Calls Try.prog 9 #[.pointer (some ⟨D, 0, none⟩)] W fun e w' => e = .returned (.int .i64 d.size) ∧ W = w' := here_quiet h fsize_any
theorem here_acts (h : DevHere w D d W) : Calls Try.prog 26 #[.pointer (some ⟨D, 0, none⟩)] W fun e w' => e = .returned (.int .i64 d.acts) ∧ W = w' := here_quiet h acts_any
theorem here_down (h : DevHere w D d W) : Calls Try.prog 24 #[.pointer (some ⟨D, 0, none⟩)] W fun e w' => e = .returned (.bool d.down) ∧ W = w' := here_quiet h fdown_any
theorem here_loose (h : DevHere w D d W) : Calls Try.prog 25 #[.pointer (some ⟨D, 0, none⟩)] W fun e w' => e = .returned (.int .i64 d.loose.length) ∧ W = w' := here_quiet h loose_any
end

/-! How small a device stays -/
section
variable {d : Dev} {k : Nat}
theorem Dev.Small.mono (h : d.Small k) {j : Nat} (hj : k ≤ j) : d.Small j := ⟨Nat.le_trans h.acts hj, Nat.le_trans h.loose hj, fun i => Nat.le_trans (h.past i) hj, h.armed⟩
theorem small_new (sectors size : Nat) : (Dev.new sectors size).Small 0 := ⟨Nat.le_refl _, Nat.le_refl _, fun _ => Nat.le_refl _, by simp [Dev.new]⟩
theorem Dev.Small.act (h : d.Small k) : d.act.Small (k + 1) := ⟨by have := h.acts; simp [Dev.act]; omega, Nat.le_succ_of_le h.loose, fun i => Nat.le_succ_of_le (h.past i), by have := h.armed; simp [Dev.act]; omega⟩
theorem Dev.Small.write (h : d.Small k) (at_ : Int) (bs : List (BitVec 8)) : (d.write at_ bs).Small (k + 1) := by
  unfold Dev.write
  split
  · refine ⟨by have := h.acts; simp [Dev.act, Dev.give]; omega, by have := h.loose; simp [Dev.act, Dev.give]; omega, fun j => ?_, by have := h.armed; simp [Dev.act, Dev.give]; omega⟩
    have := h.past j
    show ((d.give at_.toNat bs).past j).length ≤ _
    unfold Dev.give
    dsimp only
    split
    · rw [List.length_append]; simp; omega
    · omega
  · exact h.mono (Nat.le_succ _)
theorem Dev.Small.sync (h : d.Small k) : d.sync.Small (k + 1) := by
  unfold Dev.sync
  split
  · exact h.mono (Nat.le_succ _)
  · split
    · exact h.act
    · have h2 := h.act
      have e := settle_same d.act d.loose
      exact ⟨by show (d.act.settle d.loose).acts ≤ _; rw [e.2.2.2.2.2.1]; exact h2.acts, by simp [Dev.forget], fun j => by show ((d.act.settle d.loose).past j).length ≤ _; rw [e.2.2.2.1]; exact h2.past j, by show (d.act.settle d.loose).armed ≤ _; rw [e.2.2.2.2.1]; exact h2.armed⟩
theorem Dev.Small.crash (h : d.Small k) (fs : List Int) : (d.crash fs).Small k := by
  have e := patches_same d (d.loose.zip fs)
  exact ⟨by show (d.patches (d.loose.zip fs)).acts ≤ _; rw [e.2.2.2.2.2.1]; exact h.acts, by simp [Dev.crash, Dev.forget], fun j => by show ((d.patches (d.loose.zip fs)).past j).length ≤ _; rw [e.2.2.2.1]; exact h.past j, by simp [Dev.crash]⟩
theorem Dev.Small.rot (h : d.Small k) (at_ byteAt : Int) (mask : BitVec 8) : (d.rot at_ byteAt mask).Small k := by
  unfold Dev.rot
  split
  · exact ⟨h.acts, h.loose, h.past, h.armed⟩
  · exact h
theorem Dev.Small.arm (h : d.Small k) {n : Int} (hn : n ≤ 9223372036854775807) : ({ d with armed := n.toNat } : Dev).Small k := ⟨h.acts, h.loose, h.past, by show n.toNat ≤ _; omega⟩
end

end Go.Proofs.Ytadglpnmhpmebaa

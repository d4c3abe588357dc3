/-
  region: a log with what was appended to it: Append, Flush, Read of it, in one word.
  Conditions: none.
-/
import Derived.Test.YtiddfilhfdkogaaReg24
import Derived.Test.YtiddfilhfdkogaaReg25
import Derived.Test.YtiddfilhfdkogaaReg16
namespace Go.Proofs.Ytiddfilhfdkogaa
open Go.RowKit Go.Shelf

/-- Something that was appended: its region, its place, its bytes. -/
structure AppD where
  q : Nat
  p : Nat
  bs : List (BitVec 8)
/-- A log has this. -/
def LogHas (x : LogS) (d : Dev) (H : List AppD) : Prop := ∃ B T, Kept x d B T ∧ ∀ r ∈ H, r.q ≤ x.last ∧ r.p + r.bs.length ≤ (x.held B T r.q).length ∧ ((x.held B T r.q).drop r.p).take r.bs.length = r.bs
theorem has_tail {α : Type} {l l' bs : List α} {p : Nat} (hl : ∃ tail, l' = l ++ tail) (h1 : p + bs.length ≤ l.length) (h2 : (l.drop p).take bs.length = bs) : p + bs.length ≤ l'.length ∧ (l'.drop p).take bs.length = bs := by
  obtain ⟨tail, rfl⟩ := hl
  refine ⟨by rw [List.length_append]; omega, ?_⟩
  rw [List.drop_append_of_le_length (by omega), List.take_append_of_le_length (by rw [List.length_drop]; omega)]
  exact h2
theorem has_log0 (p : PlanP) (d : Dev) : LogHas p.log0 d [] := ⟨_, _, kept_log0 p d, fun r hr => by cases hr⟩
section
variable {x : LogS} {d : Dev} {k : Nat} {H : List AppD}
theorem LogHas.app (hh : LogHas x d H) (h : LogInv x d k) {bs : List (BitVec 8)} (hn : 1 ≤ bs.length) (hle : bs.length ≤ x.rr) (hk : k ≤ 65536) {x2 : LogS} {d2 : Dev} (ht : AppTo (x.for_ bs.length) (d.for_ x bs.length) bs x2 d2 []) :
    LogHas x2 d2 (⟨x2.last, (x.for_ bs.length).pos, bs⟩ :: H) := by
  obtain ⟨B, T, hB, hr⟩ := hh
  obtain ⟨B', T', h1, h2, pre, h3, h4⟩ := app_held h hB hn hle hk ht
  obtain ⟨_, _, e3, _, _⟩ := h.app hn hle hk ht
  obtain ⟨_, _, _, p4, _⟩ := for_parts h hn
  refine ⟨B', T', h1, fun r hm => ?_⟩
  rcases List.mem_cons.1 hm with rfl | hm
  · refine ⟨Nat.le_refl _, ?_, ?_⟩
    · show (x.for_ bs.length).pos + bs.length ≤ (x2.held B' T' x2.last).length
      rw [h3, List.length_append, h4]
      exact Nat.le_refl _
    · show ((x2.held B' T' x2.last).drop (x.for_ bs.length).pos).take bs.length = bs
      rw [h3, ← h4, List.drop_left, List.take_of_length_le (Nat.le_refl _)]
  · obtain ⟨a, b, c⟩ := hr r hm
    exact ⟨by omega, has_tail (h2 r.q a) b c⟩
theorem LogHas.flush (hh : LogHas x d H) (h : LogInv x d k) : LogHas x.flushed (d.flushed x) H := by
  obtain ⟨B, T, hB, hr⟩ := hh
  obtain ⟨B', T', h1, h2⟩ := flushed_held hB h.ok h.on h.sz h.up
  refine ⟨B', T', h1, fun r hm => ?_⟩
  obtain ⟨a, b, c⟩ := hr r hm
  exact ⟨by rw [LogS.flushed_last]; exact a, has_tail (h2 r.q a) b c⟩
theorem LogHas.hold (hh : LogHas x d H) (h : LogInv x d k) {r : AppD} (hm : r ∈ H) (ho : x.oldest ≤ (r.q : Int)) : x.holdB r.q r.p r.bs.length = true := by
  obtain ⟨B, T, hB, hr⟩ := hh
  obtain ⟨a, b, _⟩ := hr r hm
  have hle := held_le hB h.ok ho a
  unfold LogS.holdB LogS.thereB
  simp only [Bool.and_eq_true, decide_eq_true_eq]
  omega
theorem LogHas.read (hh : LogHas x d H) (h : LogInv x d k) {w W W' : World} {D : Nat} (hd : DevHere w D d W) {r : AppD} (hm : r ∈ H) (ho : x.oldest ≤ (r.q : Int)) {e : Ending} (hr : ReadTo x d r.q r.p r.bs.length W e W') :
    ∃ v, e = .returned (.tuple #[v, .int .i64 0]) ∧ Below W.heap.size W W' ∧ BytesAt W'.heap.size W' v r.bs := by
  obtain ⟨B, T, hB, hh⟩ := hh
  obtain ⟨a, b, c⟩ := hh r hm
  obtain ⟨t1, t2⟩ := held_read hB h.ok h.on h.sz h.up hd ho a b
  obtain ⟨v, er, he, hb, ⟨rfl, _, hv⟩ | ⟨_, hne, _, t, _, ht, hl⟩⟩ := hr
  · rw [t2, c] at hv
    exact ⟨v, he, hb, hv⟩
  · exact absurd ((t1 t ht).symm.trans hl).symm hne
end
/-- A log with its device, beside E, with what was appended. -/
structure LogNow (w : World) (E : Foot) (R D : Nat) (x : LogS) (d : Dev) (k : Nat) (H : List AppD) (W : World) : Prop where
  at_ : LogApart w E R D x d W
  inv : LogInv x d k
  has : LogHas x d H
/-- Where an append goes. -/
def Goes (x x2 : LogS) (q p n : Nat) : Prop := x2.Like x ∧ x2.last = q ∧ x2.pos = p + n ∧ 1 ≤ q ∧ ((q = x.last ∧ p = x.pos ∧ x.pos + n ≤ x.rr) ∨ (q = x.last + 1 ∧ p = 0 ∧ x.rr < x.pos + n))
theorem goes_for {x : LogS} {d : Dev} {k n : Nat} (h : LogInv x d k) (hn : 1 ≤ n) : ((x.for_ n).last = x.last ∧ (x.for_ n).pos = x.pos ∧ x.pos + n ≤ x.rr) ∨ ((x.for_ n).last = x.last + 1 ∧ (x.for_ n).pos = 0 ∧ x.rr < x.pos + n) := by
  have hp := h.ok.pos_le
  obtain ⟨_, _, _, _, p5⟩ := for_parts h hn
  rcases p5 with p5 | ⟨a, b⟩
  · exact .inl p5
  · refine .inr ⟨a, b, ?_⟩
    unfold LogS.for_ at a
    split at a
    · omega
    · omega
section
variable {w W W' : World} {E : Foot} {R D : Nat} {x : LogS} {d : Dev} {k : Nat} {H : List AppD}
theorem LogNow.on (h : LogNow w E R D x d k H W) (hb : Below W.heap.size W W') : LogNow w E R D x d k H W' := ⟨h.at_.on hb, h.inv, h.has⟩
/-- Append, of bytes beside the log. -/
theorem now_append (h : LogNow w E R D x d k H W) (bs : List (BitVec 8)) (u : Value) (hu : BytesAt W.heap.size W u bs) (hue : ∀ k, u.ownBlock = some k → E k) (hne : 1 ≤ bs.length) (hle : bs.length ≤ x.rr) (hk : k + 1 + bs.length ≤ 65536) :
    Calls Try.prog 12 #[.pointer (some ⟨R, 0, none⟩), u] W fun e W' => ∃ x2 d2 q p, Goes x x2 q p bs.length ∧ e = .returned (.tuple #[.agg #[.int .i64 ((q : Nat) : Int), .int .i64 ((p : Nat) : Int), .int .i64 bs.length], .int .i64 0]) ∧ LogNow w E R D x2 d2 (k + 1 + bs.length) (⟨q, p, bs⟩ :: H) W' ∧ Same E W W' := by
  have hi := h.inv
  refine (append_any h.at_ hi.on hi.up hi.lt (by have := hi.lk; omega) bs u hu hue hne hle hi.small hk).mono fun e W' ⟨x2, d2, ht, he, hL, hs⟩ => ?_
  obtain ⟨a1, a2, a3, a4, a5⟩ := hi.app hne hle (by omega) ht
  have hh := h.has.app hi hne hle (by omega) ht
  refine ⟨x2, d2, x2.last, (x.for_ bs.length).pos, ⟨a2, rfl, a4, a5, ?_⟩, by rw [a3]; exact he, ⟨hL, a1, hh⟩, hs⟩
  rw [a3]
  exact goes_for hi hne
/-- Append, of bytes that were just laid. -/
theorem now_append_new (h : LogNow w E R D x d k H W) (o : Obj) (bs : List (BitVec 8)) {n c : Nat} (hu : BytesAt (W.heap.size + 1) (W.alloc o) (.slice (some ⟨W.heap.size, 0, none⟩) n c) bs) (hne : 1 ≤ bs.length) (hle : bs.length ≤ x.rr) (hk : k + 1 + bs.length ≤ 65536) :
    Calls Try.prog 12 #[.pointer (some ⟨R, 0, none⟩), .slice (some ⟨W.heap.size, 0, none⟩) n c] (W.alloc o) fun e W' => ∃ x2 d2 q p, Goes x x2 q p bs.length ∧ e = .returned (.tuple #[.agg #[.int .i64 ((q : Nat) : Int), .int .i64 ((p : Nat) : Int), .int .i64 bs.length], .int .i64 0]) ∧ LogNow w E R D x2 d2 (k + 1 + bs.length) (⟨q, p, bs⟩ :: H) W' ∧ Same E W W' := by
  have hg : LogNow w (fun k => E k ∨ k = W.heap.size) R D x d k H (W.alloc o) := ⟨h.at_.grab o, h.inv, h.has⟩
  have hs0 : Same E W (W.alloc o) := h.at_.same ((Below.refl _ W).alloc (Nat.le_refl _) o)
  refine (now_append hg bs _ (by rw [World.size_alloc]; exact hu) (fun j e => .inr (by simpa [Value.ownBlock] using e.symm)) hne hle hk).mono fun e W' ⟨x2, d2, q, p, h1, h2, h3, h4⟩ => ?_
  exact ⟨x2, d2, q, p, h1, h2, ⟨h3.at_.less (fun _ hk => .inl hk), h3.inv, h3.has⟩, hs0.tr (h4.mono fun _ hk => .inl hk)⟩
/-- Flush. -/
theorem now_flush (h : LogNow w E R D x d k H W) (hk : k ≤ 65536) :
    Calls Try.prog 13 #[.pointer (some ⟨R, 0, none⟩)] W fun e W' => e = .returned (.int .i64 0) ∧ LogNow w E R D x.flushed (d.flushed x) (k + 1) H W' ∧ Same E W W' := by
  have hi := h.inv
  obtain ⟨f1, f2, f3, f4⟩ := hi.flush
  refine (rflush_any h.at_ hi.on hi.small hk).mono fun e W' ⟨he, hL, hs⟩ => ?_
  rw [f4] at he
  exact ⟨he, ⟨hL, f1, h.has.flush hi⟩, hs⟩
/-- Read of what was appended. -/
theorem now_read (h : LogNow w E R D x d k H W) {r : AppD} (hm : r ∈ H) (ho : x.oldest ≤ (r.q : Int)) {q p n : Int} (hq : q = r.q) (hp : p = r.p) (hn : n = r.bs.length) :
    Calls Try.prog 21 #[.pointer (some ⟨R, 0, none⟩), .agg #[.int .i64 q, .int .i64 p, .int .i64 n]] W fun e W' => ∃ v, e = .returned (.tuple #[v, .int .i64 0]) ∧ Below W.heap.size W W' ∧ BytesAt W'.heap.size W' v r.bs := by
  subst hq hp hn
  have hd : DevHere w D d W := by obtain ⟨rv, _, hda, _⟩ := h.at_; exact hda.here
  exact (rread_any h.at_ h.inv.on r.q r.p r.bs.length (h.has.hold h.inv hm ho)).mono fun e W' hr => h.has.read h.inv hd hm ho hr
/-- The answer's block, stored. -/
theorem now_box (h : LogNow w E R D x d k H W) (a b c z : Value) (t : TypeId) :
    LogNow w (fun k => E k ∨ k = W.heap.size) R D x d k H ((((W.alloc (.cells #[z, z, z] t)).setCell ⟨W.heap.size, 0, none⟩ a).setCell ⟨W.heap.size, 1, none⟩ b).setCell ⟨W.heap.size, 2, none⟩ c) ∧
      ((((W.alloc (.cells #[z, z, z] t)).setCell ⟨W.heap.size, 0, none⟩ a).setCell ⟨W.heap.size, 1, none⟩ b).setCell ⟨W.heap.size, 2, none⟩ c).heap[W.heap.size]? = some (.cells #[a, b, c] t (0, 0)) ∧
      Below W.heap.size W ((((W.alloc (.cells #[z, z, z] t)).setCell ⟨W.heap.size, 0, none⟩ a).setCell ⟨W.heap.size, 1, none⟩ b).setCell ⟨W.heap.size, 2, none⟩ c) := by
  have hz := heap_alloc_new W (.cells #[z, z, z] t)
  have h3 := blk_set (blk_set (blk_set hz 0 a) 1 b) 2 c
  have hb : Below W.heap.size W ((((W.alloc (.cells #[z, z, z] t)).setCell ⟨W.heap.size, 0, none⟩ a).setCell ⟨W.heap.size, 1, none⟩ b).setCell ⟨W.heap.size, 2, none⟩ c) := ((((Below.refl _ W).alloc (Nat.le_refl _) _).setCell (p := ⟨W.heap.size, 0, none⟩) (Nat.le_refl _) _).setCell (p := ⟨W.heap.size, 1, none⟩) (Nat.le_refl _) _).setCell (p := ⟨W.heap.size, 2, none⟩) (Nat.le_refl _) _
  exact ⟨⟨h.at_.adds hb (fun k hk => hk.imp id (fun e => by subst e; exact ⟨Nat.le_refl _, blk_lt h3⟩)), h.inv, h.has⟩, by rw [h3]; rfl, hb⟩
end
end Go.Proofs.Ytiddfilhfdkogaa

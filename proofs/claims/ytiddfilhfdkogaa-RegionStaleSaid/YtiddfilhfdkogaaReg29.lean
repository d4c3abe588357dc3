/-
  region: Where, Last, Oldest, an Append that tells an error, in the words of a log with what was appended; an act's bytes appended.
  Conditions: none.
-/
import Derived.Test.YtiddfilhfdkogaaReg28
namespace Go.Proofs.Ytiddfilhfdkogaa
open Go.RowKit Go.Shelf

section
variable {w W W' : World} {E : Foot} {R D : Nat} {x : LogS} {d : Dev} {k : Nat} {H : List AppD}
/-- Where a log is, as a number. -/
def LogS.wh (x : LogS) : Nat := x.last * 154 + x.pos
theorem wh_eq (hr : x.rr = 154) : x.where_ = x.wh := by unfold LogS.where_ LogS.wh; rw [hr]
theorem LogNow.wh_le (h : LogNow w E R D x d k H W) (hr : x.rr = 154) (hk : k ≤ 65536) : x.wh ≤ 10092698 := by
  have h1 := h.inv.lk
  have h2 := h.inv.ok.pos_le
  unfold LogS.wh
  omega
theorem now_where (h : LogNow w E R D x d k H W) (hr : x.rr = 154) (hk : k ≤ 65536) : Calls Try.prog 20 #[.pointer (some ⟨R, 0, none⟩)] W fun e W' => e = .returned (.int .i64 ((x.wh : Nat) : Int)) ∧ Below W.heap.size W W' := by
  obtain ⟨rv, hL, _⟩ := h.at_
  have := h.wh_le hr hk
  have hw := where_any hL (by rw [wh_eq hr]; omega)
  rw [wh_eq hr] at hw
  exact hw
theorem now_last (h : LogNow w E R D x d k H W) : Calls Try.prog 14 #[.pointer (some ⟨R, 0, none⟩)] W fun e W' => e = .returned (.int .i64 x.last) ∧ W = W' := by
  obtain ⟨rv, hL, _⟩ := h.at_
  exact last_any hL
theorem now_oldest (h : LogNow w E R D x d k H W) : Calls Try.prog 16 #[.pointer (some ⟨R, 0, none⟩)] W fun e W' => e = .returned (.int .i64 x.oldest) ∧ Below W.heap.size W W' := by
  obtain ⟨rv, hL, _⟩ := h.at_
  exact oldest_any hL
/-- Append of no bytes, of too many. -/
theorem now_append_no (h : LogNow w E R D x d k H W) (hr : x.rr = 154) (a : Option Addr) (n c : Nat) (hn : n = 0 ∨ 154 < n) (hm : n ≤ 1000) : Calls Try.prog 12 #[.pointer (some ⟨R, 0, none⟩), .slice a n c] W fun e W' => ∃ er : Int, er ≠ 0 ∧ e = .returned (.tuple #[.agg #[.int .i64 0, .int .i64 0, .int .i64 0], .int .i64 er]) ∧ LogNow w E R D x d k H W' ∧ Below W.heap.size W W' := by
  rcases hn with rfl | hn
  · exact (append_zero W R a c).mono fun e W' ⟨he, hb⟩ => ⟨1, by decide, he, h.on hb, hb⟩
  · exact (append_long h.at_ (by rw [hr]; exact hn) (by omega)).mono fun e W' ⟨he, _, hb⟩ => ⟨9, by decide, he, h.on hb, hb⟩
theorem LogNow.adds (h : LogNow w E R D x d k H W) {E' : Foot} (hb : Below W.heap.size W W') (hE : ∀ k, E' k → E k ∨ (W.heap.size ≤ k ∧ k < W'.heap.size)) : LogNow w E' R D x d k H W' := ⟨h.at_.adds hb hE, h.inv, h.has⟩
theorem LogNow.less (h : LogNow w E R D x d k H W) {E' : Foot} (hE : ∀ k, E' k → E k) : LogNow w E' R D x d k H W := ⟨h.at_.less hE, h.inv, h.has⟩
theorem LogNow.grab (h : LogNow w E R D x d k H W) (o : Obj) : LogNow w (fun j => E j ∨ j = W.heap.size) R D x d k H (W.alloc o) := ⟨h.at_.grab o, h.inv, h.has⟩
theorem LogNow.grow (h : LogNow w E R D x d k H W) {k' : Nat} (hk : k ≤ k') : LogNow w E R D x d k' H W := ⟨h.at_, ⟨h.inv.ok, h.inv.on, h.inv.up, h.inv.sz, h.inv.lt, h.inv.small.mono hk, h.inv.beg, Nat.le_trans h.inv.lk hk⟩, h.has⟩
theorem LogNow.pos_le (h : LogNow w E R D x d k H W) (hr : x.rr = 154) : x.pos ≤ 154 := by have := h.inv.ok.pos_le; omega
/-- Behind a flush. -/
theorem wh_flushed (h : LogInv x d k) (hm : x.room = 77) : x.wh ≤ x.flushed.wh ∧ x.flushed.wh ≤ x.wh + 76 := by
  have h1 := h.lt
  unfold LogS.flushed
  split
  · omega
  · next hro =>
    have hl : 1 ≤ x.row.length := by
      cases hx : x.row with
      | nil => exact absurd hx hro
      | cons _ _ => simp
    unfold LogS.wh LogS.pos
    show x.last * 154 + (x.sector * x.room + x.row.length) ≤ x.last * 154 + ((x.sector + 1) * x.room + 0) ∧ x.last * 154 + ((x.sector + 1) * x.room + 0) ≤ x.last * 154 + (x.sector * x.room + x.row.length) + 76
    rw [Nat.add_mul, Nat.one_mul]
    omega
/-- Behind an append. -/
theorem wh_goes {x2 : LogS} {q p n : Nat} (hp : x.pos ≤ 154) (h : Goes x x2 q p n) : x2.wh = q * 154 + p + n ∧ x.wh + n ≤ x2.wh ∧ x2.last = q := by
  obtain ⟨_, g2, g3, _, ⟨a, b, c⟩ | ⟨a, b, c⟩⟩ := h
  all_goals unfold LogS.wh; rw [g2, g3, a, b]; refine ⟨by omega, by omega, by first | rfl | exact trivial | omega⟩
end
/-- Append of bytes that a call made. -/
theorem now_append_act {w W : World} {R D : Nat} {x : LogS} {d : Dev} {k g n : Nat} {H : List AppD} {bs : List (BitVec 8)} (h : LogNow w (fun j => j = g) R D x d k H W) (hr : x.rr = 154) (hbs : bs.length = n) (h1 : 1 ≤ n) (h2 : n ≤ 154) (hk : k + 155 ≤ 65536) (ho : BytesAt W.heap.size W (.slice (some ⟨g, 0, none⟩) n n) bs) :
    Calls Try.prog 12 #[.pointer (some ⟨R, 0, none⟩), .slice (some ⟨g, 0, none⟩) n n] W fun e W' => ∃ x2 d2 q p, Goes x x2 q p n ∧ e = .returned (.tuple #[.agg #[.int .i64 ((q : Nat) : Int), .int .i64 ((p : Nat) : Int), .int .i64 (n : Int)], .int .i64 0]) ∧ LogNow w (fun _ => False) R D x2 d2 (k + 155) (⟨q, p, bs⟩ :: H) W' := by
  subst hbs
  exact (now_append h bs _ ho (fun j e => by simpa [Value.ownBlock] using e.symm) h1 (by omega) (by omega)).mono fun e W' ⟨x2, d2, q, p, a, b, c, _⟩ => ⟨x2, d2, q, p, a, b, (c.less (fun _ h => h.elim)).grow (by omega)⟩
/-- Of bytes that a call made. -/
theorem own_bytes {w W : World} {g n : Nat} {bs : List (BitVec 8)} (hn : bs.length = n) (h : W.ownsRow w.heap.size 5 1 (.slice (some ⟨g, 0, none⟩) n n) n (cellsOf bs)) : BytesAt W.heap.size W (.slice (some ⟨g, 0, none⟩) n n) bs := by
  subst hn
  exact BytesAt.of_owns h
end Go.Proofs.Ytiddfilhfdkogaa

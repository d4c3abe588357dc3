/-
  Plain mathematics: a region's bytes so far; what was appended reads back while its region is there.
  Conditions: none.
-/
import Derived.Test.YtiddfilhfdkogaaReg22
import Derived.Test.YtiddfilhfdkogaaReg23
namespace Go.Proofs.Ytiddfilhfdkogaa
open Go.RowKit

/-- A region's bytes so far. -/
def LogS.held (x : LogS) (B : Nat → Nat → List (BitVec 8)) (T : Nat → Nat) (q : Nat) : List (BitVec 8) := (List.range (T q)).flatMap (fun s => B q s) ++ if q = x.last then x.row else []
section
variable {x : LogS} {d : Dev} {B : Nat → Nat → List (BitVec 8)} {T : Nat → Nat}
theorem held_flat (hk : Kept x d B T) : x.held B T x.last = x.flat B := by
  unfold LogS.held LogS.flat
  rw [hk.now, if_pos rfl]
theorem kept_len (hk : Kept x d B T) {q : Nat} (hq1 : x.oldest ≤ (q : Int)) (hq2 : q ≤ x.last) : ((List.range (T q)).flatMap (fun s => B q s)).length = T q * x.room :=
  flat_len (fun s => B q s) x.room (T q) fun s hs => (hk.stands q s hq1 hq2 hs).1
theorem oldest_le_last (hok : x.Ok) (h1 : 1 ≤ x.last) : x.oldest ≤ (x.last : Int) := by
  have := hok.r1
  unfold LogS.oldest
  omega
theorem held_len (hk : Kept x d B T) (hok : x.Ok) (h1 : 1 ≤ x.last) : (x.held B T x.last).length = x.pos := by
  unfold LogS.held LogS.pos
  rw [List.length_append, kept_len hk (oldest_le_last hok h1) (Nat.le_refl _), hk.now, if_pos rfl]
theorem held_le (hk : Kept x d B T) (hok : x.Ok) {q : Nat} (hq1 : x.oldest ≤ (q : Int)) (hq2 : q ≤ x.last) : (x.held B T q).length ≤ x.rr := by
  by_cases h : q = x.last
  · subst h
    unfold LogS.held
    rw [List.length_append, kept_len hk hq1 hq2, if_pos rfl, hk.now]
    exact hok.pos_le
  · unfold LogS.held
    rw [List.length_append, kept_len hk hq1 hq2, if_neg h, List.length_nil, Nat.add_zero]
    exact Nat.mul_le_mul_right _ (hk.cap q)
/-- What stands in a region is read. -/
theorem held_read (hk : Kept x d B T) (hok : x.Ok) (hon : x.On d) (hz : 96 ≤ d.size) (hup : d.Up) {w W : World} {D : Nat} (hd : DevHere w D d W) {q : Nat} (hq1 : x.oldest ≤ (q : Int)) (hq2 : q ≤ x.last) {p n : Nat} (hpn : p + n ≤ (x.held B T q).length) :
    (∀ t, t * x.room < p + n → x.loadE d q t = 0) ∧ ((x.contP d q).drop p).take n = ((x.held B T q).drop p).take n := by
  have hqi : (q : Int) ≤ 9223372036854775807 := by have := hok.l2; omega
  have hA : ∀ s, s < T q → x.loadE d q s = 0 ∧ x.padB d q s = B q s := by
    intro s hs
    have hss : s < x.sectors := Nat.lt_of_lt_of_le hs (hk.cap q)
    have hw : x.wayB q s = false := by
      unfold LogS.wayB
      by_cases e : q = x.last
      · subst e
        have hn := hk.now
        have : ((s : Int) == (x.sector : Int)) = false := beq_eq_false_iff_ne.2 (by omega)
        rw [this, Bool.and_false]
      · have : ((q : Int) == (x.last : Int)) = false := beq_eq_false_iff_ne.2 (by omega)
        rw [this, Bool.false_and]
    obtain ⟨e1, e2⟩ := stands_stored hok hon hz hup hss hqi (hk.stands q s hq1 hq2 hs)
    have e3 : x.loadE d q s = 0 := by unfold LogS.loadE; rw [hw]; exact e1
    refine ⟨e3, ?_⟩
    unfold LogS.padB LogS.loadB
    rw [if_pos e3, hw]
    exact e2
  have hB : q = x.last → x.loadE d q (T q) = 0 ∧ x.padB d q (T q) = fillTo x.room x.row := by
    intro e
    subst e
    have hw : x.wayB (x.last : Nat) (T x.last : Nat) = true := by
      unfold LogS.wayB
      rw [hk.now]
      simp
    have e3 : x.loadE d x.last (T x.last) = 0 := by unfold LogS.loadE; rw [hw]; rfl
    refine ⟨e3, ?_⟩
    unfold LogS.padB LogS.loadB
    rw [if_pos e3, hw, if_pos rfl]
  have hl := kept_len hk hq1 hq2
  have hle := held_le hk hok hq1 hq2
  have hlen : (x.held B T q).length = T q * x.room + (if q = x.last then x.row else []).length := by unfold LogS.held; rw [List.length_append, hl]
  have hm := hok.m1
  refine ⟨fun t ht => ?_, ?_⟩
  · by_cases h : t < T q
    · exact (hA t h).1
    · have h2 : T q * x.room ≤ t * x.room := Nat.mul_le_mul_right _ (by omega)
      by_cases e : q = x.last
      · rw [if_pos e] at hlen
        have hr := hok.rlt
        have h3 : t * x.room < (T q + 1) * x.room := by rw [Nat.add_mul, Nat.one_mul]; omega
        have h4 := Nat.lt_of_mul_lt_mul_right h3
        obtain rfl : t = T q := by omega
        exact (hB e).1
      · rw [if_neg e, List.length_nil] at hlen
        omega
  · apply List.ext_getElem?
    intro i
    rw [List.getElem?_take, List.getElem?_take]
    by_cases hi : i < n
    · rw [if_pos hi, if_pos hi, List.getElem?_drop, List.getElem?_drop]
      have hpi : p + i < (x.held B T q).length := by omega
      have hc : (x.contP d q)[p + i]? = (x.padB d q ((p + i) / x.room))[(p + i) % x.room]? := flat_get (fun s => x.padB d q s) x.room hm x.sectors (fun s _ => pad_len hok hon hd q s) (p + i) (by show p + i < x.sectors * x.room; exact Nat.lt_of_lt_of_le hpi hle)
      rw [hc]
      unfold LogS.held
      by_cases h : p + i < T q * x.room
      · rw [List.getElem?_append_left (by rw [hl]; exact h), flat_get (fun s => B q s) x.room hm (T q) (fun s hs => (hk.stands q s hq1 hq2 hs).1) (p + i) h, (hA _ (Nat.div_lt_of_lt_mul (by rw [Nat.mul_comm]; exact h))).2]
      · by_cases e : q = x.last
        · rw [if_pos e] at hlen ⊢
          have hr := hok.rlt
          have e1 : (p + i) / x.room = T q := by
            apply Nat.div_eq_of_lt_le
            · omega
            · rw [Nat.add_mul, Nat.one_mul]
              by_cases hf : x.row.length = x.room
              · omega
              · omega
          have e2 : (p + i) % x.room = p + i - T q * x.room := by
            have := Nat.div_add_mod (p + i) x.room
            rw [e1, Nat.mul_comm] at this
            omega
          rw [List.getElem?_append_right (by rw [hl]; omega), hl, e1, e2, (hB e).2]
          unfold fillTo
          rw [List.getElem?_append_left (by omega)]
        · rw [if_neg e, List.length_nil] at hlen
          omega
    · rw [if_neg hi, if_neg hi]

/-- Behind a flush. -/
theorem flushed_held (h : Kept x d B T) (hok : x.Ok) (hon : x.On d) (hz : 96 ≤ d.size) (hup : d.Up) :
    ∃ B' T', Kept x.flushed (d.flushed x) B' T' ∧ ∀ q : Nat, q ≤ x.last → ∃ tail, x.flushed.held B' T' q = x.held B T q ++ tail := by
  obtain ⟨B', T', h1, h2, h3, h4⟩ := h.flushed hok hon hz hup
  obtain ⟨e5, e6⟩ := flushed_parts x
  refine ⟨B', T', h1, fun q hq => ?_⟩
  by_cases hql : q = x.last
  · subst hql
    have hn := h1.now
    rw [e5] at hn
    unfold LogS.held
    rw [e5, if_pos rfl, if_pos rfl, e6, hn, h.now]
    by_cases hr : x.row = []
    · refine ⟨[], ?_⟩
      have hs : x.flushed.sector = x.sector := by unfold LogS.flushed; rw [if_pos hr]
      rw [hs, hr]
      simp only [List.append_nil]
      rw [List.flatMap_def, List.flatMap_def]
      congr 1
      exact List.map_congr_left fun s hs => h3 s (List.mem_range.1 hs)
    · refine ⟨zeros (x.room - x.row.length), ?_⟩
      have hs : x.flushed.sector = x.sector + 1 := by unfold LogS.flushed; rw [if_neg hr]; rfl
      rw [hs, List.range_succ, List.flatMap_append]
      simp only [List.flatMap_singleton, List.append_nil]
      rw [h4 hr]
      unfold fillTo
      rw [List.append_assoc]
      congr 1
      rw [List.flatMap_def, List.flatMap_def]
      congr 1
      exact List.map_congr_left fun s hs => h3 s (List.mem_range.1 hs)
  · refine ⟨[], ?_⟩
    obtain ⟨a, b⟩ := h2 q hql
    unfold LogS.held
    rw [e5, if_neg hql, a, b]
    simp [hql]
/-- Behind a region that is begun. -/
theorem begun_held (h : Kept x d B T) (hok : x.Ok) (hon : x.On d) (hz : 96 ≤ d.size) (hup : d.Up) :
    ∃ B' T', Kept x.begun (d.flushed x) B' T' ∧ x.begun.held B' T' (x.last + 1) = [] ∧ ∀ q : Nat, q ≤ x.last → ∃ tail, x.begun.held B' T' q = x.held B T q ++ tail := by
  obtain ⟨B', T', h1, h2⟩ := flushed_held h hok hon hz hup
  obtain ⟨e5, e6⟩ := flushed_parts x
  have hn := h1.next x.begun ⟨by rw [e5]; rfl, rfl, rfl, rfl, rfl, rfl⟩
  refine ⟨B', _, hn, ?_, fun q hq => ?_⟩
  · unfold LogS.held
    have hrow : x.begun.row = x.flushed.row := rfl
    have hlast : x.begun.last = x.last + 1 := rfl
    rw [hlast, if_pos rfl, hrow, e6, e5]
    simp
  · obtain ⟨tail, ht⟩ := h2 q hq
    refine ⟨tail, ?_⟩
    rw [← ht]
    unfold LogS.held
    have hlast : x.begun.last = x.last + 1 := rfl
    have hq1 : ¬ q = x.last + 1 := by omega
    rw [hlast, e5, if_neg hq1, e6]
    simp [hq1]
end
/-- What holds of a log from call to call. -/
structure LogInv (x : LogS) (d : Dev) (k : Nat) : Prop where
  ok : x.Ok
  on : x.On d
  up : d.Up
  sz : 96 ≤ d.size
  lt : x.row.length < x.room
  small : d.Small k
  beg : x.last = 0 → x.sector = x.sectors
  lk : x.last ≤ k
/-- Its parameters are the other's. -/
def LogS.Like (x y : LogS) : Prop := x.room = y.room ∧ x.first = y.first ∧ x.regions = y.regions ∧ x.sectors = y.sectors
theorem LogS.Like.rr {x y : LogS} (h : x.Like y) : x.rr = y.rr := by unfold LogS.rr; rw [h.1, h.2.2.2]
theorem LogS.Like.trans {x y z : LogS} (h : x.Like y) (k : y.Like z) : x.Like z := ⟨h.1.trans k.1, h.2.1.trans k.2.1, h.2.2.1.trans k.2.2.1, h.2.2.2.trans k.2.2.2⟩
section
variable {x : LogS} {d : Dev} {k : Nat}
theorem for_parts (h : LogInv x d k) {n : Nat} (hn : 1 ≤ n) : (x.for_ n).Like x ∧ 1 ≤ (x.for_ n).last ∧ (x.for_ n).last ≤ k + 1 ∧ x.last ≤ (x.for_ n).last ∧ (((x.for_ n).last = x.last ∧ (x.for_ n).pos = x.pos ∧ x.pos + n ≤ x.rr) ∨ ((x.for_ n).last = x.last + 1 ∧ (x.for_ n).pos = 0)) := by
  have hp := h.ok.pos_le
  have hlk := h.lk
  unfold LogS.for_
  by_cases hc : x.rr - x.pos < n
  · rw [if_pos hc]
    have hrow : x.begun.row = [] := LogS.flushed_row
    have hlast : x.begun.last = x.last + 1 := rfl
    have hpos : x.begun.pos = 0 := by
      unfold LogS.pos
      rw [hrow]
      show 0 * _ + 0 = 0
      simp
    exact ⟨begun_same x, by omega, by omega, by omega, .inr ⟨hlast, hpos⟩⟩
  · rw [if_neg hc]
    have hl : x.last ≠ 0 := fun e => by
      have hs := h.beg e
      have hr := h.ok.full hs
      have : x.pos = x.rr := by unfold LogS.pos LogS.rr; rw [hs, hr]; simp
      omega
    exact ⟨⟨rfl, rfl, rfl, rfl⟩, by omega, by omega, Nat.le_refl _, .inl ⟨rfl, rfl, by omega⟩⟩
theorem LogInv.app_inv (h : LogInv x d k) {bs : List (BitVec 8)} (hle : bs.length ≤ x.rr) (hk : k ≤ 65536) :
    AppInv (x.for_ bs.length) (k + 1 + bs.length) ((x.for_ bs.length).pos + bs.length) (x.for_ bs.length) (d.for_ x bs.length) bs :=
  for_inv h.ok h.on h.up h.sz h.lt (by have := h.lk; omega) hle h.small
/-- Behind an append. -/
theorem LogInv.app (h : LogInv x d k) {bs : List (BitVec 8)} (hn : 1 ≤ bs.length) (hle : bs.length ≤ x.rr) (hk : k ≤ 65536) {x2 : LogS} {d2 : Dev} (ht : AppTo (x.for_ bs.length) (d.for_ x bs.length) bs x2 d2 []) :
    LogInv x2 d2 (k + 1 + bs.length) ∧ x2.Like x ∧ x2.last = (x.for_ bs.length).last ∧ x2.pos = (x.for_ bs.length).pos + bs.length ∧ 1 ≤ x2.last := by
  obtain ⟨p1, p2, p3, p4, p5⟩ := for_parts h hn
  have hi := (h.app_inv hle hk).of_to ht
  obtain ⟨s1, s2, s3, s4, s5⟩ := hi.same
  obtain ⟨j, j1, j2⟩ := hi.small
  have hf := hi.fit
  rw [List.length_nil] at hf
  refine ⟨⟨hi.ok, hi.on, hi.up, hi.sz, hi.lt, j1.mono (by simpa using j2), fun e => by omega, by omega⟩, LogS.Like.trans ⟨s1, s2, s3, s4⟩ p1, s5, by omega, by omega⟩
theorem LogInv.flush (h : LogInv x d k) : LogInv x.flushed (d.flushed x) (k + 1) ∧ x.flushed.Like x ∧ x.flushed.last = x.last ∧ x.flushE d = 0 := by
  obtain ⟨e1, e2, e3, e4⟩ := flushed_same x
  obtain ⟨z1, z2⟩ := d.size_flushed x
  have hr : x.flushed.row = [] := LogS.flushed_row
  have hlk := h.lk
  have hl := LogS.flushed_last (x := x)
  refine ⟨⟨LogS.flushed_ok h.ok, ⟨by rw [z1, e1]; exact h.on.size, by rw [z2, e2, e3, e4]; exact h.on.sectors⟩, h.up.flushed x, by rw [z1]; exact h.sz, by rw [hr, e1]; exact h.ok.m1, h.small.flushed x, fun e => ?_, by omega⟩, ⟨e1, e2, e3, e4⟩, hl, flush_up h.ok h.on h.sz h.up⟩
  have hs := h.beg (by omega)
  have hro := h.ok.full hs
  unfold LogS.flushed
  rw [if_pos hro]
  exact hs
/-- What an append puts where. -/
theorem app_held (h : LogInv x d k) {B : Nat → Nat → List (BitVec 8)} {T : Nat → Nat} (hk : Kept x d B T) {bs : List (BitVec 8)} (hn : 1 ≤ bs.length) (hle : bs.length ≤ x.rr) (hk2 : k ≤ 65536) {x2 : LogS} {d2 : Dev} (ht : AppTo (x.for_ bs.length) (d.for_ x bs.length) bs x2 d2 []) :
    ∃ B' T', Kept x2 d2 B' T' ∧ (∀ q : Nat, q ≤ x.last → ∃ tail, x2.held B' T' q = x.held B T q ++ tail) ∧ ∃ pre, x2.held B' T' x2.last = pre ++ bs ∧ pre.length = (x.for_ bs.length).pos := by
  obtain ⟨p1, p2, p3, p4, p5⟩ := for_parts h hn
  have hai := h.app_inv (bs := bs) hle hk2
  have hf : ∃ B1 T1, Kept (x.for_ bs.length) (d.for_ x bs.length) B1 T1 ∧ ∀ q : Nat, q ≤ x.last → ∃ tail, (x.for_ bs.length).held B1 T1 q = x.held B T q ++ tail := by
    unfold LogS.for_ Dev.for_
    by_cases hc : x.rr - x.pos < bs.length
    · rw [if_pos hc, if_pos hc]
      obtain ⟨B1, T1, a, _, b⟩ := begun_held hk h.ok h.on h.sz h.up
      exact ⟨B1, T1, a, b⟩
    · rw [if_neg hc, if_neg hc]
      exact ⟨B, T, hk, fun q _ => ⟨[], by simp⟩⟩
  obtain ⟨B1, T1, hk1, hg1⟩ := hf
  obtain ⟨B2, T2, hk3, hfl, hla, hot⟩ := to_kept hai hk1 ht
  rw [List.append_nil] at hfl
  have hlast : x2.held B2 T2 x2.last = (x.for_ bs.length).held B1 T1 (x.for_ bs.length).last ++ bs := by
    rw [held_flat hk3, hfl, held_flat hk1]
  refine ⟨B2, T2, hk3, fun q hq => ?_, (x.for_ bs.length).held B1 T1 (x.for_ bs.length).last, hlast, held_len hk1 hai.ok p2⟩
  obtain ⟨tail, htl⟩ := hg1 q hq
  by_cases hql : q = (x.for_ bs.length).last
  · refine ⟨tail ++ bs, ?_⟩
    rw [← List.append_assoc, ← htl, hql, ← hlast, hla]
  · refine ⟨tail, ?_⟩
    rw [← htl]
    obtain ⟨a, b⟩ := hot q hql
    unfold LogS.held
    rw [a, b, hla, if_neg hql, if_neg hql]
end
end Go.Proofs.Ytiddfilhfdkogaa

/-
  flash: more calls beside other new memory; an act done to a device, and what it keeps of a sector that it does not name.
  Conditions: none.
-/
import Derived.Test.YtfbddbigmbmcaaaActs04
namespace Go.Proofs.Ytfbddbigmbmcaaa
open Go.RowKit

section
variable {w W W' W1 : World} {Q : Foot} {D : Nat} {d : Dev}
theorem apart_arm (h : DevApart w Q D d W) (n : Int) : Calls Try.prog 17 #[.pointer (some ⟨D, 0, none⟩), .int .i64 n] W (DidApart w Q D { d with armed := n.toNat } (.tuple #[]) W) := by
  obtain ⟨O, h, hb, ho, hi⟩ := h
  exact (arm_any h n).mono fun _ _ ⟨he, h2, hst⟩ => DevApart.left h hb ho hi ⟨he, O, h2, hst⟩
theorem apart_rot (h : DevApart w Q D d W) (at_ byteAt : Int) (mask : BitVec 8) :
    Calls Try.prog 20 #[.pointer (some ⟨D, 0, none⟩), .int .i64 at_, .int .i64 byteAt, .int .u8 (U mask)] W (DidApart w Q D (d.rot at_ byteAt mask) (.int .i64 (rotErr d at_ byteAt)) W) := by
  obtain ⟨O, h, hb, ho, hi⟩ := h
  exact (rot_any w.heap.size O W D d h at_ byteAt mask hb.size).mono fun _ _ hl => DevApart.left h hb ho hi hl
theorem apart_crash (h : DevApart w Q D d W) {v : Value} {fs : List Int} (hv : IntsIn w.heap.size W v fs) {k : Nat} (hs : d.Small k) (hk : k ≤ 65536) (hf : fs.length ≤ 1099511627776) :
    Calls Try.prog 18 #[.pointer (some ⟨D, 0, none⟩), v] W (DidApart w Q D (d.crash fs) (.tuple #[]) W) := by
  obtain ⟨O, h, hb, ho, hi⟩ := h
  have h2 := hs.loose
  have hv2 : IntsOff O W v fs := by
    obtain ⟨a, cap, rfl, hv⟩ := hv
    refine ⟨a, cap, rfl, hv.imp id ?_⟩
    rintro ⟨g, off, rfl, hg, hc⟩
    exact ⟨g, off, rfl, by have := hb.size; omega, fun ho => by have := h.lo g ho; omega, hc⟩
  exact (crash_any w.heap.size O W D d h v fs hv2 hb.size (by omega) hf).mono fun _ _ hl => DevApart.left h hb ho hi hl
theorem apart_read (h : DevApart w Q D d W) (at_ : Int) : Calls Try.prog 15 #[.pointer (some ⟨D, 0, none⟩), .int .i64 at_] W fun e W' => GotAt w D d at_ W e W' ∧ DevApart w Q D d W' :=
  (here_read h.here at_).mono fun _ _ hg => ⟨hg, h.on hg.2.1⟩
theorem DevApart.same (h : DevApart w Q D d W) (hb : Below W.heap.size W W') : Same Q W W' := by
  obtain ⟨O, _, _, _, hi⟩ := h
  exact Same.of_below hb hi
theorem Same.tr {O : Foot} {a b c : World} (h : Same O a b) (k : Same O b c) : Same O a c := ⟨Nat.le_trans h.1 k.1, fun i hi => (k.2 i hi).trans (h.2 i hi)⟩
end

/-- An act's bytes. -/
def Act4.n (x : Act4) (size : Nat) : Nat := if x.len < 0 ∨ 600 < x.len then size else x.len.toNat
def Act4.bytes (x : Act4) (size : Nat) : List (BitVec 8) := if 1 < x.n size then (List.replicate (x.n size) x.b).set (x.n size - 1) (x.b + 1) else List.replicate (x.n size) x.b
theorem Act4.bytes_len (x : Act4) (size : Nat) : (x.bytes size).length = x.n size := by unfold Act4.bytes; split <;> simp
theorem Act4.n_le (x : Act4) (size : Nat) (h : size ≤ 600) : x.n size ≤ 600 := by unfold Act4.n; split <;> omega
/-- An act done. -/
def Dev.doing (d : Dev) (x : Act4) : Dev :=
  if x.kind % 8 = 3 then d.sync else if x.kind % 8 = 4 then d else if x.kind % 8 = 5 then { d with armed := x.at_.toNat } else if x.kind % 8 = 6 then d.crash x.fates
  else if x.kind % 8 = 7 then d.rot x.at_ x.len x.b else d.write x.at_ (x.bytes d.size)

/-- What a device of those sectors has. -/
structure Dev.Is (d : Dev) (n s k : Nat) : Prop where
  sectors : d.sectors = n
  size : d.size = s
  small : d.Small k
theorem Dev.Is.mono {d : Dev} {n s k j : Nat} (h : d.Is n s k) (hj : k ≤ j) : d.Is n s j := ⟨h.sectors, h.size, h.small.mono hj⟩
theorem write_same (d : Dev) (at_ : Int) (bs : List (BitVec 8)) : (d.write at_ bs).sectors = d.sectors ∧ (d.write at_ bs).size = d.size := by unfold Dev.write; split <;> exact ⟨rfl, rfl⟩
theorem sync_same (d : Dev) : d.sync.sectors = d.sectors ∧ d.sync.size = d.size := by
  unfold Dev.sync
  split
  · exact ⟨rfl, rfl⟩
  · split
    · exact ⟨rfl, rfl⟩
    · have e := settle_same d.act d.loose
      exact ⟨e.2.1, e.2.2.1⟩
theorem crash_same (d : Dev) (fs : List Int) : (d.crash fs).sectors = d.sectors ∧ (d.crash fs).size = d.size := by
  have e := patches_same d (d.loose.zip fs)
  exact ⟨e.2.1, e.2.2.1⟩
theorem rot_same (d : Dev) (at_ byteAt : Int) (mask : BitVec 8) : (d.rot at_ byteAt mask).sectors = d.sectors ∧ (d.rot at_ byteAt mask).size = d.size := by unfold Dev.rot; split <;> exact ⟨rfl, rfl⟩
theorem doing_is {d : Dev} {n s k : Nat} (h : d.Is n s k) (x : Act4) (hx : x.wf) : (d.doing x).Is n s (k + 1) := by
  obtain ⟨h1, h2, h3⟩ := h
  unfold Dev.doing
  split
  · exact ⟨(sync_same d).1.trans h1, (sync_same d).2.trans h2, h3.sync⟩
  split
  · exact ⟨h1, h2, h3.mono (Nat.le_succ _)⟩
  split
  · exact ⟨h1, h2, (h3.arm hx.2.1.2).mono (Nat.le_succ _)⟩
  split
  · exact ⟨(crash_same d _).1.trans h1, (crash_same d _).2.trans h2, (h3.crash _).mono (Nat.le_succ _)⟩
  split
  · exact ⟨(rot_same d _ _ _).1.trans h1, (rot_same d _ _ _).2.trans h2, (h3.rot _ _ _).mono (Nat.le_succ _)⟩
  · exact ⟨(write_same d _ _).1.trans h1, (write_same d _ _).2.trans h2, h3.write _ _⟩

/-- A sector with nothing loose. -/
structure Dev.Fast (d : Dev) (k : Nat) (F : List (BitVec 8)) : Prop where
  fast : d.fast k = F
  loose : ∀ x ∈ d.loose, x.1 ≠ k
theorem settle_fast (l : List (Nat × List (BitVec 8))) (k : Nat) (h : ∀ x ∈ l, x.1 ≠ k) : ∀ d : Dev, (d.settle l).fast k = d.fast k := by
  induction l with
  | nil => intro d; rfl
  | cons x l ih =>
    intro d
    show ((d.put x.1 x.2).settle l).fast k = _
    rw [ih (fun y hy => h y (List.mem_cons_of_mem _ hy))]
    show (if k = x.1 then x.2 else d.fast k) = _
    rw [if_neg (fun e => h x (List.mem_cons_self ..) e.symm)]
theorem patches_fast (l : List ((Nat × List (BitVec 8)) × Int)) (k : Nat) (h : ∀ x ∈ l, x.1.1 ≠ k) : ∀ d : Dev, (d.patches l).fast k = d.fast k := by
  induction l with
  | nil => intro d; rfl
  | cons x l ih =>
    intro d
    show ((d.patch x).patches l).fast k = _
    rw [ih (fun y hy => h y (List.mem_cons_of_mem _ hy))]
    show (if k = x.1.1 then _ else d.fast k) = _
    rw [if_neg (fun e => h x (List.mem_cons_self ..) e.symm)]
theorem zip_fst {l : List (Nat × List (BitVec 8))} {fs : List Int} {x : (Nat × List (BitVec 8)) × Int} (h : x ∈ l.zip fs) : x.1 ∈ l := (List.of_mem_zip (a := x.1) (b := x.2) h).1
theorem Dev.Fast.sync {d : Dev} {k : Nat} {F : List (BitVec 8)} (h : d.Fast k F) : d.sync.Fast k F := by
  unfold Dev.sync
  split
  · exact h
  · split
    · exact ⟨h.fast, h.loose⟩
    · refine ⟨?_, fun x hx => by simp [Dev.forget] at hx⟩
      show ((d.act).settle d.loose).fast k = F
      rw [settle_fast _ _ h.loose]
      exact h.fast
theorem Dev.Fast.crash {d : Dev} {k : Nat} {F : List (BitVec 8)} (h : d.Fast k F) (fs : List Int) : (d.crash fs).Fast k F := by
  refine ⟨?_, fun x hx => by simp [Dev.crash, Dev.forget] at hx⟩
  show (d.patches (d.loose.zip fs)).fast k = F
  rw [patches_fast _ _ (fun x hx => h.loose _ (zip_fst hx))]
  exact h.fast
theorem Dev.Fast.rot {d : Dev} {k : Nat} {F : List (BitVec 8)} (h : d.Fast k F) {at_ : Int} (hat : at_ ≠ k) (byteAt : Int) (mask : BitVec 8) : (d.rot at_ byteAt mask).Fast k F := by
  unfold Dev.rot
  split
  · next hr =>
    refine ⟨?_, h.loose⟩
    show (if k = at_.toNat then _ else d.fast k) = F
    rw [if_neg (by omega)]
    exact h.fast
  · exact h
theorem Dev.Fast.write {d : Dev} {k : Nat} {F : List (BitVec 8)} (h : d.Fast k F) {at_ : Int} (hat : at_ ≠ k) (bs : List (BitVec 8)) : (d.write at_ bs).Fast k F := by
  unfold Dev.write
  split
  · next hr =>
    refine ⟨h.fast, ?_⟩
    intro x hx
    have hx : x ∈ d.loose ++ [(at_.toNat, bs)] := hx
    rcases List.mem_append.1 hx with hx | hx
    · exact h.loose x hx
    · obtain rfl : x = (at_.toNat, bs) := by simpa using hx
      have h0 : 0 ≤ at_ := by
        have := hr.1
        unfold askErr at this
        split at this
        · cases this
        · split at this
          · next h2 => exact h2.1
          · cases this
      show at_.toNat ≠ k
      omega
  · exact h
theorem Dev.Fast.doing {d : Dev} {k : Nat} {F : List (BitVec 8)} (h : d.Fast k F) (x : Act4) (hat : x.at_ ≠ k) : (d.doing x).Fast k F := by
  unfold Dev.doing
  split
  · exact h.sync
  split
  · exact h
  split
  · exact ⟨h.fast, h.loose⟩
  split
  · exact h.crash _
  split
  · exact h.rot hat _ _
  · exact h.write hat _
theorem sync_fast {d : Dev} (h : syncErr d = 0) (k : Nat) : d.sync.Fast k (d.sync.cur k) ∧ d.sync.down = false := by
  unfold syncErr at h
  have h1 : ¬ d.down = true := fun e => by rw [if_pos e] at h; cases h
  have h2 : ¬ d.armed = 1 := fun e => by rw [if_neg h1, if_pos e] at h; cases h
  have e : d.sync = ((d.act).settle d.loose).forget := by unfold Dev.sync; rw [if_neg h1, if_neg h2]
  have hl : ∀ x ∈ d.sync.loose, x.1 ≠ k := fun x hx => by rw [e] at hx; simp [Dev.forget] at hx
  refine ⟨⟨(cur_none hl).symm, hl⟩, ?_⟩
  rw [e]
  have es := settle_same d.act d.loose
  refine es.2.2.2.2.2.2.trans ?_
  show (if d.armed = 1 then true else d.down) = false
  rw [if_neg h2]
  simpa using h1
theorem sync_down {d : Dev} (h : syncErr d ≠ 0) : d.sync.down = true := by
  unfold syncErr at h
  unfold Dev.sync
  by_cases h1 : d.down = true
  · rw [if_pos h1]; exact h1
  · by_cases h2 : d.armed = 1
    · rw [if_neg h1, if_pos h2]
      show (if d.armed = 1 then true else d.down) = true
      rw [if_pos h2]
    · rw [if_neg h1, if_neg h2] at h; exact absurd rfl h
theorem sync_err (d : Dev) : syncErr d = 0 ∨ syncErr d = 4 := by unfold syncErr; split; exact .inr rfl; split; exact .inr rfl; exact .inl rfl
theorem crash_reads {d : Dev} {k : Nat} {F : List (BitVec 8)} (h : d.Fast k F) (fs : List Int) : (d.crash fs).cur k = F ∧ (d.crash fs).down = false := ⟨(cur_none (h.crash fs).loose).trans (h.crash fs).fast, rfl⟩

end Go.Proofs.Ytfbddbigmbmcaaa

/-
  Joined: Acts04, FastMath, Did04, Did04b.
  Conditions: none.
-/
import Derived.Test.YtadglpnmhpmebaaOpenC
import Derived.Test.YtadglpnmhpmebaaFlashApart
import Derived.Test.YtadglpnmhpmebaaAwake04
import Derived.Deep.RegionHeld3
import Derived.Deep.DeepCutAuto
import Derived.Outline
namespace Go.Proofs.Ytadglpnmhpmebaa
open Go.ChangeShapes Go.WideShapes Go.ChangeAt Go.RowKit Go.Deep

/-- An act. -/
structure Act4 where
  kind : Int
  at_ : Int
  len : Int
  b : BitVec 8
  fates : List Int
instance : Inhabited Act4 := ⟨⟨0, 0, 0, 0#8, []⟩⟩
def Act4.wf (x : Act4) : Prop := (-9223372036854775808 ≤ x.kind ∧ x.kind ≤ 9223372036854775807) ∧ (-9223372036854775808 ≤ x.at_ ∧ x.at_ ≤ 9223372036854775807) ∧ (-9223372036854775808 ≤ x.len ∧ x.len ≤ 9223372036854775807) ∧ x.fates.length ≤ maxLen
/-- The five cells of an act. -/
def ActAt4 (n₀ : Nat) (w : World) (g o : Nat) (x : Act4) : Prop :=
  w.cell? ⟨g, o, none⟩ = some (.int .i64 x.kind) ∧ w.cell? ⟨g, o + 1, none⟩ = some (.int .i64 x.at_) ∧ w.cell? ⟨g, o + 2, none⟩ = some (.int .i64 x.len) ∧ w.cell? ⟨g, o + 3, none⟩ = some (.int .u8 (U x.b)) ∧ ∃ u, w.cell? ⟨g, o + 4, none⟩ = some u ∧ IntsIn n₀ w u x.fates
/-- A slice of acts. -/
def ActsAt4 (n₀ : Nat) (w : World) (v : Value) (l : List Act4) : Prop :=
  ∃ a cap, v = .slice a l.length cap ∧ l.length ≤ cap ∧ (∀ x ∈ l, x.wf) ∧ (l = [] ∨ ∃ g off, a = some ⟨g, off, none⟩ ∧ g < n₀ ∧ ∀ i, i < l.length → ActAt4 n₀ w g (off + i * 5) (l[i]?.getD default))
theorem ActAt4.below {n₀ : Nat} {w w' : World} {g o : Nat} {x : Act4} (h : ActAt4 n₀ w g o x) (hb : Below n₀ w w') (hg : g < n₀) : ActAt4 n₀ w' g o x := by
  obtain ⟨h0, h1, h2, h3, u, h4, h5⟩ := h
  exact ⟨(hb.cell (p := ⟨g, o, none⟩) hg).trans h0, (hb.cell (p := ⟨g, o + 1, none⟩) hg).trans h1, (hb.cell (p := ⟨g, o + 2, none⟩) hg).trans h2, (hb.cell (p := ⟨g, o + 3, none⟩) hg).trans h3, u, (hb.cell (p := ⟨g, o + 4, none⟩) hg).trans h4, h5.below hb⟩

section
variable {H : Type} {enc : TypeId × Value → H}
set_option maxRecDepth 100000 in
/-- A slice of structs in a cell. -/
theorem structs_cell {W : World} {fuel : Nat} {v : Value} {y : DataW H × List MemPlace} {t e : TypeId} {fs : Array Field} (ht : Try.prog.underlying t = some (.slice e)) (he : Try.prog.underlying e = some (.struct fs)) (hone : oneCellFields Try.prog fs = true) (hC : Try.prog.cellsOf e = fs.size) (hpos : 0 < fs.size)
    (hf : DataW.trod enc Try.prog W 0 (fun _ => true) true fuel t [v] = some y) :
    ∃ a len cap, v = .slice a len cap ∧ len ≤ cap ∧ len ≤ maxLen ∧ (a = none → cap = 0) ∧ (len = 0 ∨ ∃ g off, a = some ⟨g, off, none⟩ ∧ g < W.heap.size ∧ ∀ i, i < len → ∀ (j : Nat) (f : Field), fs[j]? = some f →
      ∃ (u : Value) (y : DataW H × List MemPlace) (n : Nat), W.cell? ⟨g, off + (i * fs.size + j), none⟩ = some u ∧ DataW.trod enc Try.prog W 0 (fun _ => true) true n f.type [u] = some y) := by
  rcases open_slice ht hf with ⟨hcs, _⟩ | ⟨x, l, c, m, n, D, Pl, hcs, _, hl, hm, hmm, _, hi⟩
  · simp at hcs
    subst hcs
    exact ⟨none, 0, 0, rfl, Nat.le_refl _, Nat.zero_le _, fun _ => rfl, .inl rfl⟩
  · simp at hcs
    subst hcs
    simp only [if_true] at hmm
    subst hmm
    refine ⟨some x, l, m, rfl, hl, by omega, fun h => (by cases h), ?_⟩
    by_cases h0 : l = 0
    · exact .inl h0
    · have key : ∀ i, i < l → ∀ (j : Nat) (f : Field), fs[j]? = some f → ∃ (u : Value) (y : DataW H × List MemPlace) (n : Nat), W.cell? (x.add (i * fs.size + j)) = some u ∧ DataW.trod enc Try.prog W 0 (fun _ => true) true n f.type [u] = some y := by
        intro i hil j f hj
        obtain ⟨cs', hc, ht'⟩ := hi i (by omega)
        rw [hC] at hc
        obtain ⟨ys, n', _, _, hlen, hyl, hfl⟩ := DataW.trod_struct he ht'
        obtain ⟨_, hcl, hat⟩ := World.cells?_some hc
        obtain ⟨ho, hk⟩ := hone_of hone j f hj
        have hjl : j < fs.size := (Array.getElem?_eq_some_iff.1 hj).1
        have h1 := hfl j f hj
        rw [ho, hk] at h1
        have htk : (cs'.drop j).take 1 = [cs'[j]'(by omega)] := by
          rw [List.drop_eq_getElem_cons (by omega)]
          rfl
        rw [htk] at h1
        have hys : ys[j]? = some (ys[j]'(by omega)) := List.getElem?_eq_getElem (by omega)
        refine ⟨_, _, n', ?_, h1.trans hys⟩
        rw [← Go.Deep.add_add, hat j hjl]
        exact List.getElem?_eq_getElem (by omega)
      obtain ⟨u0, _, _, h1, _⟩ := key 0 (by omega) 0 (fs[0]) (by simp [hpos])
      obtain ⟨b, off, spot⟩ := x
      obtain rfl := cell_at (by simpa using h1)
      refine .inr ⟨b, off, rfl, ?_, fun i hil j f hj => ?_⟩
      · have := World.block_lt_of_cell? _ _ h1
        rw [add_plain] at this
        exact this
      · obtain ⟨u, y, n', hu, hy⟩ := key i hil j f hj
        rw [add_plain] at hu
        exact ⟨u, y, n', hu, hy⟩
set_option maxRecDepth 100000 in
theorem u8_cell {W : World} {fuel : Nat} {v : Value} {y : DataW H × List MemPlace} (h : DataW.trod enc Try.prog W 0 (fun _ => true) true fuel 5 [v] = some y) : ∃ x : BitVec 8, v = .int .u8 (U x) := by
  obtain ⟨n, h1, _, h2⟩ := DataW.trod_int Try.underlying5 h
  obtain ⟨x, rfl⟩ := wf_u8 h2
  exact ⟨x, by simpa using h1⟩
set_option maxRecDepth 100000 in
theorem slice_of_cell {W : World} {fuel : Nat} {v : Value} {y : DataW H × List MemPlace} {t e : TypeId} (ht : Try.prog.underlying t = some (.slice e)) (h : DataW.trod enc Try.prog W 0 (fun _ => true) true fuel t [v] = some y) : v.cells = #[v] := by
  rcases open_slice ht h with ⟨hcs, _⟩ | ⟨x, l, c, m, n, D, Pl, hcs, _⟩
  · simp at hcs; subst hcs; rfl
  · simp at hcs; subst hcs; rfl
set_option maxRecDepth 100000 in
theorem acts4_cell {W : World} {fuel : Nat} {v : Value} {y : DataW H × List MemPlace} (h : DataW.trod enc Try.prog W 0 (fun _ => true) true fuel 22 [v] = some y) : ∃ l, ActsAt4 W.heap.size W v l ∧ l.length ≤ maxLen := by
  obtain ⟨a, len, cap, rfl, hl, hm, ha, hr⟩ := structs_cell Try.underlying22 Try.underlying37 (by kernel_rfl) (by kernel_rfl) (by decide) h
  rcases hr with rfl | ⟨g, off, rfl, hg, hf⟩
  · exact ⟨[], ⟨a, cap, rfl, Nat.zero_le _, by simp, .inl rfl⟩, Nat.zero_le _⟩
  · have each : ∀ i, i < len → ∃ x : Act4, x.wf ∧ ActAt4 W.heap.size W g (off + i * 5) x := by
      intro i hi
      obtain ⟨u0, _, _, c0, t0⟩ := hf i hi 0 _ rfl
      obtain ⟨u1, _, _, c1, t1⟩ := hf i hi 1 _ rfl
      obtain ⟨u2, _, _, c2, t2⟩ := hf i hi 2 _ rfl
      obtain ⟨u3, _, _, c3, t3⟩ := hf i hi 3 _ rfl
      obtain ⟨u4, _, _, c4, t4⟩ := hf i hi 4 _ rfl
      obtain ⟨kind, rfl, w0⟩ := int_cell t0
      obtain ⟨at_, rfl, w1⟩ := int_cell t1
      obtain ⟨ln, rfl, w2⟩ := int_cell t2
      obtain ⟨b, rfl⟩ := u8_cell t3
      obtain ⟨fs, hb, hbl⟩ := ints_cell t4 (slice_of_cell Try.underlying35 t4)
      exact ⟨⟨kind, at_, ln, b, fs⟩, ⟨wf_i64 w0, wf_i64 w1, wf_i64 w2, hbl⟩, c0, c1, c2, c3, u4, c4, hb⟩
    refine ⟨(List.range len).map fun i => if hi : i < len then Classical.choose (each i hi) else default, ⟨some ⟨g, off, none⟩, cap, by simp, by simpa using hl, ?_, .inr ⟨g, off, rfl, hg, fun i hi => ?_⟩⟩, by simpa using hm⟩
    · intro x hx
      obtain ⟨i, hi, rfl⟩ := List.mem_map.1 hx
      have hi := List.mem_range.1 hi
      rw [dif_pos hi]
      exact (Classical.choose_spec (each i hi)).1
    · have hi' : i < len := by simpa using hi
      simp only [List.getElem?_map, List.getElem?_range hi', Option.map_some, Option.getD_some, dif_pos hi']
      exact (Classical.choose_spec (each i hi')).2
set_option maxRecDepth 100000 in
theorem open_acts4 {W : World} {base : Nat} {v : Value} {d : DataW H} {p : List MemPlace} (o : Value.okWide Try.prog W .any base 22 v) (h : DataW.Trod enc Try.prog W 0 (fun _ => true) true 22 v d p) : ∃ l, ActsAt4 W.heap.size W v l ∧ l.length ≤ maxLen := by
  obtain ⟨a, len, cap, rfl⟩ := okWide_slice Try.underlying22 o
  obtain ⟨fuel, hf⟩ := h
  exact acts4_cell hf
end

/-- Are acts few? -/
def light4B (l : List Act4) : Bool := decide (l.length ≤ 40) && l.all fun x => decide (x.fates.length ≤ 60)
set_option maxRecDepth 100000 in
set_option maxHeartbeats 1000000 in
theorem light4_any (l : List Act4) (v : Value) (n₀ : Nat) (w : World) (hv : ActsAt4 n₀ w v l) (hm : l.length ≤ maxLen) : Calls Try.prog 5 #[v] w fun e w' => e = .returned (.bool (light4B l)) ∧ w = w' := by
  unfold maxLen at hm
  obtain ⟨a, cap, rfl, hcap, hwf, hv⟩ := hv
  by_cases hbig : 40 < l.length
  · have hL : light4B l = false := by simp [light4B]; omega
    have HL := Lib.hid hL
    have b1 : (40 : Int) < l.length := by omega
    clear hL hwf hv
    go_enter Try.func5, Try.ntmps5
    go_wp2
    go_ret
    exact ⟨by rw [HL.out]; rfl, rfl⟩
  have b1 : (l.length : Int) ≤ 40 := by omega
  go_enter Try.func5, Try.ntmps5
  go_wp2
  go_loop [3] (fun i => ∃ k : Nat, k ≤ l.length ∧ i = .int .i64 k ∧ ∀ j, j < k → (l[j]?.getD default).fates.length ≤ 60) (fun i => l.length - (intOf i).toNat)
  case atStart => exact ⟨0, Nat.zero_le _, rfl, fun j hj => absurd hj (by omega)⟩
  case round =>
    obtain ⟨k, hk, rfl, hno⟩ := hrel
    by_cases hlt : k < l.length
    · rcases hv with h | ⟨g, off, rfl, hg, hc⟩
      · subst h; simp at hlt
      obtain ⟨_, _, _, _, u, c3, hu⟩ := hc k hlt
      have HN := Lib.hid hno
      have HW := Lib.hid hwf
      clear hno hc hwf
      have k0 : (0 : Int) ≤ k := by omega
      have k1 : (k : Int) < l.length := by omega
      obtain ⟨x, hx⟩ : ∃ x, l[k]?.getD default = x := ⟨_, rfl⟩
      have hmem : x ∈ l := by rw [← hx]; simp [hlt]
      rw [hx] at hu
      have HX := Lib.hid hx
      clear hx
      have hm2 : x.fates.length ≤ 9223372036854775807 := by have := (HW.out x hmem).2.2.2; unfold maxLen at this; exact this
      obtain ⟨au, cu, rfl, _⟩ := hu
      by_cases hlong : 60 < x.fates.length
      · have hL : light4B l = false := by
          unfold light4B
          rw [Bool.and_eq_false_iff]
          right
          rw [List.all_eq_false]
          exact ⟨x, hmem, by simp; omega⟩
        have HL := Lib.hid hL
        have hl1 : (60 : Int) < x.fates.length := by omega
        clear hL hlong hmem
        go_wp2
        go_ret
        exact ⟨by rw [HL.out]; rfl, rfl⟩
      · have hl1 : (x.fates.length : Int) ≤ 60 := by omega
        go_wp2
        go_round
        case rel =>
          refine ⟨k + 1, by omega, by go_num, fun j hj => ?_⟩
          by_cases hjk : j = k
          · subst hjk; rw [HX.out]; omega
          · exact HN.out j (by omega)
        case measure => simp [intOf]; omega
    · obtain rfl : k = l.length := by omega
      have hL : light4B l = true := by
        unfold light4B
        rw [Bool.and_eq_true]
        refine ⟨by simp; omega, ?_⟩
        rw [List.all_eq_true]
        intro x hx
        obtain ⟨j, hj, rfl⟩ := List.mem_iff_getElem.1 hx
        have := hno j hj
        simpa [hj] using this
      have HL := Lib.hid hL
      clear hL hno hv hwf
      go_wp2
      go_ret
      exact ⟨by rw [HL.out]; rfl, rfl⟩

end Go.Proofs.Ytadglpnmhpmebaa
namespace Go.Proofs.Ytadglpnmhpmebaa
open Go.RowKit

section
variable {w W W' W1 : World} {Q : Foot} {D : Nat} {d : Dev}
theorem apart_arm (h : DevApart w Q D d W) (n : Int) : Calls Try.prog 16 #[.pointer (some ⟨D, 0, none⟩), .int .i64 n] W (DidApart w Q D { d with armed := n.toNat } (.tuple #[]) W) := by
  obtain ⟨O, h, hb, ho, hi⟩ := h
  exact (arm_any h n).mono fun _ _ ⟨he, h2, hst⟩ => DevApart.left h hb ho hi ⟨he, O, h2, hst⟩
theorem apart_rot (h : DevApart w Q D d W) (at_ byteAt : Int) (mask : BitVec 8) :
    Calls Try.prog 19 #[.pointer (some ⟨D, 0, none⟩), .int .i64 at_, .int .i64 byteAt, .int .u8 (U mask)] W (DidApart w Q D (d.rot at_ byteAt mask) (.int .i64 (rotErr d at_ byteAt)) W) := by
  obtain ⟨O, h, hb, ho, hi⟩ := h
  exact (rot_any w.heap.size O W D d h at_ byteAt mask hb.size).mono fun _ _ hl => DevApart.left h hb ho hi hl
theorem apart_crash (h : DevApart w Q D d W) {v : Value} {fs : List Int} (hv : IntsIn w.heap.size W v fs) {k : Nat} (hs : d.Small k) (hk : k ≤ 65536) (hf : fs.length ≤ 1099511627776) :
    Calls Try.prog 17 #[.pointer (some ⟨D, 0, none⟩), v] W (DidApart w Q D (d.crash fs) (.tuple #[]) W) := by
  obtain ⟨O, h, hb, ho, hi⟩ := h
  have h2 := hs.loose
  have hv2 : IntsOff O W v fs := by
    obtain ⟨a, cap, rfl, hv⟩ := hv
    refine ⟨a, cap, rfl, hv.imp id ?_⟩
    rintro ⟨g, off, rfl, hg, hc⟩
    exact ⟨g, off, rfl, by have := hb.size; omega, fun ho => by have := h.lo g ho; omega, hc⟩
  exact (crash_any w.heap.size O W D d h v fs hv2 hb.size (by omega) hf).mono fun _ _ hl => DevApart.left h hb ho hi hl
theorem apart_read (h : DevApart w Q D d W) (at_ : Int) : Calls Try.prog 14 #[.pointer (some ⟨D, 0, none⟩), .int .i64 at_] W fun e W' => GotAt w D d at_ W e W' ∧ DevApart w Q D d W' :=
  (here_read h.here at_).mono fun _ _ hg => ⟨hg, h.on hg.2.1⟩
theorem DevApart.same (h : DevApart w Q D d W) (hb : Below W.heap.size W W') : Same Q W W' := by
  obtain ⟨O, _, _, _, hi⟩ := h
  exact Same.of_below hb hi
theorem Same.tr {O : Foot} {a b c : World} (h : Same O a b) (k : Same O b c) : Same O a c := ⟨Nat.le_trans h.1 k.1, fun i hi => (k.2 i hi).trans (h.2 i hi)⟩
end

/-- An act's bytes. -/
def Act4.n (x : Act4) (size : Nat) : Nat := if x.len < 0 ∨ 600 < x.len then size else x.len.toNat
def Act4.bytes (x : Act4) (size : Nat) : List (BitVec 8) := if 1 < x.n size then (List.replicate (x.n size) x.b).set (x.n size - 1) (x.b + 1) else List.replicate (x.n size) x.b
theorem Act4.bytes_len (x : Act4) (size : Nat) : (x.bytes size).length = x.n size := by unfold Act4.bytes; split <;> simp
theorem Act4.n_le (x : Act4) (size : Nat) (h : size ≤ 600) : x.n size ≤ 600 := by unfold Act4.n; split <;> omega
/-- An act done. -/
def Dev.doing (d : Dev) (x : Act4) : Dev :=
  if x.kind % 8 = 3 then d.sync else if x.kind % 8 = 4 then d else if x.kind % 8 = 5 then { d with armed := x.at_.toNat } else if x.kind % 8 = 6 then d.crash x.fates
  else if x.kind % 8 = 7 then d.rot x.at_ x.len x.b else d.write x.at_ (x.bytes d.size)

/-- What a device of those sectors has. -/
structure Dev.Is (d : Dev) (n s k : Nat) : Prop where
  sectors : d.sectors = n
  size : d.size = s
  small : d.Small k
theorem Dev.Is.mono {d : Dev} {n s k j : Nat} (h : d.Is n s k) (hj : k ≤ j) : d.Is n s j := ⟨h.sectors, h.size, h.small.mono hj⟩
theorem write_same (d : Dev) (at_ : Int) (bs : List (BitVec 8)) : (d.write at_ bs).sectors = d.sectors ∧ (d.write at_ bs).size = d.size := by unfold Dev.write; split <;> exact ⟨rfl, rfl⟩
theorem sync_same (d : Dev) : d.sync.sectors = d.sectors ∧ d.sync.size = d.size := by
  unfold Dev.sync
  split
  · exact ⟨rfl, rfl⟩
  · split
    · exact ⟨rfl, rfl⟩
    · have e := settle_same d.act d.loose
      exact ⟨e.2.1, e.2.2.1⟩
theorem crash_same (d : Dev) (fs : List Int) : (d.crash fs).sectors = d.sectors ∧ (d.crash fs).size = d.size := by
  have e := patches_same d (d.loose.zip fs)
  exact ⟨e.2.1, e.2.2.1⟩
theorem rot_same (d : Dev) (at_ byteAt : Int) (mask : BitVec 8) : (d.rot at_ byteAt mask).sectors = d.sectors ∧ (d.rot at_ byteAt mask).size = d.size := by unfold Dev.rot; split <;> exact ⟨rfl, rfl⟩
theorem doing_is {d : Dev} {n s k : Nat} (h : d.Is n s k) (x : Act4) (hx : x.wf) : (d.doing x).Is n s (k + 1) := by
  obtain ⟨h1, h2, h3⟩ := h
  unfold Dev.doing
  split
  · exact ⟨(sync_same d).1.trans h1, (sync_same d).2.trans h2, h3.sync⟩
  split
  · exact ⟨h1, h2, h3.mono (Nat.le_succ _)⟩
  split
  · exact ⟨h1, h2, (h3.arm hx.2.1.2).mono (Nat.le_succ _)⟩
  split
  · exact ⟨(crash_same d _).1.trans h1, (crash_same d _).2.trans h2, (h3.crash _).mono (Nat.le_succ _)⟩
  split
  · exact ⟨(rot_same d _ _ _).1.trans h1, (rot_same d _ _ _).2.trans h2, (h3.rot _ _ _).mono (Nat.le_succ _)⟩
  · exact ⟨(write_same d _ _).1.trans h1, (write_same d _ _).2.trans h2, h3.write _ _⟩

/-- A sector with nothing loose. -/
structure Dev.Fast (d : Dev) (k : Nat) (F : List (BitVec 8)) : Prop where
  fast : d.fast k = F
  loose : ∀ x ∈ d.loose, x.1 ≠ k
theorem settle_fast (l : List (Nat × List (BitVec 8))) (k : Nat) (h : ∀ x ∈ l, x.1 ≠ k) : ∀ d : Dev, (d.settle l).fast k = d.fast k := by
  induction l with
  | nil => intro d; rfl
  | cons x l ih =>
    intro d
    show ((d.put x.1 x.2).settle l).fast k = _
    rw [ih (fun y hy => h y (List.mem_cons_of_mem _ hy))]
    show (if k = x.1 then x.2 else d.fast k) = _
    rw [if_neg (fun e => h x (List.mem_cons_self ..) e.symm)]
theorem patches_fast (l : List ((Nat × List (BitVec 8)) × Int)) (k : Nat) (h : ∀ x ∈ l, x.1.1 ≠ k) : ∀ d : Dev, (d.patches l).fast k = d.fast k := by
  induction l with
  | nil => intro d; rfl
  | cons x l ih =>
    intro d
    show ((d.patch x).patches l).fast k = _
    rw [ih (fun y hy => h y (List.mem_cons_of_mem _ hy))]
    show (if k = x.1.1 then _ else d.fast k) = _
    rw [if_neg (fun e => h x (List.mem_cons_self ..) e.symm)]
theorem zip_fst {l : List (Nat × List (BitVec 8))} {fs : List Int} {x : (Nat × List (BitVec 8)) × Int} (h : x ∈ l.zip fs) : x.1 ∈ l := (List.of_mem_zip (a := x.1) (b := x.2) h).1
theorem Dev.Fast.sync {d : Dev} {k : Nat} {F : List (BitVec 8)} (h : d.Fast k F) : d.sync.Fast k F := by
  unfold Dev.sync
  split
  · exact h
  · split
    · exact ⟨h.fast, h.loose⟩
    · refine ⟨?_, fun x hx => by simp [Dev.forget] at hx⟩
      show ((d.act).settle d.loose).fast k = F
      rw [settle_fast _ _ h.loose]
      exact h.fast
theorem Dev.Fast.crash {d : Dev} {k : Nat} {F : List (BitVec 8)} (h : d.Fast k F) (fs : List Int) : (d.crash fs).Fast k F := by
  refine ⟨?_, fun x hx => by simp [Dev.crash, Dev.forget] at hx⟩
  show (d.patches (d.loose.zip fs)).fast k = F
  rw [patches_fast _ _ (fun x hx => h.loose _ (zip_fst hx))]
  exact h.fast
theorem Dev.Fast.rot {d : Dev} {k : Nat} {F : List (BitVec 8)} (h : d.Fast k F) {at_ : Int} (hat : at_ ≠ k) (byteAt : Int) (mask : BitVec 8) : (d.rot at_ byteAt mask).Fast k F := by
  unfold Dev.rot
  split
  · next hr =>
    refine ⟨?_, h.loose⟩
    show (if k = at_.toNat then _ else d.fast k) = F
    rw [if_neg (by omega)]
    exact h.fast
  · exact h
theorem Dev.Fast.write {d : Dev} {k : Nat} {F : List (BitVec 8)} (h : d.Fast k F) {at_ : Int} (hat : at_ ≠ k) (bs : List (BitVec 8)) : (d.write at_ bs).Fast k F := by
  unfold Dev.write
  split
  · next hr =>
    refine ⟨h.fast, ?_⟩
    intro x hx
    have hx : x ∈ d.loose ++ [(at_.toNat, bs)] := hx
    rcases List.mem_append.1 hx with hx | hx
    · exact h.loose x hx
    · obtain rfl : x = (at_.toNat, bs) := by simpa using hx
      have h0 : 0 ≤ at_ := by
        have := hr.1
        unfold askErr at this
        split at this
        · cases this
        · split at this
          · next h2 => exact h2.1
          · cases this
      show at_.toNat ≠ k
      omega
  · exact h
theorem Dev.Fast.doing {d : Dev} {k : Nat} {F : List (BitVec 8)} (h : d.Fast k F) (x : Act4) (hat : x.at_ ≠ k) : (d.doing x).Fast k F := by
  unfold Dev.doing
  split
  · exact h.sync
  split
  · exact h
  split
  · exact ⟨h.fast, h.loose⟩
  split
  · exact h.crash _
  split
  · exact h.rot hat _ _
  · exact h.write hat _
theorem sync_fast {d : Dev} (h : syncErr d = 0) (k : Nat) : d.sync.Fast k (d.sync.cur k) ∧ d.sync.down = false := by
  unfold syncErr at h
  have h1 : ¬ d.down = true := fun e => by rw [if_pos e] at h; cases h
  have h2 : ¬ d.armed = 1 := fun e => by rw [if_neg h1, if_pos e] at h; cases h
  have e : d.sync = ((d.act).settle d.loose).forget := by unfold Dev.sync; rw [if_neg h1, if_neg h2]
  have hl : ∀ x ∈ d.sync.loose, x.1 ≠ k := fun x hx => by rw [e] at hx; simp [Dev.forget] at hx
  refine ⟨⟨(cur_none hl).symm, hl⟩, ?_⟩
  rw [e]
  have es := settle_same d.act d.loose
  refine es.2.2.2.2.2.2.trans ?_
  show (if d.armed = 1 then true else d.down) = false
  rw [if_neg h2]
  simpa using h1
theorem sync_down {d : Dev} (h : syncErr d ≠ 0) : d.sync.down = true := by
  unfold syncErr at h
  unfold Dev.sync
  by_cases h1 : d.down = true
  · rw [if_pos h1]; exact h1
  · by_cases h2 : d.armed = 1
    · rw [if_neg h1, if_pos h2]
      show (if d.armed = 1 then true else d.down) = true
      rw [if_pos h2]
    · rw [if_neg h1, if_neg h2] at h; exact absurd rfl h
theorem sync_err (d : Dev) : syncErr d = 0 ∨ syncErr d = 4 := by unfold syncErr; split; exact .inr rfl; split; exact .inr rfl; exact .inl rfl
theorem crash_reads {d : Dev} {k : Nat} {F : List (BitVec 8)} (h : d.Fast k F) (fs : List Int) : (d.crash fs).cur k = F ∧ (d.crash fs).down = false := ⟨(cur_none (h.crash fs).loose).trans (h.crash fs).fast, rfl⟩

end Go.Proofs.Ytadglpnmhpmebaa
namespace Go.Proofs.Ytadglpnmhpmebaa
open Go.RowKit

/-- What bytes leaves. -/
def BytesOut (bs : List (BitVec 8)) (W : World) (e : Ending) (W' : World) : Prop :=
  ∃ g, e = .returned (.slice (some ⟨g, 0, none⟩) bs.length bs.length) ∧ W'.ownsRow W.heap.size 5 1 (.slice (some ⟨g, 0, none⟩) bs.length bs.length) bs.length (cellsOf bs) ∧ Below W.heap.size W W'
/-- An act as a value. -/
def Act4.cells (x : Act4) (u : Value) : Array Value := #[.int .i64 x.kind, .int .i64 x.at_, .int .i64 x.len, .int .u8 (U x.b), u]

theorem bytes_end {n : Nat} {b : BitVec 8} {x : Act4} {size : Nat} (hn : x.n size = n) (hb : x.b = b) (h : 1 < n) {g : Nat} {W W' W2 : World} (hr : W'.ownsRow W.heap.size 5 1 (.slice (some ⟨g, 0, none⟩) n n) n (cellsOf ((List.replicate n b).set (n - 1) (b + 1)))) (hB : Below W.heap.size W W') (hW : W' = W2) {e : Ending} (he : e = .returned (.slice (some ⟨g, 0, none⟩) n n)) : BytesOut (x.bytes size) W e W2 := by
  subst hW he
  have e1 : x.bytes size = (List.replicate n b).set (n - 1) (b + 1) := by unfold Act4.bytes; rw [hn, hb, if_pos h]
  have e2 : (x.bytes size).length = n := by rw [x.bytes_len, hn]
  refine ⟨g, by rw [e2], ?_, hB⟩
  rw [e2, e1]; exact hr
theorem bytes_end1 {n : Nat} {b : BitVec 8} {x : Act4} {size : Nat} (hn : x.n size = n) (hb : x.b = b) (h : ¬ 1 < n) {g : Nat} {W W' : World} (hr : W'.ownsRow W.heap.size 5 1 (.slice (some ⟨g, 0, none⟩) n n) n (cellsOf (List.replicate n b))) (hB : Below W.heap.size W W') {e : Ending} (he : e = .returned (.slice (some ⟨g, 0, none⟩) n n)) : BytesOut (x.bytes size) W e W' := by
  subst he
  have e1 : x.bytes size = List.replicate n b := by unfold Act4.bytes; rw [hn, hb, if_neg h]
  have e2 : (x.bytes size).length = n := by rw [x.bytes_len, hn]
  refine ⟨g, by rw [e2], ?_, hB⟩
  rw [e2, e1]; exact hr
theorem inc_u8 (b : BitVec 8) : IntKind.u8.wrap (U b + 1) = U (b + 1) := by
  rw [wrap_u8_mod, BitVec.ofInt_add, ofInt_U]; rfl

theorem full_cast {W : World} {b : BitVec 8} {m : Nat} (h : ∀ W', W.heap.size ≤ W'.heap.size → Calls Try.prog 31 #[.int .u8 (U b), .int .i64 ((m + 1 : Nat) : Int)] W' (FullAt W.heap.size b (m + 1) W')) : ∀ W', W.heap.size ≤ W'.heap.size → Calls Try.prog 31 #[.int .u8 (U b), .int .i64 ((m : Int) + 1)] W' (FullAt W.heap.size b (m + 1) W') := by
  intro W' hW
  have := h W' hW
  have e : ((m + 1 : Nat) : Int) = (m : Int) + 1 := by omega
  rwa [e] at this
set_option maxHeartbeats 2000000 in
theorem bytes04_any (x : Act4) (u : Value) (size : Nat) (h2 : size ≤ 512) (W : World) : Calls Try.prog 21 #[.agg (x.cells u), .int .i64 size] W (BytesOut (x.bytes size) W) := by
  obtain ⟨n, hn⟩ : ∃ n, x.n size = n := ⟨_, rfl⟩
  have hn6 := x.n_le size (by omega)
  rw [hn] at hn6
  obtain ⟨b, hb⟩ : ∃ b, x.b = b := ⟨_, rfl⟩
  have HN := Lib.hid hn
  have HBB := Lib.hid hb
  have hincr := inc_u8 b
  obtain ⟨Y, hY⟩ : ∃ Y, x.cells u = Y := ⟨_, rfl⟩
  have HF : Hid (∀ W', W.heap.size ≤ W'.heap.size → Calls Try.prog 31 #[.int .u8 (U b), .int .i64 n] W' (FullAt W.heap.size b n W')) := fun W' h => full_from _ b n (by omega) W' h
  have HB1 : Hid (∀ o, Below W.heap.size W (W.alloc o)) := fun o => (Below.refl _ _).alloc (Nat.le_refl _) _
  have hY2 : Y = #[.int .i64 x.kind, .int .i64 x.at_, .int .i64 x.len, .int .u8 (U b), u] := by rw [← hY]; unfold Act4.cells; rw [hb]
  have HC : Hid (∀ w2 : World, Below (W.alloc (.cells #[.int .i64 x.kind, .int .i64 x.at_, .int .i64 x.len, .int .u8 (U b), u] 37)).heap.size (W.alloc (.cells #[.int .i64 x.kind, .int .i64 x.at_, .int .i64 x.len, .int .u8 (U b), u] 37)) w2 → w2.cell? ⟨W.heap.size, 3, none⟩ = some (.int .u8 (U b))) := fun w2 h => blk_cell ((h.block _ (by simp)).trans (heap_alloc_new _ _)) 3
  unfold Act4.n at hn
  subst hY2
  rw [hY]
  clear hY hb
  by_cases h0 : x.len < 0
  · rw [if_pos (.inl h0)] at hn
    subst hn
    by_cases h1 : 1 < size
    · obtain ⟨m, rfl⟩ : ∃ m, size = m + 1 := ⟨size - 1, by omega⟩
      have t1 : (1 : Int) < (m : Int) + 1 := by omega
      have HF := Lib.hid (full_cast HF.out)
      have HGT := Lib.hid h1
      clear h1
      go_enter Try.func21, Try.ntmps21
      go_wp2_with (go_at_call 31; (with_reducible refine (HF.out _ (HB1.out _).size).mono ?_); rintro e w2 ⟨g, rfl, hr, hbl⟩; have q0 := row_cell (i := m) hr (by simp); have q1 := row_free hr m; have q3 := HC.out _ hbl; have HS := Lib.hid (row_set (i := m) hr (b + 1)); have HBL := Lib.hid ((HB1.out _).trans (hbl.mono (HB1.out _).size)); clear hr hbl)
      go_ret
      exact bytes_end HN.out HBB.out HGT.out HS.out (HBL.out.setCell (p := ⟨g, m, none⟩) (HS.out.lt g rfl).1 _) rfl rfl
    · have t1 : (size : Int) ≤ 1 := by omega
      have HGT := Lib.hid h1
      clear h1
      go_enter Try.func21, Try.ntmps21
      go_wp2_with (go_at_call 31; (with_reducible refine (HF.out _ (HB1.out _).size).mono ?_); rintro e w2 ⟨g, rfl, hr, hbl⟩; have HR := Lib.hid hr; have HBL := Lib.hid ((HB1.out _).trans (hbl.mono (HB1.out _).size)); clear hr hbl)
      go_ret
      exact bytes_end1 HN.out HBB.out HGT.out HR.out HBL.out rfl
  · by_cases h6 : 600 < x.len
    · rw [if_pos (.inr h6)] at hn
      have h00 : 0 ≤ x.len := by omega
      subst hn
      by_cases h1 : 1 < size
      · obtain ⟨m, rfl⟩ : ∃ m, size = m + 1 := ⟨size - 1, by omega⟩
        have t1 : (1 : Int) < (m : Int) + 1 := by omega
        have HF := Lib.hid (full_cast HF.out)
        have HGT := Lib.hid h1
        clear h1
        go_enter Try.func21, Try.ntmps21
        go_wp2_with (go_at_call 31; (with_reducible refine (HF.out _ (HB1.out _).size).mono ?_); rintro e w2 ⟨g, rfl, hr, hbl⟩; have q0 := row_cell (i := m) hr (by simp); have q1 := row_free hr m; have q3 := HC.out _ hbl; have HS := Lib.hid (row_set (i := m) hr (b + 1)); have HBL := Lib.hid ((HB1.out _).trans (hbl.mono (HB1.out _).size)); clear hr hbl)
        go_ret
        exact bytes_end HN.out HBB.out HGT.out HS.out (HBL.out.setCell (p := ⟨g, m, none⟩) (HS.out.lt g rfl).1 _) rfl rfl
      · have t1 : (size : Int) ≤ 1 := by omega
        have HGT := Lib.hid h1
        clear h1
        go_enter Try.func21, Try.ntmps21
        go_wp2_with (go_at_call 31; (with_reducible refine (HF.out _ (HB1.out _).size).mono ?_); rintro e w2 ⟨g, rfl, hr, hbl⟩; have HR := Lib.hid hr; have HBL := Lib.hid ((HB1.out _).trans (hbl.mono (HB1.out _).size)); clear hr hbl)
        go_ret
        exact bytes_end1 HN.out HBB.out HGT.out HR.out HBL.out rfl
    · rw [if_neg (by omega)] at hn
      obtain ⟨l, hl⟩ : ∃ l : Nat, x.len = l := ⟨x.len.toNat, by omega⟩
      rw [hl] at hn h6 HC
      obtain rfl : l = n := by omega
      rw [hl]
      clear hl hn h0
      by_cases h1 : 1 < l
      · obtain ⟨m, rfl⟩ : ∃ m, l = m + 1 := ⟨l - 1, by omega⟩
        have t1 : (1 : Int) < (m : Int) + 1 := by omega
        have h60 : decide ((600 : Int) < (m : Int) + 1) = false := by rw [decide_eq_false_iff_not]; omega
        have h00 : decide ((m : Int) + 1 < 0) = false := by rw [decide_eq_false_iff_not]; omega
        clear h6
        have HF := Lib.hid (full_cast HF.out)
        have HGT := Lib.hid h1
        clear h1
        go_enter Try.func21, Try.ntmps21
        go_wp2_with (go_at_call 31; (with_reducible refine (HF.out _ (HB1.out _).size).mono ?_); rintro e w2 ⟨g, rfl, hr, hbl⟩; have q0 := row_cell (i := m) hr (by simp); have q1 := row_free hr m; have q3 := HC.out _ hbl; have HS := Lib.hid (row_set (i := m) hr (b + 1)); have HBL := Lib.hid ((HB1.out _).trans (hbl.mono (HB1.out _).size)); clear hr hbl)
        go_ret
        exact bytes_end HN.out HBB.out HGT.out HS.out (HBL.out.setCell (p := ⟨g, m, none⟩) (HS.out.lt g rfl).1 _) rfl rfl
      · have h60 : (l : Int) ≤ 600 := by omega
        have h00 : (0 : Int) ≤ l := by omega
        clear h6
        have t1 : (l : Int) ≤ 1 := by omega
        have HGT := Lib.hid h1
        clear h1
        go_enter Try.func21, Try.ntmps21
        go_wp2_with (go_at_call 31; (with_reducible refine (HF.out _ (HB1.out _).size).mono ?_); rintro e w2 ⟨g, rfl, hr, hbl⟩; have HR := Lib.hid hr; have HBL := Lib.hid ((HB1.out _).trans (hbl.mono (HB1.out _).size)); clear hr hbl)
        go_ret
        exact bytes_end1 HN.out HBB.out HGT.out HR.out HBL.out rfl


end Go.Proofs.Ytadglpnmhpmebaa
namespace Go.Proofs.Ytadglpnmhpmebaa
open Go.RowKit

theorem IntsIn.arg {n₀ : Nat} {W : World} {v : Value} {fs : List Int} (h : IntsIn n₀ W v fs) : ∃ a c, v = .slice a fs.length c := by
  obtain ⟨a, c, rfl, _⟩ := h
  exact ⟨a, c, rfl⟩
theorem kind8 (k : Int) : (k.tmod 8 + 8) % 8 = k % 8 ∧ -8 < k.tmod 8 ∧ k.tmod 8 < 8 := by
  refine ⟨?_, Int.lt_tmod_of_pos k (by decide), Int.tmod_lt_of_pos k (by decide)⟩
  have h := done_math 7 k
  unfold doneOf at h
  have e : ((7 : Nat) : Int) + 1 = 8 := rfl
  rw [e] at h
  omega
theorem DevApart.more {w W W' : World} {Q : Foot} {D : Nat} {d : Dev} (h : DevApart w Q D d W) (hb : Below W.heap.size W W') {g : Nat} (h1 : W.heap.size ≤ g) (h2 : g < W'.heap.size) : DevApart w (fun k => Q k ∨ k = g) D d W' := by
  obtain ⟨O, a, b, c, e⟩ := h
  exact ⟨O, a.keep (Same.of_below hb a.inn), b.trans (hb.mono b.size), fun k ho hq => hq.elim (c k ho) (fun e => by have := a.inn k ho; omega), fun k hq => hq.elim (fun hq => Nat.lt_of_lt_of_le (e k hq) hb.size) (fun e => by omega)⟩
theorem DevApart.less {w W : World} {Q R : Foot} {D : Nat} {d : Dev} (h : DevApart w Q D d W) (hQ : ∀ k, R k → Q k) : DevApart w R D d W := by
  obtain ⟨O, a, b, c, e⟩ := h
  exact ⟨O, a, b, fun k ho hr => c k ho (hQ k hr), fun k hr => e k (hQ k hr)⟩
/-- What did leaves. -/
def DidAct (w : World) (Q : Foot) (D : Nat) (d : Dev) (W : World) (e : Ending) (W' : World) : Prop := e = .returned (.tuple #[]) ∧ DevApart w Q D d W' ∧ Same Q W W'

set_option maxRecDepth 100000 in
set_option maxHeartbeats 4000000 in
theorem did_any {w W : World} {Q : Foot} {D : Nat} {d : Dev} (h : DevApart w Q D d W) {k : Nat} (hi : d.Is 6 96 k) (hk : k ≤ 200) (x : Act4) (hf : x.fates.length ≤ 60) (u : Value) (hu : IntsIn w.heap.size W u x.fates) :
    Calls Try.prog 29 #[.pointer (some ⟨D, 0, none⟩), .agg (x.cells u)] W (DidAct w Q D (d.doing x) W) := by
  have hX : (W.alloc (.cells (x.cells u) 37)).heap[W.heap.size]? = some (.cells (x.cells u) 37 (0, 0)) := heap_alloc_new _ _
  have hB : Below W.heap.size W (W.alloc (.cells (x.cells u) 37)) := (Below.refl _ _).alloc (Nat.le_refl _) _
  obtain ⟨W1, hW1⟩ : ∃ W1, W.alloc (.cells (x.cells u) 37) = W1 := ⟨_, rfl⟩
  rw [hW1] at hX hB
  have h1 := h.on hB
  have HS := Lib.hid (h.same hB)
  have hu1 := hu.below (hB.mono h.here.size)
  obtain ⟨hk8, hk0, hk1⟩ := kind8 x.kind
  have c0 : W1.cell? ⟨W.heap.size, 0, none⟩ = some (.int .i64 x.kind) := blk_cell hX 0
  have c1 : W1.cell? ⟨W.heap.size, 1, none⟩ = some (.int .i64 x.at_) := blk_cell hX 1
  have c2 : W1.cell? ⟨W.heap.size, 2, none⟩ = some (.int .i64 x.len) := blk_cell hX 2
  have c3 : W1.cell? ⟨W.heap.size, 3, none⟩ = some (.int .u8 (U x.b)) := blk_cell hX 3
  have c4 : W1.cell? ⟨W.heap.size, 4, none⟩ = some u := blk_cell hX 4
  have HX := Lib.hid hX
  have HH := Lib.hid h1
  obtain ⟨a, c, rfl⟩ := hu.arg
  have hsm := hi.small
  have HA := Lib.hid (h.more hB (g := W.heap.size) (Nat.le_refl _) (blk_lt hX))
  clear hX hB h hu
  have e8 : x.kind % 8 = 3 ∨ x.kind % 8 = 4 ∨ x.kind % 8 = 5 ∨ x.kind % 8 = 6 ∨ x.kind % 8 = 7 ∨ (x.kind % 8 ≠ 3 ∧ x.kind % 8 ≠ 4 ∧ x.kind % 8 ≠ 5 ∧ x.kind % 8 ≠ 6 ∧ x.kind % 8 ≠ 7) := by omega
  rcases e8 with e | e | e | e | e | e
  · have HE : Hid (d.doing x = d.sync) := by unfold Hid Dev.doing; rw [if_pos e]
    have HC := Lib.hid (apart_sync h1 hsm (by omega))
    rw [e] at hk8
    clear h1 hu1 hsm e HA
    go_enter Try.func29, Try.ntmps29
    go_upto_region 1 with (fail)
    clear hW1
    go_wp2_with (go_at_call 12; (with_reducible refine HC.out.mono ?_); rintro e w2 ⟨rfl, hd, hs⟩; have H2 := Lib.hid hd; have HS2 := Lib.hid (HS.out.tr hs); clear hd hs)
    go_end0
    exact ⟨rfl, by rw [HE.out]; exact H2.out, HS2.out⟩
  · have HE : Hid (d.doing x = d) := by unfold Hid Dev.doing; rw [if_neg (by omega), if_pos e]
    have HC := Lib.hid (apart_read h1 x.at_)
    rw [e] at hk8
    clear h1 hu1 hsm e HA
    go_enter Try.func29, Try.ntmps29
    go_upto_region 1 with (fail)
    clear hW1
    go_wp2_with (go_at_call 14; (with_reducible refine HC.out.mono ?_); rintro e w2 ⟨⟨_, hb2, v2, rfl, _⟩, hd⟩; have H2 := Lib.hid hd; have HS2 := Lib.hid (HS.out.tr (HH.out.same hb2)); clear hd hb2)
    go_end0
    exact ⟨rfl, by rw [HE.out]; exact H2.out, HS2.out⟩
  · have HE : Hid (d.doing x = { d with armed := x.at_.toNat }) := by unfold Hid Dev.doing; rw [if_neg (by omega), if_neg (by omega), if_pos e]
    have HC := Lib.hid (apart_arm h1 x.at_)
    rw [e] at hk8
    clear h1 hu1 hsm e HA
    go_enter Try.func29, Try.ntmps29
    go_upto_region 1 with (fail)
    clear hW1
    go_wp2_with (go_at_call 16; (with_reducible refine HC.out.mono ?_); rintro e w2 ⟨rfl, hd, hs⟩; have H2 := Lib.hid hd; have HS2 := Lib.hid (HS.out.tr hs); clear hd hs)
    go_end0
    exact ⟨rfl, by rw [HE.out]; exact H2.out, HS2.out⟩
  · have HE : Hid (d.doing x = d.crash x.fates) := by unfold Hid Dev.doing; rw [if_neg (by omega), if_neg (by omega), if_neg (by omega), if_pos e]
    have HC := Lib.hid (apart_crash h1 hu1 hsm (by omega) (by omega))
    rw [e] at hk8
    clear h1 hu1 hsm e HA
    go_enter Try.func29, Try.ntmps29
    go_upto_region 1 with (fail)
    clear hW1
    go_wp2_with (go_at_call 17; (with_reducible refine HC.out.mono ?_); rintro e w2 ⟨rfl, hd, hs⟩; have H2 := Lib.hid hd; have HS2 := Lib.hid (HS.out.tr hs); clear hd hs)
    go_end0
    exact ⟨rfl, by rw [HE.out]; exact H2.out, HS2.out⟩
  · have HE : Hid (d.doing x = d.rot x.at_ x.len x.b) := by unfold Hid Dev.doing; rw [if_neg (by omega), if_neg (by omega), if_neg (by omega), if_neg (by omega), if_pos e]
    have HC := Lib.hid (apart_rot h1 x.at_ x.len x.b)
    rw [e] at hk8
    clear h1 hu1 hsm e HA
    go_enter Try.func29, Try.ntmps29
    go_upto_region 1 with (fail)
    clear hW1
    go_wp2_with (go_at_call 19; (with_reducible refine HC.out.mono ?_); rintro e w2 ⟨rfl, hd, hs⟩; have H2 := Lib.hid hd; have HS2 := Lib.hid (HS.out.tr hs); clear hd hs)
    go_end0
    exact ⟨rfl, by rw [HE.out]; exact H2.out, HS2.out⟩
  · obtain ⟨n3, n4, n5, n6, n7⟩ := e
    have HE : Hid (d.doing x = d.write x.at_ (x.bytes 96)) := by unfold Hid Dev.doing; rw [if_neg n3, if_neg n4, if_neg n5, if_neg n6, if_neg n7, hi.size]
    have b3 : (x.kind % 8 == 3) = false := by rw [beq_eq_false_iff_ne]; exact n3
    have b4 : (x.kind % 8 == 4) = false := by rw [beq_eq_false_iff_ne]; exact n4
    have b5 : (x.kind % 8 == 5) = false := by rw [beq_eq_false_iff_ne]; exact n5
    have b6 : (x.kind % 8 == 6) = false := by rw [beq_eq_false_iff_ne]; exact n6
    have b7 : (x.kind % 8 == 7) = false := by rw [beq_eq_false_iff_ne]; exact n7
    have HSZ : Hid (∀ W', DevApart w (fun j => Q j ∨ j = W.heap.size) D d W' → Calls Try.prog 9 #[.pointer (some ⟨D, 0, none⟩)] W' fun e w' => e = .returned (.int .i64 96) ∧ W' = w') := fun W' hh => by
      have := here_size hh.here
      rw [hi.size] at this
      exact this
    have HBY : Hid (∀ W', Calls Try.prog 21 #[.agg #[.int .i64 x.kind, .int .i64 x.at_, .int .i64 x.len, .int .u8 (U x.b), .slice a x.fates.length c], .int .i64 96] W' (BytesOut (x.bytes 96) W')) := fun W' => bytes04_any x (.slice a x.fates.length c) 96 (by decide) W'
    have HWR : Hid (∀ W' v, DevApart w (fun j => Q j ∨ j = W.heap.size) D d W' → BytesAt W'.heap.size W' v (x.bytes 96) → Calls Try.prog 22 #[.pointer (some ⟨D, 0, none⟩), .int .i64 x.at_, v] W' (DidApart w (fun j => Q j ∨ j = W.heap.size) D (d.write x.at_ (x.bytes 96)) (.int .i64 (writeErr d x.at_ (x.bytes 96).length)) W')) := fun W' v hh hv => apart_write hh x.at_ hv hsm (by omega)
    obtain ⟨bs, hbs⟩ : ∃ bs, x.bytes 96 = bs := ⟨_, rfl⟩
    rw [hbs] at HBY HWR HE
    have HA1 := Lib.hid (HA.out.on (Below.refl W1.heap.size W1).drew)
    have HK1 : Hid (Same (fun j => Q j ∨ j = W.heap.size) W1 W1.drew) := ⟨Nat.le_refl _, fun _ _ => rfl⟩
    have HSC : Hid (∀ W', Same (fun j => Q j ∨ j = W.heap.size) W1 W' → W'.cell? ⟨W.heap.size, 0, none⟩ = some (.int .i64 x.kind) ∧ W'.cell? ⟨W.heap.size, 1, none⟩ = some (.int .i64 x.at_) ∧ W'.cell? ⟨W.heap.size, 2, none⟩ = some (.int .i64 x.len) ∧ W'.cell? ⟨W.heap.size, 3, none⟩ = some (.int .u8 (U x.b)) ∧ W'.cell? ⟨W.heap.size, 4, none⟩ = some (.slice a x.fates.length c)) := fun W' hs => by
      have e := (hs.2 W.heap.size (.inr rfl)).trans HX.out
      exact ⟨blk_cell e 0, blk_cell e 1, blk_cell e 2, blk_cell e 3, blk_cell e 4⟩
    clear h1 hu1 hsm n3 n4 n5 n6 n7 hbs
    go_enter Try.func29, Try.ntmps29
    go_upto_region 1 with (fail)
    clear hW1
    go_upto_region 2 with (fail)
    clear c0 c1 c2 c3 c4 HA
    go_region_held3 (fun W' => W'.cell? ⟨W.heap.size, 0, none⟩ = some (.int .i64 x.kind) ∧ W'.cell? ⟨W.heap.size, 1, none⟩ = some (.int .i64 x.at_) ∧ W'.cell? ⟨W.heap.size, 2, none⟩ = some (.int .i64 x.len) ∧ W'.cell? ⟨W.heap.size, 3, none⟩ = some (.int .u8 (U x.b)) ∧ W'.cell? ⟨W.heap.size, 4, none⟩ = some (.slice a x.fates.length c))
      (exact HSC.out _ HK1.out)
      (first
        | (go_at_call 9; (with_reducible refine (HSZ.out _ HA1.out).mono ?_); rintro e w2 ⟨rfl, rfl⟩)
        | (go_at_call 21; (with_reducible refine (HBY.out _).mono ?_); rintro e w3 ⟨g3, rfl, hr3, hb3⟩; have HR3 := Lib.hid (BytesAt.of_owns hr3); have HA2 := Lib.hid (HA1.out.on hb3); have HK2 := Lib.hid (HK1.out.tr (HA1.out.same hb3)); clear HA1 HK1 hr3 hb3; have HA1 := HA2; have HK1 := HK2; clear HA2 HK2)
        | (go_at_call 22; (with_reducible refine (HWR.out _ _ HA1.out HR3.out).mono ?_); rintro e w4 ⟨rfl, hd4, hs4⟩; have H4 := Lib.hid hd4; have HK2 := Lib.hid (HK1.out.tr hs4); clear HK1 hd4 hs4; have HK1 := HK2; clear HK2))
    all_goals go_wp2
    all_goals go_end0
    all_goals exact ⟨rfl, by rw [HE.out]; exact H4.out.less (fun _ h => .inl h), HS.out.tr (HK1.out.mono (fun _ h => .inl h))⟩

end Go.Proofs.Ytadglpnmhpmebaa

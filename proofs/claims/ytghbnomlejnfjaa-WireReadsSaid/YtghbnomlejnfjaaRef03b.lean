/-
  sgraffitoref03: Of, Take.
  Conditions: none.
-/
import Derived.Test.YtghbnomlejnfjaaRef03
import Derived.Deep.RegionHeld3
namespace Go.Proofs.Ytghbnomlejnfjaa
open Go.RowKit

theorem of_step (q : BitVec 64) (b : BitVec 8) : IntKind.u64.wrap (IntKind.u64.wrap (256 * U q) + IntKind.u64.wrap (U b)) = U (256#64 * q + b.setWidth 64) := by
  unfold U
  rw [BitVec.toNat_add, BitVec.toNat_mul, BitVec.toNat_setWidth]
  simp [IntKind.wrap, IntKind.bits, IntKind.signed]

set_option maxHeartbeats 1000000 in
theorem refOf_any (n₀ : Nat) (bs : List (BitVec 8)) (v : Value) (w : World) (hv : BytesAt n₀ w v bs) (hl : bs.length ≤ 1099511627776) : Calls Try.prog 31 #[v] w fun e w' => e = .returned (.int .u64 (U (refOf bs))) ∧ w = w' := by
  obtain ⟨a, cap, rfl, _, _, hv⟩ := hv
  have l1 : (bs.length : Int) ≤ 1099511627776 := by omega
  go_enter Try.func31, Try.ntmps31
  go_wp2
  go_loop [3, 4] (fun nv iv => ∃ j : Nat, j ≤ bs.length ∧ iv = .int .i64 ((j : Int) - 1) ∧ nv = .int .u64 (U (refOf (bs.drop j)))) (fun _ iv => (intOf iv + 1).toNat)
  case atStart => exact ⟨bs.length, Nat.le_refl _, rfl, by rw [List.drop_length]; rfl⟩
  case round =>
    obtain ⟨j, hj, rfl, rfl⟩ := hrel
    by_cases hpos : 0 < j
    · obtain ⟨k, rfl⟩ : ∃ k, j = k + 1 := ⟨j - 1, by omega⟩
      rcases hv with h | ⟨g, off, rfl, hg, hc⟩
      · subst h; simp at hj
      have c1 := hc k (by omega)
      have HD : Hid (refOf (bs.drop k) = 256#64 * refOf (bs.drop (k + 1)) + (bs[k]?.getD 0).setWidth 64) := by
        unfold Hid
        rw [List.drop_eq_getElem_cons (show k < bs.length by omega), refOf]
        simp [show k < bs.length by omega]
      clear hc
      generalize bs[k]?.getD 0 = b at c1 HD
      generalize refOf (bs.drop (k + 1)) = q at HD
      have e1 : (((k + 1 : Nat) : Int) - 1) = k := by omega
      rw [e1]
      have hs := of_step q b
      have k0 : (0 : Int) ≤ k := by omega
      have k1 : (k : Int) < bs.length := by omega
      clear e1
      go_wp2
      exact ⟨⟨k, by omega, rfl, by rw [HD.out]⟩, by simp [intOf]⟩
    · obtain rfl : j = 0 := by omega
      rw [List.drop_zero]
      go_wp2
      go_ret
      exact ⟨rfl, rfl⟩

/-- What the reference's Take answers. -/
theorem refTake_no (v : Value) (left : List (BitVec 8)) (bad : Bool) (n : Int) (n₀ : Nat) (w : World) (hv : BytesAt n₀ w v left) (hl : left.length ≤ 1099511627776) (hn : n < 0 ∨ left.length < n) :
    Calls Try.prog 29 #[.agg #[v, .bool bad], .int .i64 n] w fun e w' => e = .returned (.tuple #[.agg #[.slice none 0 0, .bool true], .slice none 0 0]) ∧ Below w.heap.size w w' := by
  obtain ⟨a, cap, rfl, _, _, hv⟩ := hv
  clear hv
  have l1 : (left.length : Int) ≤ 1099511627776 := by omega
  by_cases h0 : n < 0
  · go_enter Try.func29, Try.ntmps29
    go_wp2
    exact bodyPost_ret (v := .tuple #[.agg #[.slice none 0 0, .bool true], .slice none 0 0]) (by simp [results, Try.results29, go_sem]) rfl ⟨rfl, (((Below.refl _ _).alloc (Nat.le_refl _) _).alloc (by simp) _)⟩
  · have h1 : (left.length : Int) < n := by omega
    have h2 : 0 ≤ n := by omega
    clear hn h0
    go_enter Try.func29, Try.ntmps29
    go_wp2
    exact bodyPost_ret (v := .tuple #[.agg #[.slice none 0 0, .bool true], .slice none 0 0]) (by simp [results, Try.results29, go_sem]) rfl ⟨rfl, (((Below.refl _ _).alloc (Nat.le_refl _) _).alloc (by simp) _)⟩

/-- What the reference's Take leaves. -/
def RefTook (n₀ : Nat) (left : List (BitVec 8)) (bad : Bool) (n : Option Nat) (w : World) (e : Ending) (w' : World) : Prop :=
  ∃ u' u, e = .returned (.tuple #[.agg #[u', .bool (badB bad n)], u]) ∧ BytesAt n₀ w u' (leftB left n) ∧ BytesAt n₀ w u (takenB left n) ∧ Below w.heap.size w w'

set_option maxHeartbeats 1000000 in
theorem refTake_mid (ad : Addr) (cap : Nat) (left : List (BitVec 8)) (bad : Bool) (n : Nat) (n₀ : Nat) (w : World) (hv : BytesAt n₀ w (.slice (some ad) left.length cap) left) (hl : left.length ≤ 1099511627776) (hn : n ≤ left.length) (hc : n < cap) :
    Calls Try.prog 29 #[.agg #[.slice (some ad) left.length cap, .bool bad], .int .i64 n] w (RefTook n₀ left bad (some n) w) := by
  have h1 := hv.pre n hn
  have h2 := hv.suf n hn
  have lc : left.length ≤ cap := by obtain ⟨_, _, e, h, _⟩ := hv; simp only [Value.slice.injEq] at e; omega
  have l1 : (left.length : Int) ≤ 1099511627776 := by omega
  have l2 : (left.length : Int) ≤ cap := by omega
  have n0 : (0 : Int) ≤ n := by omega
  have n1 : (n : Int) ≤ left.length := by omega
  have n2 : (n : Int) < cap := by omega
  have n3 : ¬ cap = n := by omega
  have n4 : n ≤ cap := by omega
  have n5 : (n : Int) ≤ cap := by omega
  have H1 := Lib.hid h1
  have H2 := Lib.hid h2
  clear hv h1 h2
  go_enter Try.func29, Try.ntmps29
  go_upto_region 3 with (fail)
  obtain ⟨W, hW⟩ : ∃ W, (w.alloc (.cells #[.slice (some ad) left.length cap, .bool bad] 49)).alloc (.cells #[.slice none 0 0, .bool false] 49) = W := ⟨_, rfl⟩
  have hP : W.heap[w.heap.size]? = some (.cells #[.slice (some ad) left.length cap, .bool bad] 49 (0, 0)) := by rw [← hW]; exact blk_alloc (heap_alloc_new w _) _
  have hQ : W.heap[w.heap.size + 1]? = some (.cells #[.slice none 0 0, .bool false] 49 (0, 0)) := by rw [← hW]; have := heap_alloc_new (w.alloc (.cells #[.slice (some ad) left.length cap, .bool bad] 49)) (.cells #[.slice none 0 0, .bool false] 49); simpa using this
  have hB : Below w.heap.size w W := by rw [← hW]; exact ((Below.refl _ w).alloc (Nat.le_refl _) _).alloc (by simp) _
  rw [hW]
  have p0 : W.cell? ⟨w.heap.size, 0, none⟩ = some (.slice (some ad) left.length cap) := blk_cell hP 0
  have p1 : W.cell? ⟨w.heap.size, 1, none⟩ = some (.bool bad) := blk_cell hP 1
  have q0 : W.cell? ⟨w.heap.size + 1, 0, none⟩ = some (.slice none 0 0) := blk_cell hQ 0
  have q1 : W.cell? ⟨w.heap.size + 1, 1, none⟩ = some (.bool false) := blk_cell hQ 1
  have qf := blk_frozen hQ
  clear hW hP hQ
  have HB := Lib.hid hB
  clear hB
  go_region_held3 (fun w' => w'.cell? ⟨w.heap.size, 0, none⟩ = some (.slice (some ad) left.length cap) ∧ w'.cell? ⟨w.heap.size, 1, none⟩ = some (.bool bad)) (first | exact ⟨p0, p1⟩ | go_keep) ((fail))
  go_wp2
  refine bodyPost_ret (v := .tuple #[.agg #[.slice (some (ad.add n)) (left.length - n) (cap - n), .bool bad], .slice (some ad) n cap]) (by simp [results, Try.results29, go_sem, q0, q1]) rfl ⟨_, _, rfl, H2.out, H1.out, ?_⟩
  exact (HB.out.drew.setCell (p := ⟨w.heap.size + 1, 0, none⟩) (Nat.le_succ _) _).setCell (p := ⟨w.heap.size + 1, 1, none⟩) (Nat.le_succ _) _

set_option maxHeartbeats 1000000 in
theorem refTake_all (ad : Addr) (left : List (BitVec 8)) (bad : Bool) (n₀ : Nat) (w : World) (hv : BytesAt n₀ w (.slice (some ad) left.length left.length) left) (hl : left.length ≤ 1099511627776) :
    Calls Try.prog 29 #[.agg #[.slice (some ad) left.length left.length, .bool bad], .int .i64 left.length] w (RefTook n₀ left bad (some left.length) w) := by
  have H1 : Hid (BytesAt n₀ w (.slice (some ad) left.length left.length) (takenB left (some left.length))) := by show BytesAt _ _ _ (left.take left.length); rw [List.take_length]; exact hv
  have H2 : Hid (BytesAt n₀ w (.slice (some ad) 0 0) (leftB left (some left.length))) := by show BytesAt _ _ _ (left.drop left.length); rw [List.drop_length]; exact ⟨_, _, rfl, Nat.le_refl _, fun h => (by cases h), .inl rfl⟩
  have l1 : (left.length : Int) ≤ 1099511627776 := by omega
  have n0 : (0 : Int) ≤ left.length := by omega
  clear hv
  go_enter Try.func29, Try.ntmps29
  go_upto_region 3 with (fail)
  obtain ⟨W, hW⟩ : ∃ W, (w.alloc (.cells #[.slice (some ad) left.length left.length, .bool bad] 49)).alloc (.cells #[.slice none 0 0, .bool false] 49) = W := ⟨_, rfl⟩
  have hP : W.heap[w.heap.size]? = some (.cells #[.slice (some ad) left.length left.length, .bool bad] 49 (0, 0)) := by rw [← hW]; exact blk_alloc (heap_alloc_new w _) _
  have hQ : W.heap[w.heap.size + 1]? = some (.cells #[.slice none 0 0, .bool false] 49 (0, 0)) := by rw [← hW]; have := heap_alloc_new (w.alloc (.cells #[.slice (some ad) left.length left.length, .bool bad] 49)) (.cells #[.slice none 0 0, .bool false] 49); simpa using this
  have hB : Below w.heap.size w W := by rw [← hW]; exact ((Below.refl _ w).alloc (Nat.le_refl _) _).alloc (by simp) _
  rw [hW]
  have p0 : W.cell? ⟨w.heap.size, 0, none⟩ = some (.slice (some ad) left.length left.length) := blk_cell hP 0
  have p1 : W.cell? ⟨w.heap.size, 1, none⟩ = some (.bool bad) := blk_cell hP 1
  have q0 : W.cell? ⟨w.heap.size + 1, 0, none⟩ = some (.slice none 0 0) := blk_cell hQ 0
  have q1 : W.cell? ⟨w.heap.size + 1, 1, none⟩ = some (.bool false) := blk_cell hQ 1
  have qf := blk_frozen hQ
  clear hW hP hQ
  have HB := Lib.hid hB
  clear hB
  go_region_held3 (fun w' => w'.cell? ⟨w.heap.size, 0, none⟩ = some (.slice (some ad) left.length left.length) ∧ w'.cell? ⟨w.heap.size, 1, none⟩ = some (.bool bad)) (first | exact ⟨p0, p1⟩ | go_keep) ((fail))
  go_wp2
  refine bodyPost_ret (v := .tuple #[.agg #[.slice (some ad) 0 0, .bool bad], .slice (some ad) left.length left.length]) (by simp [results, Try.results29, go_sem, q0, q1]) rfl ⟨_, _, rfl, H2.out, H1.out, ?_⟩
  exact (HB.out.drew.setCell (p := ⟨w.heap.size + 1, 0, none⟩) (Nat.le_succ _) _).setCell (p := ⟨w.heap.size + 1, 1, none⟩) (Nat.le_succ _) _

set_option maxHeartbeats 1000000 in
theorem refTake_none (bad : Bool) (n₀ : Nat) (w : World) :
    Calls Try.prog 29 #[.agg #[.slice none 0 0, .bool bad], .int .i64 0] w (RefTook n₀ [] bad (some 0) w) := by
  have H1 : Hid (BytesAt n₀ w (.slice none 0 0) (takenB [] (some 0))) := BytesAt.nil _ _
  have H2 : Hid (BytesAt n₀ w (.slice none 0 0) (leftB [] (some 0))) := BytesAt.nil _ _
  go_enter Try.func29, Try.ntmps29
  go_upto_region 3 with (fail)
  obtain ⟨W, hW⟩ : ∃ W, (w.alloc (.cells #[.slice none 0 0, .bool bad] 49)).alloc (.cells #[.slice none 0 0, .bool false] 49) = W := ⟨_, rfl⟩
  have hP : W.heap[w.heap.size]? = some (.cells #[.slice none 0 0, .bool bad] 49 (0, 0)) := by rw [← hW]; exact blk_alloc (heap_alloc_new w _) _
  have hQ : W.heap[w.heap.size + 1]? = some (.cells #[.slice none 0 0, .bool false] 49 (0, 0)) := by rw [← hW]; have := heap_alloc_new (w.alloc (.cells #[.slice none 0 0, .bool bad] 49)) (.cells #[.slice none 0 0, .bool false] 49); simpa using this
  have hB : Below w.heap.size w W := by rw [← hW]; exact ((Below.refl _ w).alloc (Nat.le_refl _) _).alloc (by simp) _
  rw [hW]
  have p0 : W.cell? ⟨w.heap.size, 0, none⟩ = some (.slice none 0 0) := blk_cell hP 0
  have p1 : W.cell? ⟨w.heap.size, 1, none⟩ = some (.bool bad) := blk_cell hP 1
  have q0 : W.cell? ⟨w.heap.size + 1, 0, none⟩ = some (.slice none 0 0) := blk_cell hQ 0
  have q1 : W.cell? ⟨w.heap.size + 1, 1, none⟩ = some (.bool false) := blk_cell hQ 1
  have qf := blk_frozen hQ
  clear hW hP hQ
  have HB := Lib.hid hB
  clear hB
  go_region_held3 (fun w' => w'.cell? ⟨w.heap.size, 0, none⟩ = some (.slice none 0 0) ∧ w'.cell? ⟨w.heap.size, 1, none⟩ = some (.bool bad)) (first | exact ⟨p0, p1⟩ | go_keep) ((fail))
  go_wp2
  refine bodyPost_ret (v := .tuple #[.agg #[.slice none 0 0, .bool bad], .slice none 0 0]) (by simp [results, Try.results29, go_sem, q0, q1]) rfl ⟨_, _, rfl, H2.out, H1.out, ?_⟩
  exact (HB.out.drew.setCell (p := ⟨w.heap.size + 1, 0, none⟩) (Nat.le_succ _) _).setCell (p := ⟨w.heap.size + 1, 1, none⟩) (Nat.le_succ _) _

theorem refTake_any (v : Value) (left : List (BitVec 8)) (bad : Bool) (n : Int) (n₀ : Nat) (w : World) (hv : BytesAt n₀ w v left) (hl : left.length ≤ 1099511627776) :
    Calls Try.prog 29 #[.agg #[v, .bool bad], .int .i64 n] w (RefTook n₀ left bad (tookN left true n) w) := by
  by_cases h : 0 ≤ n ∧ n ≤ left.length
  · obtain ⟨k, rfl⟩ := Int.eq_ofNat_of_zero_le h.1
    have hk : k ≤ left.length := by omega
    have e : tookN left true k = some k := by simp [tookN]; omega
    rw [e]
    have hv0 := hv
    obtain ⟨a, cap, rfl, hc, _, _⟩ := hv
    cases a with
    | none =>
      obtain ⟨h1, h2, h3⟩ := hv0.none_nil
      subst h3 h2
      obtain rfl : k = 0 := by simpa using hk
      exact refTake_none bad n₀ w
    | some ad =>
      by_cases hkc : k < cap
      · exact refTake_mid ad cap left bad k n₀ w hv0 hl hk hkc
      · obtain rfl : cap = left.length := by omega
        obtain rfl : k = left.length := by omega
        exact refTake_all ad left bad n₀ w hv0 hl
  · have e : tookN left true n = none := by simp [tookN]; omega
    rw [e]
    exact (refTake_no v left bad n n₀ w hv hl (by omega)).mono fun _ _ ⟨h1, h2⟩ => ⟨_, _, h1, BytesAt.nil _ _, BytesAt.nil _ _, h2⟩

end Go.Proofs.Ytghbnomlejnfjaa

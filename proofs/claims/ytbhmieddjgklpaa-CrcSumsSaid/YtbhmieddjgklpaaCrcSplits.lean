/-
  Proved: cut anywhere, the check of a text is that of its beginning, and of the rest behind it. Whatever bytes and place come in, the law CrcSplits answers true and the arguments read as they did.
  Conditions: none.
-/
import Derived.Test.YtbhmieddjgklpaaCrcSum
import Derived.Test.YtbhmieddjgklpaaCrcAdds
import Derived.Test.YtbhmieddjgklpaaOpen
import Derived.Deep.RegionHeld3
namespace Go.Proofs.Ytbhmieddjgklpaa
open Go.ChangeShapes Go.WideShapes Go.ChangeAt Go.RowKit

/-- A contract as a region that draws its order takes it: it holds in every world in which nothing old has turned, and leaves one such. -/
def Steady (w : World) (f : FuncId) (args : Array Value) (r : Value) : Prop :=
  ∀ W : World, Below w.heap.size w W → Calls Try.prog f args W fun e W' => e = .returned r ∧ Below w.heap.size w W' ∧ Below W.heap.size W W'
theorem Steady.use {w : World} {f : FuncId} {args : Array Value} {r : Value} (h : Steady w f args r) (W : World) (hW : Below w.heap.size w W) : Calls Try.prog f args W fun e W' => e = .returned r ∧ Below w.heap.size w W' ∧ Below W.heap.size W W' := h W hW
theorem Steady.of {w : World} {f : FuncId} {args : Array Value} {r : Value} (h : ∀ W : World, Below w.heap.size w W → Calls Try.prog f args W fun e W' => e = .returned r ∧ Below W.heap.size W W') : Steady w f args r :=
  fun W hW => (h W hW).mono fun _ _ ⟨he, hb⟩ => ⟨he, hW.trans (hb.mono hW.size), hb⟩

/-- Pieces of three slices that were laid side by side in a world W1. -/
def ThreePieces (w : World) (u v : Value) (r : Value) : Prop :=
  ∀ W1 W2 : World, Below w.heap.size w W1 → Below (W1.alloc (.cells #[u, .slice none 0 0, v] 22)).heap.size (W1.alloc (.cells #[u, .slice none 0 0, v] 22)) W2 →
    Calls Try.prog 20 #[.slice (some ⟨W1.heap.size, 0, none⟩) 3 3] W2 fun e W' => e = .returned r ∧ Below w.heap.size w W' ∧ Below W2.heap.size W2 W'
theorem ThreePieces.use {w : World} {u v : Value} {r : Value} (h : ThreePieces w u v r) (W1 W2 : World) (h1 : Below w.heap.size w W1) (h2 : Below (W1.alloc (.cells #[u, .slice none 0 0, v] 22)).heap.size (W1.alloc (.cells #[u, .slice none 0 0, v] 22)) W2) :
    Calls Try.prog 20 #[.slice (some ⟨W1.heap.size, 0, none⟩) 3 3] W2 fun e W' => e = .returned r ∧ Below w.heap.size w W' ∧ Below W2.heap.size W2 W' := h W1 W2 h1 h2

set_option maxRecDepth 100000 in
set_option maxHeartbeats 4000000 in
theorem crcSplits_mid (bs : List (BitVec 8)) (ad : Addr) (cap : Nat) (x : BitVec 16) (w : World) (h2 : bs.length ≤ 1000) (hcap : bs.length ≤ cap)
    (k : Nat) (hk : (wrap64 (U x)).tmod ((bs.length : Int) + 1) = (k : Int)) (hk2 : k ≤ bs.length) (hkc : k < cap)
    (hpre : Steady w 15 #[.slice (some ad) k cap] (.int .u32 (U (crcAdd 0#32 (bs.take k)))))
    (hall : Steady w 15 #[.slice (some ad) bs.length cap] (.int .u32 (U (crcAdd 0#32 bs))))
    (hadd : Steady w 19 #[.int .u32 (U (crcAdd 0#32 (bs.take k))), .slice (some (ad.add k)) (bs.length - k) (cap - k)] (.int .u32 (U (crcAdd 0#32 bs))))
    (hpcs : ThreePieces w (.slice (some ad) k cap) (.slice (some (ad.add k)) (bs.length - k) (cap - k)) (.int .u32 (U (crcAdd 0#32 bs)))) :
    Calls Try.prog 7 #[.slice (some ad) bs.length cap, .int .u16 (U x)] w (Good w) := by
  have n2 : (bs.length : Int) ≤ 1000 := by omega
  have k2 : (k : Int) ≤ bs.length := by omega
  have x0 := U_nonneg x
  have c2 : (bs.length : Int) ≤ cap := by omega
  have hawake : Steady w 18 #[] (.bool true) := Steady.of fun W _ => awake01 W
  have k4 : (k : Int) ≤ cap := by omega
  have k0 : (0 : Int) ≤ k := by omega
  go_enter Try.func7, Try.ntmps7
  go_wp2
  go_region_held3 (fun W => Below w.heap.size w W) (first | assumption | exact (Below.refl _ _).drew | exact Below.drew (by assumption) | exact Below.alloc (by assumption) (Below.size (by assumption)) _) (first
    | (go_at_call 15; first | ((with_reducible refine (hpre.use _ (by assumption)).mono ?_); rintro e w1 ⟨rfl, hb1, hc1⟩) | ((with_reducible refine (hall.use _ (by assumption)).mono ?_); rintro e w2 ⟨rfl, hb2, hc2⟩))
    | (go_at_call 19; refine (hadd.use _ (by assumption)).mono ?_; rintro e w3 ⟨rfl, hb3, hc3⟩)
    | (go_at_call 20; refine (hpcs.use _ _ (by assumption) (by first | exact Below.refl _ _ | assumption)).mono ?_; rintro e w4 ⟨rfl, hb4, hc4⟩)
    | (go_at_call 18; refine (hawake.use _ (by assumption)).mono ?_; rintro e w5 ⟨rfl, hb5, hc5⟩))
  all_goals go_wp2
  all_goals go_ret
  all_goals exact ⟨rfl, by assumption⟩

set_option maxRecDepth 100000 in
set_option maxHeartbeats 4000000 in
theorem crcSplits_end (n : Nat) (ad : Addr) (x : BitVec 16) (w : World) (h2 : n ≤ 1000) (c : BitVec 32) (hk : (wrap64 (U x)).tmod ((n : Int) + 1) = (n : Int))
    (hall : Steady w 15 #[.slice (some ad) n n] (.int .u32 (U c)))
    (hadd : Steady w 19 #[.int .u32 (U c), .slice (some ad) 0 0] (.int .u32 (U c)))
    (hpcs : ThreePieces w (.slice (some ad) n n) (.slice (some ad) 0 0) (.int .u32 (U c))) :
    Calls Try.prog 7 #[.slice (some ad) n n, .int .u16 (U x)] w (Good w) := by
  have n2 : (n : Int) ≤ 1000 := by omega
  have n0 : (0 : Int) ≤ n := by omega
  have x0 := U_nonneg x
  have hawake : Steady w 18 #[] (.bool true) := Steady.of fun W _ => awake01 W
  go_enter Try.func7, Try.ntmps7
  go_wp2
  go_region_held3 (fun W => Below w.heap.size w W) (first | assumption | exact (Below.refl _ _).drew | exact Below.drew (by assumption) | exact Below.alloc (by assumption) (Below.size (by assumption)) _) (first
    | (go_at_call 15; refine (hall.use _ (by assumption)).mono ?_; rintro e w2 ⟨rfl, hb2, hc2⟩)
    | (go_at_call 19; refine (hadd.use _ (by assumption)).mono ?_; rintro e w3 ⟨rfl, hb3, hc3⟩)
    | (go_at_call 20; refine (hpcs.use _ _ (by assumption) (by first | exact Below.refl _ _ | assumption)).mono ?_; rintro e w4 ⟨rfl, hb4, hc4⟩)
    | (go_at_call 18; refine (hawake.use _ (by assumption)).mono ?_; rintro e w5 ⟨rfl, hb5, hc5⟩))
  all_goals go_wp2
  all_goals go_ret
  all_goals exact ⟨rfl, by assumption⟩

set_option maxRecDepth 100000 in
set_option maxHeartbeats 4000000 in
theorem crcSplits_nil (x : BitVec 16) (w : World) (c : BitVec 32) (hk : (wrap64 (U x)).tmod 1 = 0)
    (hall : Steady w 15 #[.slice none 0 0] (.int .u32 (U c)))
    (hadd : Steady w 19 #[.int .u32 (U c), .slice none 0 0] (.int .u32 (U c)))
    (hpcs : ThreePieces w (.slice none 0 0) (.slice none 0 0) (.int .u32 (U c))) :
    Calls Try.prog 7 #[.slice none 0 0, .int .u16 (U x)] w (Good w) := by
  have x0 := U_nonneg x
  have hawake : Steady w 18 #[] (.bool true) := Steady.of fun W _ => awake01 W
  go_enter Try.func7, Try.ntmps7
  go_wp2
  go_region_held3 (fun W => Below w.heap.size w W) (first | assumption | exact (Below.refl _ _).drew | exact Below.drew (by assumption) | exact Below.alloc (by assumption) (Below.size (by assumption)) _) (first
    | (go_at_call 15; refine (hall.use _ (by assumption)).mono ?_; rintro e w2 ⟨rfl, hb2, hc2⟩)
    | (go_at_call 19; refine (hadd.use _ (by assumption)).mono ?_; rintro e w3 ⟨rfl, hb3, hc3⟩)
    | (go_at_call 20; refine (hpcs.use _ _ (by assumption) (by first | exact Below.refl _ _ | assumption)).mono ?_; rintro e w4 ⟨rfl, hb4, hc4⟩)
    | (go_at_call 18; refine (hawake.use _ (by assumption)).mono ?_; rintro e w5 ⟨rfl, hb5, hc5⟩))
  all_goals go_wp2
  all_goals go_ret
  all_goals exact ⟨rfl, by assumption⟩

/-! The parts of a text -/
theorem Steady.sum {w : World} {v : Value} {bs : List (BitVec 8)} (hv : BytesAt w.heap.size w v bs) (hl : bs.length ≤ 1099511627776) : Steady w 15 #[v] (.int .u32 (U (crcAdd 0#32 bs))) :=
  Steady.of fun W hW => sum_any bs v hl W ((hv.below hW).mono hW.size)
theorem Steady.add {w : World} {v : Value} {bs : List (BitVec 8)} (s : BitVec 32) (hv : BytesAt w.heap.size w v bs) (hl : bs.length ≤ 1099511627776) : Steady w 19 #[.int .u32 (U s), v] (.int .u32 (U (crcAdd s bs))) :=
  Steady.of fun W hW => addTo_any s bs v hl W ((hv.below hW).mono hW.size)
theorem ThreePieces.of {w : World} {u v : Value} {xs ys : List (BitVec 8)} (hu : BytesAt w.heap.size w u xs) (hv : BytesAt w.heap.size w v ys) (hx : xs.length ≤ 1099511627776) (hy : ys.length ≤ 1099511627776) :
    ThreePieces w u v (.int .u32 (U (crcAdd 0#32 (xs ++ ys)))) := by
  intro W1 W2 h1 h2
  have hB : Below w.heap.size w W2 := (h1.alloc h1.size _).trans (h2.mono (by simp; have := h1.size; omega))
  have hrow : W2.heap[W1.heap.size]? = some (.cells #[u, .slice none 0 0, v] 22 (0, 0)) := (h2.block _ (by simp)).trans (heap_alloc_new _ _)
  have hlt : W1.heap.size < W2.heap.size := (Array.getElem?_eq_some_iff.1 hrow).1
  have hp : PiecesAt W2.heap.size W2 (.slice (some ⟨W1.heap.size, 0, none⟩) 3 3) [xs, [], ys] := by
    refine ⟨_, 3, rfl, .inr ⟨W1.heap.size, 0, rfl, hlt, fun i hi => ?_⟩⟩
    have hi : i < 3 := by simpa using hi
    rw [Nat.zero_add, cell_of_row _ _ _ _ _ _ hrow]
    match i, hi with
    | 0, _ => exact ⟨u, rfl, (hu.below hB).mono hB.size⟩
    | 1, _ => exact ⟨_, rfl, BytesAt.nil _ _⟩
    | 2, _ => exact ⟨v, rfl, (hv.below hB).mono hB.size⟩
  have hpc := pieces_any [xs, [], ys] _ (by simp) (fun i => by
    match i with
    | 0 => simpa using hx
    | 1 => simp
    | 2 => simpa using hy
    | i + 3 => simp) W2 hp
  refine hpc.mono fun e W' ⟨he, hb⟩ => ⟨by simpa using he, hB.trans (hb.mono hB.size), hb⟩

theorem BytesAt.pre {n₀ : Nat} {w : World} {a : Option Addr} {n cap : Nat} {bs : List (BitVec 8)} (h : BytesAt n₀ w (.slice a n cap) bs) (k : Nat) (hk : k ≤ bs.length) : BytesAt n₀ w (.slice a k cap) (bs.take k) := by
  obtain ⟨a', cap', e, h0, h⟩ := h
  simp only [Value.slice.injEq] at e
  obtain ⟨rfl, rfl, rfl⟩ := e
  refine ⟨a, cap, by rw [List.length_take]; congr 1; omega, h0, ?_⟩
  rcases h with rfl | ⟨g, off, rfl, hg, hc⟩
  · exact .inl (by simp)
  · refine .inr ⟨g, off, rfl, hg, fun j hj => ?_⟩
    have hj' : j < k := by rw [List.length_take] at hj; omega
    rw [hc j (by omega)]
    simp [hj']
theorem BytesAt.suf {n₀ : Nat} {w : World} {ad : Addr} {n cap : Nat} {bs : List (BitVec 8)} (h : BytesAt n₀ w (.slice (some ad) n cap) bs) (k : Nat) (hk : k ≤ bs.length) : BytesAt n₀ w (.slice (some (ad.add k)) (n - k) (cap - k)) (bs.drop k) := by
  obtain ⟨a', cap', e, h0, h⟩ := h
  simp only [Value.slice.injEq] at e
  obtain ⟨rfl, rfl, rfl⟩ := e
  refine ⟨_, _, by rw [List.length_drop], fun h => (by cases h), ?_⟩
  rcases h with rfl | ⟨g, off, hg2, hg, hc⟩
  · exact .inl (by simp)
  · cases hg2
    by_cases hkn : k = bs.length
    · exact .inl (by subst hkn; simp)
    · have hadd : (⟨g, off, none⟩ : Addr).add k = ⟨g, off + k, none⟩ := by unfold Addr.add; split <;> simp_all
      refine .inr ⟨g, off + k, by rw [hadd], hg, fun j hj => ?_⟩
      rw [List.length_drop] at hj
      rw [Nat.add_assoc, hc (k + j) (by omega)]
      simp

theorem tmod_at (x : BitVec 16) (n : Nat) : ∃ k : Nat, (wrap64 (U x)).tmod ((n : Int) + 1) = (k : Int) ∧ k ≤ n := by
  have h0 := U_nonneg x
  have h1 : U x < 65536 := by simpa using U_lt x
  have e : wrap64 (U x) = U x := IntWalk.wrap64_in _ ⟨by omega, by omega⟩
  rw [e, Int.tmod_eq_emod_of_nonneg h0]
  have h2 := Int.emod_nonneg (U x) (b := (n : Int) + 1) (by omega)
  have h3 := Int.emod_lt_of_pos (U x) (b := (n : Int) + 1) (by omega)
  generalize U x % ((n : Int) + 1) = z at h2 h3
  exact ⟨z.toNat, by omega, by omega⟩

set_option maxHeartbeats 1000000 in
theorem crcSplits_walk (bs : List (BitVec 8)) (v : Value) (x : BitVec 16) (w : World) (hv : BytesAt w.heap.size w v bs) (hm : bs.length ≤ maxLen) (hcap : ∀ a l c, v = .slice a l c → l ≤ c) :
    Calls Try.prog 7 #[v, .int .u16 (U x)] w (Good w) := by
  unfold maxLen at hm
  have hv0 := hv
  obtain ⟨a, cap, rfl, hac, hv⟩ := hv
  have hc := hcap _ _ _ rfl
  by_cases hbig : 1000 < bs.length
  · have b1 : (1000 : Int) < bs.length := by omega
    have b2 : (bs.length : Int) ≤ 9223372036854775807 := by omega
    generalize bs.length = n at b1 b2
    clear hv hv0 hm hbig
    go_enter Try.func7, Try.ntmps7
    go_wp2
    go_ret
    exact ⟨rfl, Below.refl _ _⟩
  obtain ⟨k, hk, hk2⟩ := tmod_at x bs.length
  have hall := Steady.sum hv0 (by omega)
  cases a with
  | none =>
    obtain ⟨_, rfl, rfl⟩ := hv0.none_nil
    obtain rfl : k = 0 := by simpa using hk2
    have h1 := Steady.add (crcAdd 0#32 []) hv0 (by simp)
    have h2 := ThreePieces.of hv0 hv0 (by simp) (by simp)
    rw [crcAdd_nil (crcAdd 0#32 [])] at h1
    exact crcSplits_nil x w (crcAdd 0#32 []) (by simp) hall h1 h2
  | some ad =>
    have hpre := Steady.sum (hv0.pre k hk2) (by rw [List.length_take]; omega)
    have hcat : bs.take k ++ bs.drop k = bs := List.take_append_drop k bs
    by_cases hkc : k < cap
    · have h1 := Steady.add (crcAdd 0#32 (bs.take k)) (hv0.suf k hk2) (by rw [List.length_drop]; omega)
      have h2 := ThreePieces.of (hv0.pre k hk2) (hv0.suf k hk2) (by rw [List.length_take]; omega) (by rw [List.length_drop]; omega)
      rw [← crcAdd_append, hcat] at h1
      rw [hcat] at h2
      exact crcSplits_mid bs ad cap x w (by omega) hc k hk hk2 hkc hpre hall h1 h2
    · have e1 : cap = bs.length := by omega
      have e2 : k = bs.length := by omega
      subst e2
      have hsuf := hv0.suf bs.length (Nat.le_refl _)
      have hempty : BytesAt w.heap.size w (.slice (some ad) 0 0) [] := ⟨some ad, 0, rfl, fun h => (by cases h), .inl rfl⟩
      have h1 := Steady.add (crcAdd 0#32 bs) hempty (by simp)
      have h2 := ThreePieces.of hv0 hempty (by omega) (by simp)
      rw [crcAdd_nil] at h1
      rw [List.append_nil] at h2
      rw [e1] at hall h2 ⊢
      exact crcSplits_end bs.length ad x w (by omega) _ hk hall h1 h2

theorem open_cap {H : Type} {enc : TypeId × Value → H} {W : World} {base : Nat} {v : Value} {d : DataW H} {p : List MemPlace} (o : Value.okWide Try.prog W .any base 22 v) (h : DataW.Trod enc Try.prog W 0 (fun _ => true) true 22 v d p) : ∀ a l c, v = .slice a l c → l ≤ c := by
  rintro a l c rfl
  obtain ⟨fuel, hf⟩ := h
  rcases open_ints Try.underlying22 Try.underlying5 (by kernel_rfl) hf with ⟨hcs, _⟩ | ⟨x, l', c', zs, hcs, _, hl, _⟩
  · simp [Value.cells] at hcs
    omega
  · simp [Value.cells] at hcs
    omega

set_option maxRecDepth 100000 in
theorem crcSplits_lifted (os : Os) (started : os.Started) (H : Type) (enc : TypeId × Value → H) :
    ReturnsInHanded {} Try.checked os 7 .any (Rows.crcSplitsSpec.pre6 enc Try.prog Try.f7 Rows.crcSplitsRow.domain false) (Rows.crcSplitsSpec.post enc Try.prog Try.f7 false true false false) :=
  law_lifted 7 Try.f7 Rows.crcSplitsSpec Try.func7 (by kernel_rfl) rfl rfl
    (fun ds h => by match ds, h with | [_, _], _ => rfl) (by kernel_rfl) os started
    (ChangeSpec.witness6 (enc := enc) (C := Try.checked) false ⟨#[], #[.slice none 0 0, .int .u16 0], []⟩ 8 (by kernel_rfl) (by kernel_rfl) (by kernel_rfl) (by kernel_rfl))
    fun W args ds ps hval hA => by
      rw [Try.params7] at hA hval
      obtain ⟨v0, vs0, d0, ds0, p0, q0, hargs, rfl, rfl, h0, r0⟩ := trodAll_cons hA
      obtain ⟨v1, vs1, d1, ds1, p1, q1, rfl, rfl, rfl, h1, r1⟩ := trodAll_cons r0
      obtain ⟨rfl, rfl, rfl⟩ := trodAll_nil r1
      obtain rfl : args = #[v0, v1] := by cases args; simp_all
      obtain ⟨b0, o0⟩ := hval 0 _ v0 rfl rfl
      obtain ⟨b1, o1⟩ := hval 1 _ v1 rfl rfl
      obtain ⟨bs0, hb0, hm0⟩ := open_bytes o0 h0
      obtain ⟨a1, rfl, rfl, rfl, w1⟩ := open_int Try.underlying38 o1 h1
      obtain ⟨x1, rfl⟩ := wf_u16 w1
      exact crcSplits_walk bs0 v0 x1 W hb0 hm0 (open_cap o0 h0)

/-- The statement. -/
theorem crcSplits_holds : Rows.CrcSplitsSaid :=
  OpenClaim.holds_of_wide 7 Try.f7 rfl rfl rfl rfl rfl rfl rfl ⟨rfl, rfl, rfl, rfl, rfl⟩ rfl rfl rfl rfl rfl (by kernel_rfl) Try.func7 (by kernel_rfl)
    (of_decide_eq_true (by kernel_rfl)) (by unfold Func.isWrapper; first | (rw [if_pos (by decide +kernel)]; kernel_rfl) | (rw [if_neg (by decide +kernel)]; exact ⟨rfl, rfl⟩))
    (fun os started H enc _ => crcSplits_lifted os started H enc)
#print axioms crcSplits_holds
end Go.Proofs.Ytbhmieddjgklpaa

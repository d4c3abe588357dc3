/-
  sketch: Unpack.
  Conditions: none.
-/
import Derived.Test.YtalgkiagdjckiaaSk11
namespace Go.Proofs.Ytalgkiagdjckiaa
open Go.RowKit

theorem wide_not {N : Nat} (h : ¬ WideOk N) : (N : Int) < 2 ∨ (4096 : Int) < N ∨ ((2 : Int) ≤ N ∧ (N : Int) ≤ 4096 ∧ bits .and .i64 (N : Int) ((N : Int) - 1) ≠ 0) := by
  by_cases h1 : N < 2
  · exact .inl (by omega)
  by_cases h2 : 4096 < N
  · exact .inr (.inl (by omega))
  refine .inr (.inr ⟨by omega, by omega, fun e => h ?_⟩)
  have key : ∀ a : Fin 65, ∀ b : Fin 64, 2 ≤ a.val * 64 + b.val → a.val * 64 + b.val ≤ 4096 → bits .and .i64 ((a.val * 64 + b.val : Nat) : Int) (((a.val * 64 + b.val : Nat) : Int) - 1) = 0 → (a.val * 64 + b.val = 2 ^ 1 ∨ a.val * 64 + b.val = 2 ^ 2 ∨ a.val * 64 + b.val = 2 ^ 3 ∨ a.val * 64 + b.val = 2 ^ 4 ∨ a.val * 64 + b.val = 2 ^ 5 ∨ a.val * 64 + b.val = 2 ^ 6 ∨ a.val * 64 + b.val = 2 ^ 7 ∨ a.val * 64 + b.val = 2 ^ 8 ∨ a.val * 64 + b.val = 2 ^ 9 ∨ a.val * 64 + b.val = 2 ^ 10 ∨ a.val * 64 + b.val = 2 ^ 11 ∨ a.val * 64 + b.val = 2 ^ 12) := by decide +kernel
  have hd : N / 64 * 64 + N % 64 = N := by omega
  have h9 := key ⟨N / 64, by omega⟩ ⟨N % 64, by omega⟩
  simp only [hd] at h9
  rcases h9 (by omega) (by omega) e with h | h | h | h | h | h | h | h | h | h | h | h
  all_goals exact ⟨_, by decide, by decide, h⟩
/-- A sketch's width, its age as bytes tell them. -/
def unW (bs : List (BitVec 8)) : Nat := leNat (bs.take 2)
def unA (bs : List (BitVec 8)) : Nat := leNat ((bs.drop 2).take 4)
/-- Are bytes a sketch's? -/
def UnOk (bs : List (BitVec 8)) : Prop := 6 ≤ bs.length ∧ WideOk (unW bs) ∧ unA bs < 10 * unW bs ∧ bs.length = 6 + 2 * unW bs
/-- What Unpack answers. -/
def UnRet (bs : List (BitVec 8)) (w : World) (e : Ending) (w' : World) : Prop :=
  (UnOk bs ∧ e = .returned (.tuple #[.pointer (some ⟨w.heap.size, 0, none⟩), .int .i64 0]) ∧ SkAt w' w.heap.size (fun r => w.heap.size + 1 + r) (unW bs) (unA bs) (cnTo (bs.drop 6) (unW bs / 2) 4 0) ∧ Below w.heap.size w w') ∨
  (¬ UnOk bs ∧ e = .returned (.tuple #[.pointer none, .int .i64 5]) ∧ Below w.heap.size w w')
theorem un_parts {n₀ : Nat} {w : World} {a : Option Addr} {n c : Nat} {bs : List (BitVec 8)} (h : BytesAt n₀ w (.slice a n c) bs) (hn : 6 ≤ n) :
    ∃ g off, a = some ⟨g, off, none⟩ ∧ n = bs.length ∧ n ≤ c ∧ BytesAt n₀ w (.slice (some ⟨g, off, none⟩) 2 c) (bs.take 2) ∧ BytesAt n₀ w (.slice (some ⟨g, off + 2, none⟩) 4 (c - 2)) ((bs.drop 2).take 4) ∧ BytesAt n₀ w (.slice (if c = 6 then some ⟨g, off, none⟩ else some ⟨g, off + 6, none⟩) (n - 6) (c - 6)) (bs.drop 6) := by
  obtain ⟨a', c', e, hl, h0, h9⟩ := id h
  cases e
  rcases h9 with h9 | ⟨g, off, rfl, hg, hc⟩
  · subst h9; simp at hn
  · refine ⟨g, off, rfl, rfl, hl, h.pre 2 (by omega), ?_, ?_⟩
    · have h2 := h.suf 2 (by omega)
      rw [add_plain] at h2
      exact h2.pre 4 (by rw [List.length_drop]; omega)
    · by_cases hc6 : c = 6
      · have e1 : bs.drop 6 = [] := List.drop_eq_nil_of_le (by omega)
        have e2 : bs.length - 6 = 0 := by omega
        rw [if_pos hc6, e1, e2]
        exact ⟨_, _, rfl, Nat.zero_le _, fun h => (by cases h), .inl rfl⟩
      · rw [if_neg hc6]
        have h2 := h.suf 6 (by omega)
        rw [add_plain] at h2
        exact h2
theorem un_res (w : World) (v : Value) (n : Int) (tmps : Array Value) (h2 : tmps.getD 2 undef = v) (h3 : tmps.getD 3 undef = .int .i64 n) : (results Try.f16 tmps).run Try.prog w = .ok (.tuple #[v, .int .i64 n]) w := by
  have h2' : tmps[2]?.getD undef = v := by simpa using h2
  have h3' : tmps[3]?.getD undef = .int .i64 n := by simpa using h3
  simp [results, Try.results16, h2', h3', go_sem]
theorem leNat_lt' {bs : List (BitVec 8)} {k : Nat} (h : bs.length ≤ k) : leNat bs < 256 ^ k := Nat.lt_of_lt_of_le (leNat_lt bs) (Nat.pow_le_pow_right (by decide) h)
set_option maxRecDepth 100000 in
set_option maxHeartbeats 4000000 in
theorem unpack_any {w : World} {n₀ : Nat} {v : Value} {bs : List (BitVec 8)} (hv : BytesAt n₀ w v bs) (hn₀ : n₀ ≤ w.heap.size) (hlen : bs.length ≤ 70368744177664) :
    Calls Try.prog 16 #[v] w (UnRet bs w) := by
  obtain ⟨a, c, rfl, hlc, _⟩ := id hv
  by_cases h6 : bs.length < 6
  · have HN : Hid (¬ UnOk bs) := fun h => absurd h.1 (by omega)
    have l1 : (bs.length : Int) < 6 := by omega
    go_enter Try.func16, Try.ntmps16
    go_wp2
    go_ret2
    exact .inr ⟨HN.out, rfl, Below.refl _ _⟩
  · obtain ⟨n, hn⟩ : ∃ n, bs.length = n := ⟨_, rfl⟩
    rw [hn] at hv h6 hlc hlen ⊢
    obtain ⟨g, off, rfl, hnl, hnc, hv2, hv4, hv6⟩ := un_parts hv (by omega)
    have l1 : (6 : Int) ≤ n := by omega
    have l2 : ¬ ((n : Int) < 6) := by omega
    have c1 : (2 : Int) ≤ c := by omega
    have c2 : (6 : Int) ≤ c := by omega
    have c3 : ¬ (c = 2) := by omega
    have c4 : (n : Int) ≤ c := by omega
    have HNM1 := Lib.hid (fun V (hb : Below n₀ w V) => number_any n₀ _ _ V (hv2.below hb) (by rw [List.length_take]; omega))
    have HNM2 := Lib.hid (fun V (hb : Below n₀ w V) => number_any n₀ _ _ V (hv4.below hb) (by rw [List.length_take]; omega))
    have hw2 : unW bs < 256 ^ 2 := leNat_lt' (by rw [List.length_take]; omega)
    have ha4 : unA bs < 256 ^ 4 := leNat_lt' (by rw [List.length_take]; omega)
    have HV6 := Lib.hid hv6
    have HNL := Lib.hid hn
    have HN0 := Lib.hid hn₀
    change Hid (∀ V, Below n₀ w V → Calls _ _ _ V fun e w' => e = .returned (.int .i64 ((unW bs : Nat) : Int)) ∧ V = w') at HNM1
    change Hid (∀ V, Below n₀ w V → Calls _ _ _ V fun e w' => e = .returned (.int .i64 ((unA bs : Nat) : Int)) ∧ V = w') at HNM2
    have HRET : Hid (∀ e w', UnRet bs w e w' → UnRet bs w e w') := fun _ _ h => h
    have HSS : Hid (∀ i, SkS w.heap.size (fun r => w.heap.size + 1 + r) i → w.heap.size ≤ i) := by
      rintro i (rfl | ⟨r, _, rfl⟩)
      · exact Nat.le_refl _
      · show w.heap.size ≤ w.heap.size + 1 + r; omega
    by_cases hwd : WideOk (unW bs)
    · have hle := hwd.le
      have HWD := Lib.hid hwd
      by_cases hag : unA bs < 10 * unW bs
      · have HAGE := Lib.hid hag
        by_cases hfl : (bs.drop 6).length = 2 * unW bs
        · have HY : Hid (UnOk bs) := ⟨by omega, hwd, hag, by rw [List.length_drop] at hfl; omega⟩
          have HYF := Lib.hid hfl
          unfold UnRet
          have HNEW := Lib.hid (fun V => new_any hwd V)
          have HAG : Hid (unA bs ≤ 10 * unW bs) := Nat.le_of_lt hag
          obtain ⟨N, hN⟩ : ∃ N, unW bs = N := ⟨_, rfl⟩
          obtain ⟨A, hA⟩ : ∃ A, unA bs = A := ⟨_, rfl⟩
          rw [hN] at HNM1 HNEW HYF hle HAG hag ⊢
          rw [hA] at HAG hag ⊢
          have g1 : ¬ (((10 * N : Nat) : Int) ≤ (A : Int)) := by omega
          have HA := Lib.hid hA
          clear hwd hv hv2 hv4 hv6 hnl hw2 ha4 hag hfl hN HWD HAGE HRET
          rw [hA] at HNM2
          clear hA HA
          by_cases hc6 : c = 6
          · have c5 : (n : Int) ≤ 6 := by omega
            subst hc6
            have HNM2' : Hid (∀ V, Below n₀ w V → Calls Try.prog 26 #[.slice (some ⟨g, off + 2, none⟩) 4 4] V fun e w' => e = .returned (.int .i64 (A : Int)) ∧ V = w') := HNM2
            replace HNM2 := HNM2'
            clear HNM2'
            have hn6 : n = 6 := by omega
            subst hn6
            have HFL : Hid (∀ V, Below w.heap.size w V → SkAt V w.heap.size (fun r => w.heap.size + 1 + r) N 0 (fun _ _ => 0) → Calls Try.prog 28 #[.pointer (some ⟨w.heap.size, 0, none⟩), .slice (some ⟨g, off, none⟩) 0 0] V fun e w' => e = .returned (.bool true) ∧ SkAt w' w.heap.size (fun r => w.heap.size + 1 + r) N 0 (cnTo (bs.drop 6) (N / 2) 4 0) ∧ Moves (SkS w.heap.size (fun r => w.heap.size + 1 + r)) V w') := fun V hb hs => by
              have := fill_any hs (HV6.out.below (hb.mono HN0.out)) (fun r _ => Nat.le_trans HN0.out (show w.heap.size ≤ w.heap.size + 1 + r by omega))
              rw [decide_eq_true HYF.out] at this
              refine this.mono fun e w' h => ⟨h.1, ?_, h.2.2⟩
              obtain ⟨C', hs', hC⟩ := h.2.1
              rw [← hC HYF.out]
              exact hs'
            go_enter Try.func16, Try.ntmps16
            go_wp2
            go_quiet (fail)
            have hbq : Below w.heap.size w (w.drewN nq) := ⟨rfl, rfl, rfl, Nat.le_refl _, fun _ _ => rfl⟩
            have hsz : (w.drewN nq).heap.size = w.heap.size := rfl
            obtain ⟨wq, hwq⟩ : ∃ wq, w.drewN nq = wq := ⟨_, rfl⟩
            rw [hwq] at hbq hsz ⊢
            have HBQ := Lib.hid hbq
            have HBN := Lib.hid (hbq.mono HN0.out)
            have HSZ := Lib.hid hsz
            have hnq := HNEW.out wq
            try rw [hsz] at hnq
            have HNQ := Lib.hid hnq
            clear hwq hbq hsz hnq
            go_wp2_with (first
              | (go_at_call 26; (with_reducible refine (HNM1.out _ HBN.out).mono ?_); rintro e w' ⟨rfl, rfl⟩; clear HNM1)
              | (go_at_call 8; (with_reducible refine HNQ.out.mono ?_); rintro e w1 ⟨rfl, h1, hb1⟩; have HS1 := Lib.hid h1; have HB1 := Lib.hid (HBQ.out.trans hb1); have HO1 := Lib.hid (oldest_any h1); have HF1 := Lib.hid (HFL.out _ HB1.out h1); clear h1 hb1)
              | (go_at_call 26; (with_reducible refine (HNM2.out _ (HB1.out.mono HN0.out)).mono ?_); rintro e w' ⟨rfl, rfl⟩)
              | (go_at_call 27; (with_reducible refine HO1.out.mono ?_); rintro e w' ⟨rfl, rfl⟩)
              | (go_at_call 28; (with_reducible refine HF1.out.mono ?_); rintro e w2 ⟨rfl, hs2, hm2⟩; have HS2 := Lib.hid hs2; have HB2 := Lib.hid (HB1.out.trans (hm2.below (B := w.heap.size) HSS.out HB1.out.size)); have q4 := hs2.old; have q5 := blk_frozen hs2.blk 4; clear hs2 hm2)
              | (go_at_call 26; (with_reducible refine (HNM2.out _ (HB2.out.mono HN0.out)).mono ?_); rintro e w' ⟨rfl, rfl⟩))
            go_ret2
            exact .inl ⟨HY.out, rfl, HS2.out.setAge HAG.out, HB2.out.setCell (p := ⟨w.heap.size, 4, none⟩) (Nat.le_refl _) _⟩
          · have hc7 : ¬ (6 = c) := fun e => hc6 e.symm
            rw [if_neg hc6] at HV6
            have HFL : Hid (∀ V, Below w.heap.size w V → SkAt V w.heap.size (fun r => w.heap.size + 1 + r) N 0 (fun _ _ => 0) → Calls Try.prog 28 #[.pointer (some ⟨w.heap.size, 0, none⟩), .slice (some ⟨g, off + 6, none⟩) (n - 6) (c - 6)] V fun e w' => e = .returned (.bool true) ∧ SkAt w' w.heap.size (fun r => w.heap.size + 1 + r) N 0 (cnTo (bs.drop 6) (N / 2) 4 0) ∧ Moves (SkS w.heap.size (fun r => w.heap.size + 1 + r)) V w') := fun V hb hs => by
              have := fill_any hs (HV6.out.below (hb.mono HN0.out)) (fun r _ => Nat.le_trans HN0.out (show w.heap.size ≤ w.heap.size + 1 + r by omega))
              rw [decide_eq_true HYF.out] at this
              refine this.mono fun e w' h => ⟨h.1, ?_, h.2.2⟩
              obtain ⟨C', hs', hC⟩ := h.2.1
              rw [← hC HYF.out]
              exact hs'
            go_enter Try.func16, Try.ntmps16
            go_wp2
            go_quiet (fail)
            have hbq : Below w.heap.size w (w.drewN nq) := ⟨rfl, rfl, rfl, Nat.le_refl _, fun _ _ => rfl⟩
            have hsz : (w.drewN nq).heap.size = w.heap.size := rfl
            obtain ⟨wq, hwq⟩ : ∃ wq, w.drewN nq = wq := ⟨_, rfl⟩
            rw [hwq] at hbq hsz ⊢
            have HBQ := Lib.hid hbq
            have HBN := Lib.hid (hbq.mono HN0.out)
            have HSZ := Lib.hid hsz
            have hnq := HNEW.out wq
            try rw [hsz] at hnq
            have HNQ := Lib.hid hnq
            clear hwq hbq hsz hnq
            go_wp2_with (first
              | (go_at_call 26; (with_reducible refine (HNM1.out _ HBN.out).mono ?_); rintro e w' ⟨rfl, rfl⟩; clear HNM1)
              | (go_at_call 8; (with_reducible refine HNQ.out.mono ?_); rintro e w1 ⟨rfl, h1, hb1⟩; have HS1 := Lib.hid h1; have HB1 := Lib.hid (HBQ.out.trans hb1); have HO1 := Lib.hid (oldest_any h1); have HF1 := Lib.hid (HFL.out _ HB1.out h1); clear h1 hb1)
              | (go_at_call 26; (with_reducible refine (HNM2.out _ (HB1.out.mono HN0.out)).mono ?_); rintro e w' ⟨rfl, rfl⟩)
              | (go_at_call 27; (with_reducible refine HO1.out.mono ?_); rintro e w' ⟨rfl, rfl⟩)
              | (go_at_call 28; (with_reducible refine HF1.out.mono ?_); rintro e w2 ⟨rfl, hs2, hm2⟩; have HS2 := Lib.hid hs2; have HB2 := Lib.hid (HB1.out.trans (hm2.below (B := w.heap.size) HSS.out HB1.out.size)); have q4 := hs2.old; have q5 := blk_frozen hs2.blk 4; clear hs2 hm2)
              | (go_at_call 26; (with_reducible refine (HNM2.out _ (HB2.out.mono HN0.out)).mono ?_); rintro e w' ⟨rfl, rfl⟩))
            go_ret2
            exact .inl ⟨HY.out, rfl, HS2.out.setAge HAG.out, HB2.out.setCell (p := ⟨w.heap.size, 4, none⟩) (Nat.le_refl _) _⟩
        · have HN : Hid (¬ UnOk bs) := fun h => hfl (by rw [List.length_drop]; have := h.2.2.2; omega)
          have HNF := Lib.hid hfl
          have HNEW := Lib.hid (fun V => new_any hwd V)
          obtain ⟨N, hN⟩ : ∃ N, unW bs = N := ⟨_, rfl⟩
          obtain ⟨A, hA⟩ : ∃ A, unA bs = A := ⟨_, rfl⟩
          rw [hN] at HNM1 HNEW HNF hle hag
          rw [hA] at HNM2 hag
          have g1 : ¬ (((10 * N : Nat) : Int) ≤ (A : Int)) := by omega
          clear hwd hv hv2 hv4 hv6 hnl hw2 ha4 hag hfl hN hA HWD HAGE HRET
          by_cases hc6 : c = 6
          · have c5 : (n : Int) ≤ 6 := by omega
            subst hc6
            have HNM2' : Hid (∀ V, Below n₀ w V → Calls Try.prog 26 #[.slice (some ⟨g, off + 2, none⟩) 4 4] V fun e w' => e = .returned (.int .i64 (A : Int)) ∧ V = w') := HNM2
            replace HNM2 := HNM2'
            clear HNM2'
            have hn6 : n = 6 := by omega
            subst hn6
            have HFL : Hid (∀ V, Below w.heap.size w V → SkAt V w.heap.size (fun r => w.heap.size + 1 + r) N 0 (fun _ _ => 0) → Calls Try.prog 28 #[.pointer (some ⟨w.heap.size, 0, none⟩), .slice (some ⟨g, off, none⟩) 0 0] V fun e w' => e = .returned (.bool false) ∧ Moves (SkS w.heap.size (fun r => w.heap.size + 1 + r)) V w') := fun V hb hs => by
              have := fill_any hs (HV6.out.below (hb.mono HN0.out)) (fun r _ => Nat.le_trans HN0.out (show w.heap.size ≤ w.heap.size + 1 + r by omega))
              rw [decide_eq_false HNF.out] at this
              exact this.mono fun e w' h => ⟨h.1, h.2.2⟩
            go_enter Try.func16, Try.ntmps16
            go_wp2
            go_quiet (fail)
            have hbq : Below w.heap.size w (w.drewN nq) := ⟨rfl, rfl, rfl, Nat.le_refl _, fun _ _ => rfl⟩
            have hsz : (w.drewN nq).heap.size = w.heap.size := rfl
            obtain ⟨wq, hwq⟩ : ∃ wq, w.drewN nq = wq := ⟨_, rfl⟩
            rw [hwq] at hbq hsz ⊢
            have HBQ := Lib.hid hbq
            have HBN := Lib.hid (hbq.mono HN0.out)
            have HSZ := Lib.hid hsz
            have hnq := HNEW.out wq
            try rw [hsz] at hnq
            have HNQ := Lib.hid hnq
            clear hwq hbq hsz hnq
            go_wp2_with (first
              | (go_at_call 26; (with_reducible refine (HNM1.out _ HBN.out).mono ?_); rintro e w' ⟨rfl, rfl⟩; clear HNM1)
              | (go_at_call 8; (with_reducible refine HNQ.out.mono ?_); rintro e w1 ⟨rfl, h1, hb1⟩; have HS1 := Lib.hid h1; have HB1 := Lib.hid (HBQ.out.trans hb1); have HO1 := Lib.hid (oldest_any h1); have HF1 := Lib.hid (HFL.out _ HB1.out h1); clear h1 hb1)
              | (go_at_call 26; (with_reducible refine (HNM2.out _ (HB1.out.mono HN0.out)).mono ?_); rintro e w' ⟨rfl, rfl⟩)
              | (go_at_call 27; (with_reducible refine HO1.out.mono ?_); rintro e w' ⟨rfl, rfl⟩)
              | (go_at_call 28; (with_reducible refine HF1.out.mono ?_); rintro e w2 ⟨rfl, hm2⟩; have HB2 := Lib.hid (HB1.out.trans (hm2.below (B := w.heap.size) HSS.out HB1.out.size)); clear hm2))
            go_ret2
            exact .inr ⟨HN.out, rfl, HB2.out⟩
          · have hc7 : ¬ (6 = c) := fun e => hc6 e.symm
            rw [if_neg hc6] at HV6
            have HFL : Hid (∀ V, Below w.heap.size w V → SkAt V w.heap.size (fun r => w.heap.size + 1 + r) N 0 (fun _ _ => 0) → Calls Try.prog 28 #[.pointer (some ⟨w.heap.size, 0, none⟩), .slice (some ⟨g, off + 6, none⟩) (n - 6) (c - 6)] V fun e w' => e = .returned (.bool false) ∧ Moves (SkS w.heap.size (fun r => w.heap.size + 1 + r)) V w') := fun V hb hs => by
              have := fill_any hs (HV6.out.below (hb.mono HN0.out)) (fun r _ => Nat.le_trans HN0.out (show w.heap.size ≤ w.heap.size + 1 + r by omega))
              rw [decide_eq_false HNF.out] at this
              exact this.mono fun e w' h => ⟨h.1, h.2.2⟩
            go_enter Try.func16, Try.ntmps16
            go_wp2
            go_quiet (fail)
            have hbq : Below w.heap.size w (w.drewN nq) := ⟨rfl, rfl, rfl, Nat.le_refl _, fun _ _ => rfl⟩
            have hsz : (w.drewN nq).heap.size = w.heap.size := rfl
            obtain ⟨wq, hwq⟩ : ∃ wq, w.drewN nq = wq := ⟨_, rfl⟩
            rw [hwq] at hbq hsz ⊢
            have HBQ := Lib.hid hbq
            have HBN := Lib.hid (hbq.mono HN0.out)
            have HSZ := Lib.hid hsz
            have hnq := HNEW.out wq
            try rw [hsz] at hnq
            have HNQ := Lib.hid hnq
            clear hwq hbq hsz hnq
            go_wp2_with (first
              | (go_at_call 26; (with_reducible refine (HNM1.out _ HBN.out).mono ?_); rintro e w' ⟨rfl, rfl⟩; clear HNM1)
              | (go_at_call 8; (with_reducible refine HNQ.out.mono ?_); rintro e w1 ⟨rfl, h1, hb1⟩; have HS1 := Lib.hid h1; have HB1 := Lib.hid (HBQ.out.trans hb1); have HO1 := Lib.hid (oldest_any h1); have HF1 := Lib.hid (HFL.out _ HB1.out h1); clear h1 hb1)
              | (go_at_call 26; (with_reducible refine (HNM2.out _ (HB1.out.mono HN0.out)).mono ?_); rintro e w' ⟨rfl, rfl⟩)
              | (go_at_call 27; (with_reducible refine HO1.out.mono ?_); rintro e w' ⟨rfl, rfl⟩)
              | (go_at_call 28; (with_reducible refine HF1.out.mono ?_); rintro e w2 ⟨rfl, hm2⟩; have HB2 := Lib.hid (HB1.out.trans (hm2.below (B := w.heap.size) HSS.out HB1.out.size)); clear hm2))
            go_ret2
            exact .inr ⟨HN.out, rfl, HB2.out⟩
      · have HN : Hid (¬ UnOk bs) := fun h => hag h.2.2.1
        have HNEW := Lib.hid (fun V => new_any hwd V)
        obtain ⟨N, hN⟩ : ∃ N, unW bs = N := ⟨_, rfl⟩
        obtain ⟨A, hA⟩ : ∃ A, unA bs = A := ⟨_, rfl⟩
        rw [hN] at HNM1 HNEW hle hag
        rw [hA] at HNM2 hag
        have g1 : ((10 * N : Nat) : Int) ≤ (A : Int) := by omega
        clear hwd hv hv2 hv4 hv6 hnl hw2 ha4 hag hN hA HWD HRET
        by_cases hc6 : c = 6
        · have c5 : (n : Int) ≤ 6 := by omega
          subst hc6
          have HNM2' : Hid (∀ V, Below n₀ w V → Calls Try.prog 26 #[.slice (some ⟨g, off + 2, none⟩) 4 4] V fun e w' => e = .returned (.int .i64 (A : Int)) ∧ V = w') := HNM2
          replace HNM2 := HNM2'
          clear HNM2'
          go_enter Try.func16, Try.ntmps16
          go_wp2
          go_quiet (fail)
          have hbq : Below w.heap.size w (w.drewN nq) := ⟨rfl, rfl, rfl, Nat.le_refl _, fun _ _ => rfl⟩
          have hsz : (w.drewN nq).heap.size = w.heap.size := rfl
          obtain ⟨wq, hwq⟩ : ∃ wq, w.drewN nq = wq := ⟨_, rfl⟩
          rw [hwq] at hbq hsz ⊢
          have HBQ := Lib.hid hbq
          have HBN := Lib.hid (hbq.mono HN0.out)
          have HSZ := Lib.hid hsz
          have hnq := HNEW.out wq
          try rw [hsz] at hnq
          have HNQ := Lib.hid hnq
          clear hwq hbq hsz hnq
          go_wp2_with (first
            | (go_at_call 26; (with_reducible refine (HNM1.out _ HBN.out).mono ?_); rintro e w' ⟨rfl, rfl⟩; clear HNM1)
            | (go_at_call 8; (with_reducible refine HNQ.out.mono ?_); rintro e w1 ⟨rfl, h1, hb1⟩; have HB1 := Lib.hid (HBQ.out.trans hb1); have HO1 := Lib.hid (oldest_any h1); clear h1 hb1)
            | (go_at_call 26; (with_reducible refine (HNM2.out _ (HB1.out.mono HN0.out)).mono ?_); rintro e w' ⟨rfl, rfl⟩)
            | (go_at_call 27; (with_reducible refine HO1.out.mono ?_); rintro e w' ⟨rfl, rfl⟩))
          go_ret2
          exact .inr ⟨HN.out, rfl, HB1.out⟩
        · have hc7 : ¬ (6 = c) := fun e => hc6 e.symm
          rw [if_neg hc6] at HV6
          go_enter Try.func16, Try.ntmps16
          go_wp2
          go_quiet (fail)
          have hbq : Below w.heap.size w (w.drewN nq) := ⟨rfl, rfl, rfl, Nat.le_refl _, fun _ _ => rfl⟩
          have hsz : (w.drewN nq).heap.size = w.heap.size := rfl
          obtain ⟨wq, hwq⟩ : ∃ wq, w.drewN nq = wq := ⟨_, rfl⟩
          rw [hwq] at hbq hsz ⊢
          have HBQ := Lib.hid hbq
          have HBN := Lib.hid (hbq.mono HN0.out)
          have HSZ := Lib.hid hsz
          have hnq := HNEW.out wq
          try rw [hsz] at hnq
          have HNQ := Lib.hid hnq
          clear hwq hbq hsz hnq
          go_wp2_with (first
            | (go_at_call 26; (with_reducible refine (HNM1.out _ HBN.out).mono ?_); rintro e w' ⟨rfl, rfl⟩; clear HNM1)
            | (go_at_call 8; (with_reducible refine HNQ.out.mono ?_); rintro e w1 ⟨rfl, h1, hb1⟩; have HB1 := Lib.hid (HBQ.out.trans hb1); have HO1 := Lib.hid (oldest_any h1); clear h1 hb1)
            | (go_at_call 26; (with_reducible refine (HNM2.out _ (HB1.out.mono HN0.out)).mono ?_); rintro e w' ⟨rfl, rfl⟩)
            | (go_at_call 27; (with_reducible refine HO1.out.mono ?_); rintro e w' ⟨rfl, rfl⟩))
          go_ret2
          exact .inr ⟨HN.out, rfl, HB1.out⟩
    · have hno := wide_not hwd
      have HNEW := Lib.hid (fun V => new_not hno V)
      have HN : Hid (¬ UnOk bs) := fun h => hwd h.2.1
      obtain ⟨W, hW⟩ : ∃ W, unW bs = W := ⟨_, rfl⟩
      rw [hW] at HNM1 HNEW
      clear hno hwd hv hv2 hv4 hv6 hnl hW hw2 ha4
      by_cases hc6 : c = 6
      · have c5 : (n : Int) ≤ 6 := by omega
        subst hc6
        have HNM2' : Hid (∀ V, Below n₀ w V → Calls Try.prog 26 #[.slice (some ⟨g, off + 2, none⟩) 4 4] V fun e w' => e = .returned (.int .i64 ((unA bs : Nat) : Int)) ∧ V = w') := HNM2
        replace HNM2 := HNM2'
        clear HNM2'
        go_enter Try.func16, Try.ntmps16
        go_wp2
        go_quiet (fail)
        have hbq : Below w.heap.size w (w.drewN nq) := ⟨rfl, rfl, rfl, Nat.le_refl _, fun _ _ => rfl⟩
        have hsz : (w.drewN nq).heap.size = w.heap.size := rfl
        obtain ⟨wq, hwq⟩ : ∃ wq, w.drewN nq = wq := ⟨_, rfl⟩
        rw [hwq] at hbq hsz ⊢
        have HBQ := Lib.hid hbq
        have HBN := Lib.hid (hbq.mono HN0.out)
        have HSZ := Lib.hid hsz
        have hnq := HNEW.out wq
        try rw [hsz] at hnq
        have HNQ := Lib.hid hnq
        clear hwq hbq hsz hnq
        go_wp2_with (first
          | (go_at_call 26; (with_reducible refine (HNM1.out _ HBN.out).mono ?_); rintro e w' ⟨rfl, rfl⟩; clear HNM1)
          | (go_at_call 8; (with_reducible refine (HNEW.out _).mono ?_); rintro e w' ⟨rfl, rfl⟩))
        go_ret2
        exact .inr ⟨HN.out, rfl, HBQ.out⟩
      · have hc7 : ¬ (6 = c) := fun e => hc6 e.symm
        rw [if_neg hc6] at HV6
        go_enter Try.func16, Try.ntmps16
        go_wp2
        go_quiet (fail)
        have hbq : Below w.heap.size w (w.drewN nq) := ⟨rfl, rfl, rfl, Nat.le_refl _, fun _ _ => rfl⟩
        have hsz : (w.drewN nq).heap.size = w.heap.size := rfl
        obtain ⟨wq, hwq⟩ : ∃ wq, w.drewN nq = wq := ⟨_, rfl⟩
        rw [hwq] at hbq hsz ⊢
        have HBQ := Lib.hid hbq
        have HBN := Lib.hid (hbq.mono HN0.out)
        have HSZ := Lib.hid hsz
        have hnq := HNEW.out wq
        try rw [hsz] at hnq
        have HNQ := Lib.hid hnq
        clear hwq hbq hsz hnq
        go_wp2_with (first
          | (go_at_call 26; (with_reducible refine (HNM1.out _ HBN.out).mono ?_); rintro e w' ⟨rfl, rfl⟩; clear HNM1)
          | (go_at_call 8; (with_reducible refine (HNEW.out _).mono ?_); rintro e w' ⟨rfl, rfl⟩))
        go_ret2
        exact .inr ⟨HN.out, rfl, HBQ.out⟩
end Go.Proofs.Ytalgkiagdjckiaa

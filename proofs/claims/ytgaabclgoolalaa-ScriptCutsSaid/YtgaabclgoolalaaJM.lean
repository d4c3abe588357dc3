/-
  Joined: ScrMath, ScrMath2, ScrMath3.
  Conditions: none.
-/
import Derived.Test.YtgaabclgoolalaaScr20
import Derived.Test.YtgaabclgoolalaaScr15
namespace Go.Proofs.Ytgaabclgoolalaa
open Go.RowKit

theorem leNat_digit (l : List (BitVec 8)) (j : Nat) (hj : j < l.length) : leNat l / 256 ^ j % 256 = (l[j]?.getD 0).toNat := by
  induction l generalizing j with
  | nil => simp at hj
  | cons b l ih =>
    have hb := b.isLt
    cases j with
    | zero => simp [leNat]; omega
    | succ j =>
      rw [leNat, Nat.pow_succ, Nat.mul_comm (256 ^ j) 256, ← Nat.div_div_eq_div_mul, show (b.toNat + 256 * leNat l) / 256 = leNat l by omega, ih j (by simpa using hj)]
      rfl
theorem leB_leOf (l : List (BitVec 8)) (h : l.length ≤ 8) : leB l.length (leOf l) = l := by
  apply List.ext_getElem?
  intro j
  by_cases hj : j < l.length
  · have h1 : (leB l.length (leOf l))[j]? = some ((leOf l >>> (8 * j)).setWidth 8) := by simp [leB, hj]
    rw [h1, List.getElem?_eq_getElem hj]
    congr 1
    apply BitVec.eq_of_toNat_eq
    have hd := leNat_digit l j hj
    rw [List.getElem?_eq_getElem hj] at hd
    have hd' : leNat l / 256 ^ j % 256 = l[j].toNat := hd
    rw [← hd', BitVec.toNat_setWidth, BitVec.toNat_ushiftRight, leOf_toNat l h, Nat.shiftRight_eq_div_pow, Nat.pow_mul]
  · rw [List.getElem?_eq_none (by rw [leB_len]; omega), List.getElem?_eq_none (by omega)]
theorem leOf_back (k : Nat) (hk : k ≤ 8) (x : BitVec 64) (h : x.toNat < 256 ^ k) : leOf (leB k x) = x := by
  apply BitVec.eq_of_toNat_eq
  rw [leOf_toNat _ (by rw [leB_len]; exact hk), leNat_leB, Nat.mod_eq_of_lt h]
theorem took_k {l : List (BitVec 8)} {k : Nat} (h : k ≤ l.length) : tookN l true k = some k := by
  unfold tookN
  rw [if_pos ⟨rfl, by omega, by omega⟩]
  simp
theorem took_in {b : Bool} {l : List (BitVec 8)} {k : Nat} (h : badB b (tookN l true k) = false) : k ≤ l.length := by
  by_cases hk : k ≤ l.length
  · exact hk
  · unfold tookN at h
    rw [if_neg (by omega)] at h
    cases h
theorem rNum_app (k : Nat) (hk : mayB k = true) (hk8 : k ≤ 8) (x : BitVec 64) (hx : x.toNat < 256 ^ k) (rest : List (BitVec 8)) : rNum (leB k x ++ rest, false) k = (x, (rest, false)) := by
  have h0 := leB_len k x
  unfold rNum rdN rdL rdB
  dsimp only
  rw [hk, took_k (by rw [List.length_append]; omega)]
  unfold takenB leftB badB
  dsimp only
  rw [List.take_left' h0, List.drop_left' h0, leOf_back k hk8 x hx]
theorem rNum_back {s : RSt} (k : Nat) (hk : mayB k = true) (hk8 : k ≤ 8) (h : (rNum s k).2.2 = false) : s = (leB k (rNum s k).1 ++ (rNum s k).2.1, false) ∧ (rNum s k).1.toNat < 256 ^ k := by
  obtain ⟨l, b⟩ := s
  unfold rNum rdN rdL rdB at h ⊢
  dsimp only at h ⊢
  rw [hk] at h ⊢
  have hl := took_in h
  rw [took_k hl] at h ⊢
  unfold takenB leftB badB at *
  dsimp only at h ⊢
  have h1 : (l.take k).length = k := by rw [List.length_take]; omega
  have h2 := leB_leOf (l.take k) (by omega)
  rw [h1] at h2
  rw [h2, List.take_append_drop, h]
  refine ⟨rfl, ?_⟩
  rw [leOf_toNat _ (by omega)]
  have := leNat_lt (l.take k)
  rwa [h1] at this
theorem rRaw_app (b rest : List (BitVec 8)) : rRaw (b ++ rest, false) b.length = (b, (rest, false)) := by
  unfold rRaw
  dsimp only
  rw [took_k (by rw [List.length_append]; omega)]
  unfold takenB leftB badB
  dsimp only
  rw [List.take_left' rfl, List.drop_left' rfl]
theorem rRaw_back {s : RSt} (k : Nat) (h : (rRaw s k).2.2 = false) : s = ((rRaw s k).1 ++ (rRaw s k).2.1, false) ∧ (rRaw s k).1.length = k := by
  obtain ⟨l, b⟩ := s
  unfold rRaw at h ⊢
  dsimp only at h ⊢
  have hl := took_in h
  rw [took_k hl] at h ⊢
  unfold takenB leftB badB at *
  dsimp only at h ⊢
  rw [List.take_append_drop, h, List.length_take]
  exact ⟨rfl, by omega⟩
theorem rTxt_app (b rest : List (BitVec 8)) (hb : b.length ≤ 65535) : rTxt (txt b ++ rest, false) = (b, (rest, false)) := by
  have e : (BitVec.ofNat 64 b.length).toNat = b.length := by rw [BitVec.toNat_ofNat]; exact Nat.mod_eq_of_lt (by omega)
  have h := rNum_app 2 rfl (by omega) (BitVec.ofNat 64 b.length) (by rw [e]; omega) (b ++ rest)
  have h : rNum (txt b ++ rest, false) 2 = (BitVec.ofNat 64 b.length, (b ++ rest, false)) := by
    unfold txt
    rw [List.append_assoc]
    exact h
  unfold rTxt
  rw [h]
  have e2 : U (BitVec.ofNat 64 b.length) = (b.length : Int) := by unfold U; rw [e]
  dsimp only
  rw [e2]
  exact rRaw_app b rest
theorem rTxt_back {s : RSt} (h : (rTxt s).2.2 = false) : s = (txt (rTxt s).1 ++ (rTxt s).2.1, false) ∧ (rTxt s).1.length ≤ 65535 := by
  unfold rTxt at h ⊢
  obtain ⟨k, hk⟩ : ∃ k : Nat, U (rNum s 2).1 = k := Int.eq_ofNat_of_zero_le (U_nonneg _)
  rw [hk] at h ⊢
  obtain ⟨h1, h2⟩ := rRaw_back k h
  have h3 : (rNum s 2).2.2 = false := by rw [h1]
  obtain ⟨h4, h5⟩ := rNum_back 2 rfl (by omega) h3
  have h6 : ((rNum s 2).1).toNat = k := by
    have : U (rNum s 2).1 = (((rNum s 2).1).toNat : Int) := rfl
    omega
  have h7 : BitVec.ofNat 64 k = (rNum s 2).1 := by rw [← h6]; simp
  refine ⟨?_, by rw [h2]; have h5 : ((rNum s 2).1).toNat < 256 ^ 2 := h5; omega⟩
  unfold txt
  rw [h2, h7, List.append_assoc]
  have h8 : (rNum s 2).2.1 = (rRaw (rNum s 2).2 k).1 ++ (rRaw (rNum s 2).2 k).2.1 := by
    have := congrArg Prod.fst h1
    exact this
  rw [← h8]
  exact h4
/-- A bad reader stays bad. -/
theorem rNum_bad {s : RSt} (k : Int) (h : s.2 = true) : (rNum s k).2.2 = true := by
  show badB s.2 _ = true
  rw [h]
  unfold badB
  split <;> rfl
theorem rRaw_bad {s : RSt} (k : Int) (h : s.2 = true) : (rRaw s k).2.2 = true := by
  show badB s.2 _ = true
  rw [h]
  unfold badB
  split <;> rfl
theorem rTxt_bad {s : RSt} (h : s.2 = true) : (rTxt s).2.2 = true := rRaw_bad _ (rNum_bad _ h)
theorem rNums_bad {s : RSt} (h : s.2 = true) : ∀ n, (rNums n s).2.2 = true
  | 0 => h
  | n + 1 => rNum_bad _ (rNums_bad h n)
theorem toI_of {i : Int} (h : N64 i) : toI (BitVec.ofInt 64 i) = i := by
  obtain ⟨h1, h2⟩ := h
  unfold toI
  have e : U (BitVec.ofInt 64 i) = i % 18446744073709551616 := by
    unfold U
    rw [BitVec.toNat_ofInt]
    simp
    omega
  rw [e]
  unfold wrap64
  omega
theorem of_toI (x : BitVec 64) : BitVec.ofInt 64 (toI x) = x := by
  apply BitVec.eq_of_toNat_eq
  rw [BitVec.toNat_ofInt]
  have hx := x.isLt
  have e : U x = (x.toNat : Int) := rfl
  unfold toI wrap64
  rw [e]
  simp
  omega
end Go.Proofs.Ytgaabclgoolalaa
namespace Go.Proofs.Ytgaabclgoolalaa
open Go.RowKit

theorem leI_toI (x : BitVec 64) : leI 8 (toI x) = leB 8 x := by unfold leI; rw [of_toI]; rfl
theorem rNum_int (i : Int) (rest : List (BitVec 8)) : rNum (leI 8 i ++ rest, false) 8 = (BitVec.ofInt 64 i, (rest, false)) :=
  rNum_app 8 rfl (by omega) (BitVec.ofInt 64 i) (by have := (BitVec.ofInt 64 i).isLt; omega) rest
theorem rNums_app : ∀ (n : Nat) (L : List Int) (rest : List (BitVec 8)), L.length = n → (∀ y ∈ L, N64 y) → rNums n (L.flatMap (leI 8) ++ rest, false) = (L, (rest, false))
  | 0, L, rest, hl, _ => by
    obtain rfl : L = [] := List.eq_nil_of_length_eq_zero hl
    rfl
  | n + 1, L, rest, hl, hw => by
    have hne : L ≠ [] := fun e => by rw [e] at hl; simp at hl
    obtain ⟨L', y, rfl⟩ : ∃ L' y, L = L' ++ [y] := ⟨L.dropLast, L.getLast hne, (List.dropLast_concat_getLast hne).symm⟩
    have h1 : L'.length = n := by rw [List.length_append] at hl; simpa using hl
    have h2 := rNums_app n L' (leI 8 y ++ rest) h1 (fun z hz => hw z (by simp [hz]))
    have e : (L' ++ [y]).flatMap (leI 8) ++ rest = L'.flatMap (leI 8) ++ (leI 8 y ++ rest) := by simp
    rw [e]
    unfold rNums
    rw [h2]
    dsimp only
    rw [rNum_int]
    dsimp only
    rw [toI_of (hw y (by simp))]
theorem rNums_back {s : RSt} : ∀ n, (rNums n s).2.2 = false → s = ((rNums n s).1.flatMap (leI 8) ++ (rNums n s).2.1, false)
  | 0, h => by
    obtain ⟨l, b⟩ := s
    have h : b = false := h
    subst h
    rfl
  | n + 1, h => by
    have h : (rNum (rNums n s).2 8).2.2 = false := h
    obtain ⟨h1, _⟩ := rNum_back 8 rfl (by omega) h
    have h2 : (rNums n s).2.2 = false := by rw [h1]
    have h3 := rNums_back n h2
    show s = (((rNums n s).1 ++ [toI (rNum (rNums n s).2 8).1]).flatMap (leI 8) ++ (rNum (rNums n s).2 8).2.1, false)
    rw [List.flatMap_append, List.flatMap_singleton, leI_toI, List.append_assoc]
    have h4 : (rNums n s).2.1 = leB 8 (rNum (rNums n s).2 8).1 ++ (rNum (rNums n s).2 8).2.1 := congrArg Prod.fst h1
    rw [← h4]
    exact h3
/-- An act's bytes behind its kind. -/
def tailB (k v u c : Bool) (x : SAct) : List (BitVec 8) := (if k then txt x.key else []) ++ ((if v then txt x.val else []) ++ ((if u then leI 8 x.num else []) ++ ((if c then leI 1 x.nums.length else []) ++ x.nums.flatMap (leI 8))))
theorem actB_tail (k v u c : Bool) (x : SAct) : actB k v u c x = leI 1 x.kind ++ tailB k v u c x := by
  unfold actB tailB
  simp only [List.append_assoc]
theorem rNum_one (n : Nat) (hn : n < 256) (rest : List (BitVec 8)) : rNum (leI 1 n ++ rest, false) 1 = (BitVec.ofNat 64 n, (rest, false)) := by
  have e : BitVec.ofInt 64 (n : Int) = BitVec.ofNat 64 n := by simp
  have h := rNum_app 1 rfl (by omega) (BitVec.ofNat 64 n) (by rw [BitVec.toNat_ofNat, Nat.mod_eq_of_lt (by omega)]; omega) rest
  unfold leI
  rw [e]
  exact h
theorem readS_app (k v u c : Bool) (l : Nat) (x : SAct) (hk : if k then x.key.length ≤ 65535 else x.key = []) (hv : if v then x.val.length ≤ 65535 else x.val = []) (hu : u = false → x.num = 0) (hc : c = false → x.nums.length = l) (hn : x.nums.length < 256) (hw : x.wf) (rest : List (BitVec 8)) :
    readS k v u c l x.kind (tailB k v u c x ++ rest, false) = (x, (rest, false)) := by
  obtain ⟨kind, key, val, num, nums⟩ := x
  obtain ⟨_, w1, w2⟩ := hw
  dsimp only at *
  unfold readS tailB
  dsimp only
  simp only [List.append_assoc]
  have ha : ∀ R, (if k then rTxt ((if k then txt key else []) ++ R, false) else ([], ((if k then txt key else []) ++ R, false))) = (key, ((R, false) : RSt)) := fun R => by
    cases k with
    | false => simp at hk; subst hk; rfl
    | true => simp at hk; simp only [if_true]; exact rTxt_app key R hk
  have hb : ∀ R, (if v then rTxt ((if v then txt val else []) ++ R, false) else ([], ((if v then txt val else []) ++ R, false))) = (val, ((R, false) : RSt)) := fun R => by
    cases v with
    | false => simp at hv; subst hv; rfl
    | true => simp at hv; simp only [if_true]; exact rTxt_app val R hv
  have hd : ∀ R, (if u then (toI (rNum ((if u then leI 8 num else []) ++ R, false) 8).1, (rNum ((if u then leI 8 num else []) ++ R, false) 8).2) else (0, ((if u then leI 8 num else []) ++ R, false))) = (num, ((R, false) : RSt)) := fun R => by
    cases u with
    | false => rw [hu rfl]; rfl
    | true => simp only [if_true]; rw [rNum_int]; dsimp only; rw [toI_of w1]
  have he : ∀ R, (if c then ((U (rNum ((if c then leI 1 nums.length else []) ++ R, false) 1).1).toNat, (rNum ((if c then leI 1 nums.length else []) ++ R, false) 1).2) else (l, ((if c then leI 1 nums.length else []) ++ R, false))) = (nums.length, ((R, false) : RSt)) := fun R => by
    cases c with
    | false => rw [hc rfl]; rfl
    | true =>
      simp only [if_true]
      rw [rNum_one _ hn]
      dsimp only
      congr 1
      unfold U
      rw [BitVec.toNat_ofNat]
      omega
  rw [ha]
  dsimp only
  rw [hb]
  dsimp only
  rw [hd]
  dsimp only
  rw [he]
  dsimp only
  rw [rNums_app _ nums rest rfl w2]
theorem bad_eta (s : RSt) (h : s.2 = false) : s = (s.1, false) := by
  obtain ⟨x, y⟩ := s
  cases h
  rfl
theorem toI_N64 (x : BitVec 64) : N64 (toI x) := by
  unfold toI wrap64 N64
  omega
theorem rNums_N64 (s : RSt) : ∀ n, ∀ y ∈ (rNums n s).1, N64 y
  | 0, _, h => by cases h
  | n + 1, y, h => by
    have h : y ∈ (rNums n s).1 ++ [toI (rNum (rNums n s).2 8).1] := h
    rcases List.mem_append.1 h with h | h
    · exact rNums_N64 s n y h
    · rw [List.mem_singleton.1 h]; exact toI_N64 _
theorem readS_back (k v u c : Bool) (l : Nat) (kind : Int) (s : RSt) (h : (readS k v u c l kind s).2.2 = false) :
    s = (tailB k v u c (readS k v u c l kind s).1 ++ (readS k v u c l kind s).2.1, false) := by
  obtain ⟨a, ha⟩ : ∃ a, (if k then rTxt s else (([], s) : List (BitVec 8) × RSt)) = a := ⟨_, rfl⟩
  obtain ⟨b, hb⟩ : ∃ b, (if v then rTxt a.2 else (([], a.2) : List (BitVec 8) × RSt)) = b := ⟨_, rfl⟩
  obtain ⟨d, hd⟩ : ∃ d, (if u then (toI (rNum b.2 8).1, (rNum b.2 8).2) else ((0, b.2) : Int × RSt)) = d := ⟨_, rfl⟩
  obtain ⟨n, hn⟩ : ∃ n, (if c then ((U (rNum d.2 1).1).toNat, (rNum d.2 1).2) else ((l, d.2) : Nat × RSt)) = n := ⟨_, rfl⟩
  have e : readS k v u c l kind s = (⟨kind, a.1, b.1, d.1, (rNums n.1 n.2).1⟩, (rNums n.1 n.2).2) := by
    unfold readS
    dsimp only
    rw [ha, hb, hd, hn]
  rw [e] at h ⊢
  dsimp only at h ⊢
  have h5 := rNums_back n.1 h
  have h6 : n.2.2 = false := by rw [h5]
  have h7 : n.2.1 = (rNums n.1 n.2).1.flatMap (leI 8) ++ (rNums n.1 n.2).2.1 := congrArg Prod.fst h5
  have g4 : d.2 = ((if c then leI 1 (rNums n.1 n.2).1.length else []) ++ n.2.1, false) := by
    cases c with
    | false =>
      have hn : (l, d.2) = n := hn
      rw [← hn] at h6 ⊢
      exact bad_eta d.2 h6
    | true =>
      have hn : ((U (rNum d.2 1).1).toNat, (rNum d.2 1).2) = n := hn
      have hn1 : (U (rNum d.2 1).1).toNat = n.1 := by rw [← hn]
      have hn2 : (rNum d.2 1).2 = n.2 := by rw [← hn]
      rw [rNums_size, ← hn1]
      rw [← hn2] at h6 ⊢
      obtain ⟨k1, _⟩ := rNum_back 1 rfl (by omega) h6
      have e1 : leI 1 (((U (rNum d.2 1).1).toNat : Nat) : Int) = leB 1 (rNum d.2 1).1 := by
        unfold leI
        have : BitVec.ofInt 64 (((U (rNum d.2 1).1).toNat : Nat) : Int) = (rNum d.2 1).1 := by unfold U; simp
        rw [this]
        rfl
      simp only [if_true]
      rw [e1]
      exact k1
  have g4b : d.2.2 = false := by rw [g4]
  have g3 : b.2 = ((if u then leI 8 d.1 else []) ++ d.2.1, false) := by
    cases u with
    | false =>
      have hd : (0, b.2) = d := hd
      rw [← hd] at g4b ⊢
      exact bad_eta b.2 g4b
    | true =>
      have hd : (toI (rNum b.2 8).1, (rNum b.2 8).2) = d := hd
      rw [← hd] at g4b ⊢
      obtain ⟨k1, _⟩ := rNum_back 8 rfl (by omega) g4b
      simp only [if_true]
      rw [leI_toI]
      exact k1
  have g3b : b.2.2 = false := by rw [g3]
  have g2 : a.2 = ((if v then txt b.1 else []) ++ b.2.1, false) := by
    cases v with
    | false =>
      have hb : ([], a.2) = b := hb
      rw [← hb] at g3b ⊢
      exact bad_eta a.2 g3b
    | true =>
      have hb : rTxt a.2 = b := hb
      rw [← hb] at g3b ⊢
      simp only [if_true]
      exact (rTxt_back g3b).1
  have g2b : a.2.2 = false := by rw [g2]
  have g1 : s = ((if k then txt a.1 else []) ++ a.2.1, false) := by
    cases k with
    | false =>
      have ha : ([], s) = a := ha
      rw [← ha] at g2b ⊢
      exact bad_eta s g2b
    | true =>
      have ha : rTxt s = a := ha
      rw [← ha] at g2b ⊢
      simp only [if_true]
      exact (rTxt_back g2b).1
  have f2 : a.2.1 = (if v then txt b.1 else []) ++ b.2.1 := congrArg Prod.fst g2
  have f3 : b.2.1 = (if u then leI 8 d.1 else []) ++ d.2.1 := congrArg Prod.fst g3
  have f4 : d.2.1 = (if c then leI 1 (rNums n.1 n.2).1.length else []) ++ n.2.1 := congrArg Prod.fst g4
  rw [g1, f2, f3, f4, h7]
  unfold tailB
  simp only [List.append_assoc]
end Go.Proofs.Ytgaabclgoolalaa
namespace Go.Proofs.Ytgaabclgoolalaa
open Go.RowKit

theorem kind_of (n : Nat) (hn : n < 256) : wrap64 (U (BitVec.ofNat 64 n)) = (n : Int) := by
  unfold U wrap64
  rw [BitVec.toNat_ofNat]
  omega
theorem actS_tail (x : SAct) : actS x = leI 1 x.kind ++ tailB (wk (kn x.kind)) (wv (kn x.kind)) (wu (kn x.kind)) (decide (wl (kn x.kind) < wm (kn x.kind))) x := actB_tail _ _ _ _ x
theorem wl_pos (n : Nat) : 0 ≤ wl n := by
  unfold wl
  split <;> decide
theorem actR_app (x : SAct) (hr : rightA x = true) (hw : x.wf) (rest : List (BitVec 8)) : actR (actS x ++ rest, false) = (x, (rest, false)) := by
  have hr0 := hr
  unfold rightA fitK fitB at hr
  simp only [Bool.and_eq_true, decide_eq_true_eq] at hr
  obtain ⟨h0, h1, h2, h3, h4, h5⟩ := hr
  have hk : x.kind = (kn x.kind : Int) := by
    rcases kn_is x.kind with ⟨_, e⟩ | ⟨e, _⟩
    · exact e
    · omega
  have hwm := wm_le (kn x.kind)
  have hwl := wl_pos (kn x.kind)
  have e1 : rNum (actS x ++ rest, false) 1 = (BitVec.ofNat 64 (kn x.kind), (tailB (wk (kn x.kind)) (wv (kn x.kind)) (wu (kn x.kind)) (decide (wl (kn x.kind) < wm (kn x.kind))) x ++ rest, false)) := by
    rw [actS_tail, List.append_assoc]
    conv => lhs; rw [show leI 1 x.kind = leI 1 (kn x.kind : Nat) from by rw [← hk]]
    exact rNum_one _ (by omega) _
  unfold actR
  rw [e1]
  dsimp only
  rw [kind_of _ (by omega), ← hk]
  unfold readK
  refine readS_app _ _ _ _ _ x ?_ ?_ ?_ ?_ (by omega) hw rest
  · unfold fitT at h1
    cases hq : wk (kn x.kind) with
    | true => rw [hq] at h1; simpa using h1
    | false => rw [hq] at h1; simpa using h1
  · unfold fitT at h2
    cases hq : wv (kn x.kind) with
    | true => rw [hq] at h2; simpa using h2
    | false => rw [hq] at h2; simpa using h2
  · intro e
    rw [e] at h3
    simpa using h3
  · intro e
    have e : ¬ wl (kn x.kind) < wm (kn x.kind) := of_decide_eq_false e
    omega
theorem actOk_app (x : SAct) (hr : rightA x = true) (hw : x.wf) (rest : List (BitVec 8)) : actOk (actS x ++ rest, false) = true := by
  unfold actOk
  rw [actR_app x hr hw rest]
  simp [hr]
theorem readS_kind (k v u c : Bool) (l : Nat) (kind : Int) (s : RSt) : (readS k v u c l kind s).1.kind = kind := rfl
theorem readS_wf (k v u c : Bool) (l : Nat) (kind : Int) (s : RSt) (h : N64 kind) : (readS k v u c l kind s).1.wf := by
  refine ⟨h, ?_, fun y hy => rNums_N64 _ _ y hy⟩
  unfold readS
  dsimp only
  cases u with
  | true => exact toI_N64 _
  | false =>
    show N64 0
    exact ⟨by decide, by decide⟩
theorem actOk_back (s : RSt) (h : actOk s = true) : s = (actS (actR s).1 ++ (actR s).2.1, false) ∧ rightA (actR s).1 = true ∧ (actR s).1.wf ∧ (actR s).2.2 = false := by
  unfold actOk at h
  rw [Bool.and_eq_true] at h
  obtain ⟨h1, h2⟩ := h
  have h1 : (actR s).2.2 = false := by simpa using h1
  have hk : (actR s).1.kind = toI (rNum s 1).1 := rfl
  have hw : (actR s).1.wf := readS_wf _ _ _ _ _ _ _ (toI_N64 _)
  have hb := readS_back _ _ _ _ _ _ (rNum s 1).2 h1
  have hb2 : (rNum s 1).2.2 = false := by rw [hb]
  obtain ⟨k1, k2⟩ := rNum_back 1 rfl (by omega) hb2
  refine ⟨?_, h2, hw, h1⟩
  have e1 : leI 1 (actR s).1.kind = leB 1 (rNum s 1).1 := by
    rw [hk]
    unfold leI
    rw [of_toI]
    rfl
  have e2 : (rNum s 1).2.1 = tailB (wk (kn (actR s).1.kind)) (wv (kn (actR s).1.kind)) (wu (kn (actR s).1.kind)) (decide (wl (kn (actR s).1.kind) < wm (kn (actR s).1.kind))) (actR s).1 ++ (actR s).2.1 := congrArg Prod.fst hb
  rw [actS_tail, e1, List.append_assoc, ← e2]
  exact k1
theorem actsR_app : ∀ (n : Nat) (L : List SAct) (rest : List (BitVec 8)), L.length = n → (∀ x ∈ L, rightA x = true ∧ x.wf) → actsR n (L.flatMap actS ++ rest, false) = some (L, (rest, false))
  | 0, L, rest, hl, _ => by
    obtain rfl : L = [] := List.eq_nil_of_length_eq_zero hl
    rfl
  | n + 1, [], _, hl, _ => by simp at hl
  | n + 1, x :: L, rest, hl, hw => by
    have hx := hw x (by simp)
    have ih := actsR_app n L rest (by simpa using hl) (fun y hy => hw y (by simp [hy]))
    rw [List.flatMap_cons, List.append_assoc]
    unfold actsR
    rw [if_pos (actOk_app x hx.1 hx.2 _), actR_app x hx.1 hx.2]
    dsimp only
    rw [ih]
    rfl
theorem actsR_back : ∀ (n : Nat) (s : RSt) (l : List SAct) (s' : RSt), s.2 = false → actsR n s = some (l, s') → s = (l.flatMap actS ++ s'.1, false) ∧ s'.2 = false ∧ l.length = n ∧ ∀ x ∈ l, rightA x = true ∧ x.wf
  | 0, s, l, s', hb, h => by
    unfold actsR at h
    cases h
    exact ⟨bad_eta s hb, hb, rfl, fun _ h => by cases h⟩
  | n + 1, s, l, s', hb, h => by
    unfold actsR at h
    by_cases hok : actOk s = true
    · rw [if_pos hok] at h
      obtain ⟨k1, k2, k3, k4⟩ := actOk_back s hok
      cases hq : actsR n (actR s).2 with
      | none => rw [hq] at h; cases h
      | some p =>
        rw [hq] at h
        obtain ⟨l1, s1⟩ := p
        have h : some ((actR s).1 :: l1, s1) = some (l, s') := h
        cases h
        obtain ⟨i1, i2, i3, i4⟩ := actsR_back n _ _ _ k4 hq
        have i5 : (actR s).2.1 = l1.flatMap actS ++ s'.1 := congrArg Prod.fst i1
        refine ⟨?_, i2, by simp [i3], fun x hx => ?_⟩
        · rw [List.flatMap_cons, List.append_assoc, ← i5]
          exact k1
        · rcases List.mem_cons.1 hx with rfl | hx
          · exact ⟨k2, k3⟩
          · exact i4 x hx
    · rw [if_neg hok] at h
      cases h
theorem four_toNat (n : Nat) (h : n ≤ 65536) : U (BitVec.ofNat 64 n) = (n : Int) := by
  unfold U
  rw [BitVec.toNat_ofNat]
  omega
theorem four_app (n : Nat) (h : n ≤ 65536) (rest : List (BitVec 8)) : rNum (leI 4 n ++ rest, false) 4 = (BitVec.ofNat 64 n, (rest, false)) := by
  have e : BitVec.ofInt 64 (n : Int) = BitVec.ofNat 64 n := by simp
  have h := rNum_app 4 rfl (by omega) (BitVec.ofNat 64 n) (by rw [BitVec.toNat_ofNat]; omega) rest
  unfold leI
  rw [e]
  exact h
/-- What is right is read again, whatever lies behind. -/
theorem unpS_app (l : List SAct) (hl : l.length ≤ 65536) (hw : ∀ x ∈ l, rightA x = true ∧ x.wf) (rest : List (BitVec 8)) : unpS (leI 4 l.length ++ l.flatMap actS ++ rest) = if rest.length = 0 then (l, 0) else ([], 5) := by
  have h := four_app l.length hl (l.flatMap actS ++ rest)
  unfold unpS
  rw [List.append_assoc, h]
  dsimp only
  rw [four_toNat _ hl, if_neg (by omega), if_neg (by simp)]
  simp only [Int.toNat_natCast]
  rw [actsR_app _ l rest rfl hw]
/-- What is read is what would be written of it. -/
theorem unpS_back (bs : List (BitVec 8)) (l : List SAct) (h : unpS bs = (l, 0)) : bs = leI 4 l.length ++ l.flatMap actS ∧ l.length ≤ 65536 ∧ ∀ x ∈ l, rightA x = true ∧ x.wf := by
  unfold unpS at h
  by_cases h1 : 65536 < U (rNum (bs, false) 4).1
  · rw [if_pos h1] at h; cases h
  · rw [if_neg h1] at h
    by_cases h2 : (rNum (bs, false) 4).2.2 = true
    · rw [if_pos h2] at h; cases h
    · rw [if_neg h2] at h
      have h2 : (rNum (bs, false) 4).2.2 = false := by simpa using h2
      obtain ⟨k1, _⟩ := rNum_back 4 rfl (by omega) h2
      cases hq : actsR (U (rNum (bs, false) 4).1).toNat (rNum (bs, false) 4).2 with
      | none => rw [hq] at h; cases h
      | some p =>
        rw [hq] at h
        obtain ⟨l1, s1⟩ := p
        dsimp only at h
        by_cases h3 : s1.1.length = 0
        · rw [if_pos h3] at h
          cases h
          obtain ⟨i1, _, i3, i4⟩ := actsR_back _ _ _ _ h2 hq
          have hu := U_nonneg (rNum (bs, false) 4).1
          have i5 : (rNum (bs, false) 4).2.1 = l.flatMap actS ++ s1.1 := congrArg Prod.fst i1
          rw [List.eq_nil_of_length_eq_zero h3, List.append_nil] at i5
          refine ⟨?_, by omega, i4⟩
          have e1 : leI 4 l.length = leB 4 (rNum (bs, false) 4).1 := by
            unfold leI
            have : BitVec.ofInt 64 (l.length : Int) = (rNum (bs, false) 4).1 := by
              rw [i3]
              unfold U
              simp
            rw [this]
            rfl
          have k2 : bs = leB 4 (rNum (bs, false) 4).1 ++ (rNum (bs, false) 4).2.1 := congrArg Prod.fst k1
          rw [e1, ← i5]
          exact k2
        · rw [if_neg h3] at h; cases h
theorem packE_all {l : List SAct} (h : packE l = 0) : l.length ≤ 65536 ∧ ∀ x ∈ l, rightA x = true := by
  unfold packE at h
  by_cases h1 : 65536 < l.length
  · rw [if_pos h1] at h; cases h
  · rw [if_neg h1] at h
    by_cases h2 : l.all rightA = true
    · exact ⟨by omega, fun x hx => List.all_eq_true.1 h2 x hx⟩
    · rw [if_neg h2] at h; cases h
theorem packS_of {l : List SAct} (h : packE l = 0) : packS l = leI 4 l.length ++ l.flatMap actS := by
  unfold packS
  rw [if_pos h]
/-- A script comes back of its bytes. -/
theorem unpS_pack (l : List SAct) (h : packE l = 0) (hw : ∀ x ∈ l, x.wf) : unpS (packS l) = (l, 0) := by
  obtain ⟨h1, h2⟩ := packE_all h
  have := unpS_app l h1 (fun x hx => ⟨h2 x hx, hw x hx⟩) []
  rw [packS_of h]
  simpa using this
/-- With more behind it is none. -/
theorem unpS_more (l : List SAct) (h : packE l = 0) (hw : ∀ x ∈ l, x.wf) (rest : List (BitVec 8)) (hr : rest ≠ []) : unpS (packS l ++ rest) = ([], 5) := by
  obtain ⟨h1, h2⟩ := packE_all h
  rw [packS_of h, unpS_app l h1 (fun x hx => ⟨h2 x hx, hw x hx⟩) rest, if_neg (fun e => hr (List.eq_nil_of_length_eq_zero e))]
/-- What is read as a script is the bytes of it. -/
theorem unpS_again (bs : List (BitVec 8)) (l : List SAct) (h : unpS bs = (l, 0)) : packE l = 0 ∧ packS l = bs := by
  obtain ⟨h1, h2, h3⟩ := unpS_back bs l h
  have hp : packE l = 0 := by
    unfold packE
    rw [if_neg (by omega), if_pos (List.all_eq_true.2 fun x hx => (h3 x hx).1)]
  exact ⟨hp, by rw [packS_of hp, ← h1]⟩
theorem unpS_code (bs : List (BitVec 8)) : (∃ l, unpS bs = (l, 0)) ∨ unpS bs = ([], 5) ∨ (unpS bs = ([], 9) ∧ 65536 < U (rNum (bs, false) 4).1) := by
  unfold unpS
  by_cases h1 : 65536 < U (rNum (bs, false) 4).1
  · rw [if_pos h1]; exact .inr (.inr ⟨rfl, h1⟩)
  · rw [if_neg h1]
    by_cases h2 : (rNum (bs, false) 4).2.2 = true
    · rw [if_pos h2]; exact .inr (.inl rfl)
    · rw [if_neg h2]
      cases hq : actsR (U (rNum (bs, false) 4).1).toNat (rNum (bs, false) 4).2 with
      | none => exact .inr (.inl rfl)
      | some p =>
        dsimp only
        by_cases h3 : p.2.1.length = 0
        · rw [if_pos h3]; exact .inl ⟨_, rfl⟩
        · rw [if_neg h3]; exact .inr (.inl rfl)
/-- A part of it is none. -/
theorem unpS_cut (l : List SAct) (h : packE l = 0) (hw : ∀ x ∈ l, x.wf) (k : Nat) (hk : k < (packS l).length) : unpS ((packS l).take k) = ([], 5) := by
  rcases unpS_code ((packS l).take k) with ⟨l1, h1⟩ | h1 | ⟨_, h1⟩
  · exfalso
    obtain ⟨k1, k2⟩ := unpS_again _ _ h1
    obtain ⟨_, _, k3⟩ := unpS_back _ _ h1
    have hne : (packS l).drop k ≠ [] := fun e => by
      have := congrArg List.length e
      rw [List.length_drop] at this
      simp at this
      omega
    have h2 := unpS_more l1 k1 (fun x hx => (k3 x hx).2) ((packS l).drop k) hne
    rw [k2, List.take_append_drop, unpS_pack l h hw] at h2
    cases h2
  · exact h1
  · exfalso
    obtain ⟨h2, _⟩ := packE_all h
    by_cases h4 : 4 ≤ k
    · have e : (packS l).take k = leI 4 l.length ++ (l.flatMap actS).take (k - 4) := by
        rw [packS_of h, List.take_append, leI_len]
        rw [List.take_of_length_le (by rw [leI_len]; exact h4)]
        rfl
      rw [e, four_app _ h2] at h1
      dsimp only at h1
      rw [four_toNat _ h2] at h1
      omega
    · have ht : tookN ((packS l).take k) (mayB 4) 4 = none := by
        unfold tookN
        rw [if_neg (by rw [List.length_take]; omega)]
      unfold rNum rdN at h1
      dsimp only at h1
      rw [ht] at h1
      have h1 : (65536 : Int) < U (leOf []) := h1
      revert h1
      decide
end Go.Proofs.Ytgaabclgoolalaa

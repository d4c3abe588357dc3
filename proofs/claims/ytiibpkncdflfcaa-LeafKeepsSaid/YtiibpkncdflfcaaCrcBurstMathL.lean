/-
  Plain mathematics: rows of bytes that differ within 32 bits in a row have checks that differ; the check is linear but for what noughts have.
  Conditions: none.
-/
import Derived.Test.YtiibpkncdflfcaaCrcLinear
import Derived.Test.YtiibpkncdflfcaaJC
namespace Go.Proofs.Ytiibpkncdflfcaa.Crc
open Go.RowKit

theorem dn_shl (z : BitVec 32) (h : z.getLsbD 31 = false) : dn (z <<< 1) = z := by
  rw [dn_eq]
  have h0 : (z <<< 1).getLsbD 0 = false := by simp
  rw [h0]
  show z <<< 1 >>> 1 ^^^ 0#32 = z
  rw [BitVec.xor_zero]
  apply BitVec.eq_of_getLsbD_eq
  intro i hi
  rw [BitVec.getLsbD_ushiftRight, BitVec.getLsbD_shiftLeft]
  by_cases h31 : i = 31
  · subst h31; rw [h]; simp
  · have e1 : decide (1 + i < 32) = true := by simp; omega
    have e2 : decide (1 + i < 1) = false := by simp
    rw [e1, e2, Nat.add_sub_cancel_left]
    simp

theorem dnN_shl : ∀ (k : Nat) (y : BitVec 32), k ≤ 32 → (∀ i, 32 - k ≤ i → y.getLsbD i = false) → dnN k (y <<< k) = y
  | 0, y, _, _ => by simp [dnN]
  | k + 1, y, hk, hy => by
    rw [dnN, BitVec.shiftLeft_add, dn_shl, dnN_shl k y (by omega) (fun i hi => hy i (by omega))]
    rw [BitVec.getLsbD_shiftLeft]
    by_cases h : 31 < k
    · simp [h]
    · rw [hy (31 - k) (by omega)]; simp

theorem stepB_eq (s : BitVec 32) (b : BitVec 8) : stepB s b = dnN 8 (s ^^^ b.setWidth 32) := by
  have e : s ^^^ b.setWidth 32 = ((s >>> 8) <<< 8) ^^^ (s.setWidth 8 ^^^ b).setWidth 32 := by
    apply BitVec.eq_of_getLsbD_eq
    intro i hi
    simp only [BitVec.getLsbD_xor, BitVec.getLsbD_shiftLeft, BitVec.getLsbD_ushiftRight, BitVec.getLsbD_setWidth]
    by_cases h : i < 8
    · simp [h, hi]
    · have hb : b.getLsbD i = false := BitVec.getLsbD_of_ge b i (by omega)
      have e8 : 8 + (i - 8) = i := by omega
      simp [h, hi, hb, e8]
  rw [e, dnN_xor]
  unfold stepB
  have h8 : dnN 8 ((s >>> 8) <<< 8) = s >>> 8 := dnN_shl 8 _ (by omega) (fun i hi => by
    rw [BitVec.getLsbD_ushiftRight]
    exact BitVec.getLsbD_of_ge s _ (by omega))
  rw [h8]
  rfl

theorem stepB_xor (s t : BitVec 32) (b c : BitVec 8) : stepB (s ^^^ t) (b ^^^ c) = stepB s b ^^^ stepB t c := by
  rw [stepB_eq, stepB_eq, stepB_eq, BitVec.setWidth_xor, ← dnN_xor]
  congr 1
  exact (xor_four _ _ _ _)

theorem runB_xor : ∀ (xs ys : List (BitVec 8)) (s t : BitVec 32), xs.length = ys.length → runB (s ^^^ t) (List.zipWith (· ^^^ ·) xs ys) = runB s xs ^^^ runB t ys
  | [], [], s, t, _ => rfl
  | x :: xs, y :: ys, s, t, h => by
    show runB (stepB (s ^^^ t) (x ^^^ y)) (List.zipWith (· ^^^ ·) xs ys) = runB (stepB s x) xs ^^^ runB (stepB t y) ys
    rw [stepB_xor, runB_xor xs ys _ _ (by simpa using h)]
  | [], y :: ys, _, _, h => by simp at h
  | x :: xs, [], _, _, h => by simp at h

/-- A bit as a word. -/
def bw (b : Bool) : BitVec 32 := bif b then 1#32 else 0#32
/-- Bit by bit. -/
def proc (s : BitVec 32) (l : List Bool) : BitVec 32 := l.foldl (fun s b => dn (s ^^^ bw b)) s
/-- Bits as a word. -/
def wordOf : List Bool → BitVec 32
  | [] => 0#32
  | b :: l => (wordOf l <<< 1) ^^^ bw b
theorem bw_high (b : Bool) (i : Nat) (h : 1 ≤ i) : (bw b).getLsbD i = false := by
  cases b
  · simp [bw]
  · simp [bw]; omega
theorem wordOf_high : ∀ (l : List Bool) (i : Nat), l.length ≤ i → (wordOf l).getLsbD i = false
  | [], i, _ => by simp [wordOf]
  | b :: l, i, h => by
    have h' : l.length + 1 ≤ i := by simpa using h
    rw [wordOf, BitVec.getLsbD_xor, BitVec.getLsbD_shiftLeft, bw_high b i (by omega), wordOf_high l (i - 1) (by omega)]
    simp
theorem proc_word : ∀ (l : List Bool) (s : BitVec 32), l.length ≤ 32 → proc s l = dnN l.length (s ^^^ wordOf l)
  | [], s, _ => by simp [proc, dnN, wordOf]
  | b :: l, s, h => by
    have h' : l.length ≤ 31 := by simpa using h
    show proc (dn (s ^^^ bw b)) l = dnN l.length (dn (s ^^^ ((wordOf l <<< 1) ^^^ bw b)))
    rw [proc_word l _ (by omega)]
    congr 1
    have e : s ^^^ ((wordOf l <<< 1) ^^^ bw b) = (s ^^^ bw b) ^^^ (wordOf l <<< 1) := by
      rw [BitVec.xor_comm (wordOf l <<< 1), ← BitVec.xor_assoc]
    rw [e, dn_xor (s ^^^ bw b) (wordOf l <<< 1), dn_shl _ (wordOf_high l 31 h')]
theorem wordOf_zero : ∀ (l : List Bool), l.length ≤ 32 → wordOf l = 0#32 → ∀ b ∈ l, b = false
  | [], _, _ => by simp
  | b :: l, h, hz => by
    have h' : l.length ≤ 31 := by simpa using h
    have hb : b = false := by
      have := congrArg (fun y => y.getLsbD 0) hz
      rw [wordOf] at this
      cases b
      · rfl
      · simp [bw] at this
    subst hb
    have hl : wordOf l <<< 1 = 0#32 := by
      rw [wordOf] at hz
      have : (wordOf l <<< 1) ^^^ 0#32 = 0#32 := hz
      rwa [BitVec.xor_zero] at this
    have hw : wordOf l = 0#32 := by
      have := dn_shl (wordOf l) (wordOf_high l 31 h')
      rw [hl] at this
      rw [← this]; decide
    intro c hc
    rcases List.mem_cons.1 hc with rfl | hc
    · rfl
    · exact wordOf_zero l (by omega) hw c hc
theorem proc_append (s : BitVec 32) (l m : List Bool) : proc s (l ++ m) = proc (proc s l) m := by simp [proc]
theorem proc_false : ∀ (l : List Bool) (s : BitVec 32), (∀ b ∈ l, b = false) → proc s l = dnN l.length s
  | [], s, _ => rfl
  | b :: l, s, h => by
    obtain rfl : b = false := h b (by simp)
    show proc (dn (s ^^^ 0#32)) l = dnN l.length (dn s)
    rw [BitVec.xor_zero, proc_false l _ (fun c hc => h c (by simp [hc]))]
/-- Bits that stand within 32 in a row leave something behind, wherever. -/
theorem proc_burst (l : List Bool) (k : Nat) (hl : ∀ p (hp : p < l.length), l[p] = true → k ≤ p ∧ p < k + 32) (hz : proc 0#32 l = 0#32) : ∀ b ∈ l, b = false := by
  have e : l = l.take k ++ ((l.drop k).take 32 ++ (l.drop k).drop 32) := by rw [List.take_append_drop, List.take_append_drop]
  have f1 : ∀ b ∈ l.take k, b = false := by
    intro b hb
    obtain ⟨i, hi, rfl⟩ := List.mem_iff_getElem.1 hb
    rw [List.length_take] at hi
    rw [List.getElem_take]
    cases hv : l[i] with
    | false => rfl
    | true => have := hl i (by omega) hv; omega
  have f3 : ∀ b ∈ (l.drop k).drop 32, b = false := by
    intro b hb
    obtain ⟨i, hi, rfl⟩ := List.mem_iff_getElem.1 hb
    rw [List.length_drop, List.length_drop] at hi
    rw [List.getElem_drop, List.getElem_drop]
    cases hv : l[k + (32 + i)]'(by omega) with
    | false => rfl
    | true => have := hl (k + (32 + i)) (by omega) hv; omega
  have hlen : ((l.drop k).take 32).length ≤ 32 := by rw [List.length_take]; omega
  have f2 : ∀ b ∈ (l.drop k).take 32, b = false := by
    rw [e, proc_append, proc_append, proc_false _ _ f1, proc_false _ _ f3, dnN_of_zero] at hz
    have := dnN_zero _ _ hz
    rw [proc_word _ _ hlen, BitVec.zero_xor] at this
    exact wordOf_zero _ hlen (dnN_zero _ _ this)
  intro b hb
  rw [e] at hb
  rcases List.mem_append.1 hb with hb | hb
  · exact f1 b hb
  · rcases List.mem_append.1 hb with hb | hb
    · exact f2 b hb
    · exact f3 b hb

/-- The bits of a byte, the lowest first. -/
def byteBits (b : BitVec 8) : List Bool := (List.range 8).map b.getLsbD
theorem byteWord (b : BitVec 8) : wordOf (byteBits b) = b.setWidth 32 := by
  have h : ∀ i < 256, wordOf (byteBits (BitVec.ofNat 8 i)) = (BitVec.ofNat 8 i).setWidth 32 := by decide +kernel
  have := h b.toNat b.isLt
  rwa [BitVec.ofNat_toNat, BitVec.setWidth_eq] at this
theorem proc_byte (s : BitVec 32) (b : BitVec 8) : proc s (byteBits b) = stepB s b := by
  rw [proc_word _ _ (by simp [byteBits]), byteWord, stepB_eq]
  simp [byteBits]
theorem runB_bits : ∀ (bs : List (BitVec 8)) (s : BitVec 32), runB s bs = proc s (bs.flatMap byteBits)
  | [], s => rfl
  | b :: bs, s => by
    rw [List.flatMap_cons, proc_append, proc_byte, ← runB_bits bs]
    rfl
theorem bits_at : ∀ (bs : List (BitVec 8)) (p : Nat) (hp : p < (bs.flatMap byteBits).length), (bs.flatMap byteBits)[p] = (bs[p / 8]?.getD 0).getLsbD (p % 8)
  | [], p, hp => by simp at hp
  | b :: bs, p, hp => by
    have h8 : (byteBits b).length = 8 := by simp [byteBits]
    by_cases h : p < 8
    · have e : ((b :: bs).flatMap byteBits)[p] = (byteBits b)[p]'(by omega) := by
        simp only [List.flatMap_cons]
        rw [List.getElem_append_left]
      rw [e, Nat.div_eq_of_lt h, Nat.mod_eq_of_lt h]
      simp [byteBits]
    · have hp2 : p - 8 < (bs.flatMap byteBits).length := by
        simp only [List.flatMap_cons, List.length_append, h8] at hp
        omega
      have e : ((b :: bs).flatMap byteBits)[p] = (bs.flatMap byteBits)[p - 8] := by
        simp only [List.flatMap_cons]
        rw [List.getElem_append_right (by omega)]
        simp only [h8]
      have ed : p / 8 = (p - 8) / 8 + 1 := by omega
      have em : p % 8 = (p - 8) % 8 := by omega
      rw [e, bits_at bs (p - 8) hp2, ed, em]
      simp
theorem bits_len (bs : List (BitVec 8)) : (bs.flatMap byteBits).length = 8 * bs.length := by
  induction bs with
  | nil => rfl
  | cons b bs ih => simp only [List.flatMap_cons, List.length_append, ih, List.length_cons, byteBits, List.length_map, List.length_range]; omega

/-- Rows of bytes that differ within 32 bits in a row alone, and have one check, are one. -/
theorem burst_same (bs cs : List (BitVec 8)) (k : Nat) (s : BitVec 32) (hlen : cs.length = bs.length)
    (hd : ∀ p, p < 8 * bs.length → ((cs[p / 8]?.getD 0) ^^^ (bs[p / 8]?.getD 0)).getLsbD (p % 8) = true → k ≤ p ∧ p < k + 32) (h : crcAdd s cs = crcAdd s bs) : cs = bs := by
  have h1 : runB (~~~ s) cs = runB (~~~ s) bs := by
    unfold crcAdd at h
    have := congrArg (fun y => ~~~ y) h
    simpa using this
  have h2 := runB_xor cs bs (~~~ s) (~~~ s) hlen
  rw [h1, BitVec.xor_self, BitVec.xor_self, runB_bits] at h2
  have hzl : (List.zipWith (· ^^^ ·) cs bs).length = bs.length := by simp [hlen]
  have hget : ∀ j, j < bs.length → (List.zipWith (· ^^^ ·) cs bs)[j]?.getD 0 = (cs[j]?.getD 0) ^^^ (bs[j]?.getD 0) := by
    intro j hj
    have hj2 : j < cs.length := by omega
    rw [List.getElem?_zipWith]
    simp [hj, hj2]
  have hall := proc_burst _ k (fun p hp hb => by
    have hp2 := hp
    rw [bits_len, hzl] at hp2
    rw [bits_at _ p hp, hget _ (by omega)] at hb
    exact hd p hp2 hb) h2
  apply List.ext_getElem hlen
  intro j h3 h4
  apply xor_eq_zero
  apply BitVec.eq_of_getLsbD_eq
  intro t ht
  have hp : 8 * j + t < ((List.zipWith (· ^^^ ·) cs bs).flatMap byteBits).length := by rw [bits_len, hzl]; omega
  have := hall _ (List.getElem_mem hp)
  rw [bits_at, show (8 * j + t) / 8 = j by omega, show (8 * j + t) % 8 = t by omega, hget j h4] at this
  simp [h3, h4] at this
  simpa using this

end Go.Proofs.Ytiibpkncdflfcaa.Crc

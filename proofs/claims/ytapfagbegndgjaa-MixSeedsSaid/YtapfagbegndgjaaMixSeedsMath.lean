/-
  Plain mathematics of a key's number: of one key no two seeds have one number; keys that part in their last byte alone have two.
  Conditions: none.
-/
import Derived.Test.YtapfagbegndgjaaMixHashM
import Derived.Test.YtapfagbegndgjaaScrInj
namespace Go.Proofs.Ytapfagbegndgjaa
open Go.RowKit

theorem hashBack (x : BitVec 64) : x * BitVec.ofInt 64 1099511628211 * BitVec.ofInt 64 14886173955864302971 = x := by
  rw [BitVec.mul_assoc, show BitVec.ofInt 64 1099511628211 * BitVec.ofInt 64 14886173955864302971 = 1#64 by decide, BitVec.mul_one]
theorem mulHash_inj {x y : BitVec 64} (h : x * BitVec.ofInt 64 1099511628211 = y * BitVec.ofInt 64 1099511628211) : x = y := by
  rw [← hashBack x, h, hashBack]
theorem xor_right_inj64 {x y z : BitVec 64} (h : x ^^^ z = y ^^^ z) : x = y := by
  have := congrArg (· ^^^ z) h
  simpa [BitVec.xor_assoc] using this
theorem xor_left_inj64 {x y z : BitVec 64} (h : z ^^^ x = z ^^^ y) : x = y := by
  rw [BitVec.xor_comm z x, BitVec.xor_comm z y] at h
  exact xor_right_inj64 h
theorem hashStep_seed {q r : BitVec 64} {b : BitVec 8} (h : hashStep q b = hashStep r b) : q = r := xor_right_inj64 (mulHash_inj h)
theorem hashStep_byte {q : BitVec 64} {b c : BitVec 8} (h : hashStep q b = hashStep q c) : b = c := by
  have h1 : b.setWidth 64 = c.setWidth 64 := xor_left_inj64 (mulHash_inj h)
  have h2 := congrArg (fun y => BitVec.setWidth 8 y) h1
  simpa using h2
theorem hashRun_seed : ∀ (key : List (BitVec 8)) {q r : BitVec 64}, hashRun q key = hashRun r key → q = r
  | [], _, _, h => h
  | b :: key, q, r, h => hashStep_seed (hashRun_seed key (q := hashStep q b) (r := hashStep r b) h)
theorem add_right_inj64 {x y z : BitVec 64} (h : x + z = y + z) : x = y := by
  have := congrArg (· - z) h
  simpa using this
theorem hash_seed (a b : BitVec 64) (key : List (BitVec 8)) : hash a key = hash b key ↔ a = b := by
  refine ⟨fun h => ?_, fun h => by rw [h]⟩
  unfold hash at h
  exact xor_right_inj64 (hashRun_seed key (add_right_inj64 ((scr_inj _ _).1 h)))
theorem hash_last (a : BitVec 64) (key : List (BitVec 8)) (b c : BitVec 8) : hash a (key ++ [b]) = hash a (key ++ [c]) ↔ b = c := by
  refine ⟨fun h => ?_, fun h => by rw [h]⟩
  unfold hash at h
  rw [hashRun_snoc, hashRun_snoc, List.length_append, List.length_append] at h
  exact hashStep_byte (add_right_inj64 ((scr_inj _ _).1 h))

end Go.Proofs.Ytapfagbegndgjaa

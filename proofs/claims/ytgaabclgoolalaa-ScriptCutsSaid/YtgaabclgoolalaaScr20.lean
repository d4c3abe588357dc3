/-
  script's read, of any kind; what Unpack reads.
  Conditions: none.
-/
import Derived.Test.YtgaabclgoolalaaScr19
namespace Go.Proofs.Ytgaabclgoolalaa
open Go.RowKit
attribute [local go_sem] Oper.semAt_some

/-- What is read of an act of such a kind. -/
def readK (kind : Int) (s : RSt) : SAct × RSt := readS (wk (kn kind)) (wv (kn kind)) (wu (kn kind)) (decide (wl (kn kind) < wm (kn kind))) (wl (kn kind)).toNat kind s
set_option maxRecDepth 100000 in
theorem read_any (kind : Int) {n₀ R : Nat} {s : RSt} {w : World} (h : ReadB n₀ R s w) (hn : n₀ ≤ w.heap.size) (hl : s.1.length ≤ 1099511627776) :
    Calls Try.prog 34 #[whatV (kn kind), .pointer (some ⟨R, 0, none⟩), .int .i64 kind] w (ReadRet n₀ R (readK kind s).1 (readK kind s).2 w) := by
  unfold readK
  have h0 := kn_le kind
  generalize kn kind = n at h0 ⊢
  have h9 : n = 0 ∨ n = 1 ∨ n = 2 ∨ n = 3 ∨ n = 4 ∨ n = 5 ∨ n = 6 ∨ n = 7 ∨ n = 8 ∨ n = 9 ∨ n = 10 := by omega
  rcases h9 with rfl | rfl | rfl | rfl | rfl | rfl | rfl | rfl | rfl | rfl | rfl
  · exact read_key _ kind h hn hl
  · exact read_set _ kind h hn hl
  · exact read_key _ kind h hn hl
  · exact read_none _ kind h hn hl
  · exact read_none _ kind h hn hl
  · exact read_num _ kind h hn hl
  · exact read_num _ kind h hn hl
  · exact read_many _ kind h hn hl
  · exact read_rot _ kind h hn hl
  · exact read_none _ kind h hn hl
  · exact read_none _ kind h hn hl
/-- One act that is read: its kind's number, then the rest. -/
def actR (s : RSt) : SAct × RSt := readK (wrap64 (U (rNum s 1).1)) (rNum s 1).2
/-- May it be one? -/
def actOk (s : RSt) : Bool := !(actR s).2.2 && rightA (actR s).1
/-- So many acts are read; none, if one of them is none. -/
def actsR : Nat → RSt → Option (List SAct × RSt)
  | 0, s => some ([], s)
  | n + 1, s => if actOk s then (actsR n (actR s).2).map fun p => ((actR s).1 :: p.1, p.2) else none
/-- What Unpack answers. -/
def unpS (bs : List (BitVec 8)) : List SAct × Int :=
  if 65536 < U (rNum (bs, false) 4).1 then ([], 9) else
  if (rNum (bs, false) 4).2.2 then ([], 5) else
  match actsR (U (rNum (bs, false) 4).1).toNat (rNum (bs, false) 4).2 with
  | none => ([], 5)
  | some (l, s) => if s.1.length = 0 then (l, 0) else ([], 5)
end Go.Proofs.Ytgaabclgoolalaa

/-
  bucket: reading: a reader's numbers, loc.Read.
  Conditions: none.
-/
import Derived.Test.YtpihncafmjbccaaBkt12
import Derived.Test.YtpihncafmjbccaaAppEnts
import Derived.Test.YtpihncafmjbccaaJW
namespace Go.Proofs.Ytpihncafmjbccaa
open Go.RowKit
attribute [local go_sem] Oper.semAt_some

theorem rd_enough {left : List (BitVec 8)} {k : Nat} (hk : mayB k = true) (h : k ≤ left.length) : rdN left k = leOf (left.take k) ∧ rdL left k = left.drop k := by
  unfold rdN rdL
  have e : tookN left (mayB (k : Int)) (k : Int) = some k := by
    unfold tookN
    rw [if_pos ⟨hk, by omega, by omega⟩, Int.toNat_natCast]
  rw [e]
  exact ⟨rfl, rfl⟩
/-- The numbers of a location's bytes. -/
def locR (b : List (BitVec 8)) : Int := wrap64 (U (leOf (b.take 8)))
def locA (b : List (BitVec 8)) : Int := wrap64 (U (leOf ((b.drop 8).take 2)))
def locS (b : List (BitVec 8)) : Int := wrap64 (U (leOf ((b.drop 10).take 2)))
end Go.Proofs.Ytpihncafmjbccaa

/-
  LeafBuilds: the sector of any leaf, or why there is none.
  Conditions: none.
-/
import Derived.Test.YtiibpkncdflfcaaRefLeaf2
namespace Go.Proofs.Ytiibpkncdflfcaa
open Go.ChangeShapes Go.WideShapes Go.ChangeAt Go.RowKit

theorem refBuild_any (size : Int) (x : LeafP) (w : World) (hst : x.stamp ≤ 9223372036854775807) (hs3 : x.load.length ≤ maxLen) :
    Calls Try.prog 6 #[.int .i64 size, .agg x.doc] w (Built (buildB size x.kind x.place x.stamp x.load) (buildErr size x.kind x.place x.stamp x.load.length) w) := by
  unfold buildB
  by_cases he : buildErr size x.kind x.place x.stamp x.load.length = 0
  · rw [if_pos he, he]
    exact refBuild_yes size x w he hst
  · rw [if_neg he]
    exact refBuild_no size x w he hs3

end Go.Proofs.Ytiibpkncdflfcaa

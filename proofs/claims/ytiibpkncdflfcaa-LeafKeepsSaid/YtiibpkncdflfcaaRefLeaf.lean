/-
  The document's answer for a leaf's sector: sgraffitoref05.Build.
  Conditions: none.
-/
import Derived.Test.YtiibpkncdflfcaaJL2
import Derived.Test.YtiibpkncdflfcaaRAt
import Derived.Test.YtiibpkncdflfcaaCrcRefL
namespace Go.Proofs.Ytiibpkncdflfcaa
open Go.RowKit

theorem doc_cells {w0 W : World} {X : Nat} {x : LeafP} {t : TypeId} (h : w0.heap[X]? = some (.cells x.doc t (0, 0))) (hb : Below w0.heap.size w0 W) :
    W.cell? ⟨X, 0, none⟩ = some (.int .i64 x.kind) ∧ W.cell? ⟨X, 1, none⟩ = some (.int .i64 x.place) ∧ W.cell? ⟨X, 2, none⟩ = some (.int .i64 x.stamp) ∧ W.cell? ⟨X, 3, none⟩ = some (.string (strB x.load)) := leaf_cells h hb
/-- A slice's length. -/
def lenOf : Value → Nat
  | .slice _ n _ => n
  | _ => 0
theorem zero_made (W : World) : BytesAt (W.alloc (.cells #[.int .u8 0] 5)).heap.size (W.alloc (.cells #[.int .u8 0] 5)) (.slice (some ⟨W.heap.size, 0, none⟩) 1 1) [0#8] := by
  have := bytes_new W [0#8] 1 rfl #[.int .u8 0] rfl
  simpa using this
theorem rep_snoc (r : List (BitVec 8)) (j : Nat) : r ++ List.replicate j 0#8 ++ [0#8] = r ++ List.replicate (j + 1) 0#8 := by
  rw [List.append_assoc, ← List.replicate_succ']

set_option maxRecDepth 100000 in
set_option maxHeartbeats 4000000 in
theorem refBuild_no (size : Int) (x : LeafP) (w : World) (hne : buildErr size x.kind x.place x.stamp x.load.length ≠ 0) (hs3 : x.load.length ≤ maxLen) :
    Calls Try.prog 6 #[.int .i64 size, .agg x.doc] w (Built [] (buildErr size x.kind x.place x.stamp x.load.length) w) := by
  have HB0 := Lib.hid ((Below.refl w.heap.size w).alloc (Nat.le_refl _) (.cells x.doc 29))
  have HNO := Lib.hid (fun (er : Int) (h : buildErr size x.kind x.place x.stamp x.load.length = er) => (show Built [] (buildErr size x.kind x.place x.stamp x.load.length) w (.returned (.tuple #[.slice none 0 0, .int .i64 er])) (w.alloc (.cells x.doc 29)) from
    ⟨_, by rw [h], World.ownsRow_nil _ _ _ _, HB0.out⟩))
  have HD : Hid (x.doc = #[.int .i64 x.kind, .int .i64 x.place, .int .i64 x.stamp, .string (strB x.load)]) := rfl
  have hsz := strB_size x.load
  rw [HD.out] at HNO ⊢
  have hm : (x.load.length : Int) ≤ 9223372036854775807 := by unfold maxLen at hs3; omega
  by_cases s1 : 96 ≤ size
  · by_cases s2 : size ≤ 512
    · have hs : sizeB size = true := by unfold sizeB; simp; omega
      by_cases hp : 1 ≤ x.kind ∧ x.kind ≤ 4 ∧ 0 ≤ x.place ∧ x.place ≤ 2147483647 ∧ 0 ≤ x.stamp
      · obtain ⟨k1, k2, p1, p2, p3⟩ := hp
        have hk : kindB x.kind = true := by unfold kindB; simp; omega
        by_cases hl : size - 19 < x.load.length
        · have HN := Lib.hid (HNO.out 9 (by unfold buildErr; rw [if_pos hs, if_pos ⟨hk, p1, p2, p3⟩, if_pos hl]))
          clear HNO hne hs hk
          go_enter Try.func6, Try.ntmps6
          go_wp2
          go_ret2
          exact HN.out
        · exact absurd (by unfold buildErr; rw [if_pos hs, if_pos ⟨hk, p1, p2, p3⟩, if_neg hl]) hne
      · have HN := Lib.hid (HNO.out 1 (by
          unfold buildErr
          rw [if_pos hs, if_neg]
          rintro ⟨h1, h2, h3, h4⟩
          have : 1 ≤ x.kind ∧ x.kind ≤ 4 := by simpa [kindB] using h1
          exact hp ⟨this.1, this.2, h2, h3, h4⟩))
        clear HNO hne hs
        by_cases k1 : 1 ≤ x.kind
        · by_cases k2 : x.kind ≤ 4
          · by_cases p1 : 0 ≤ x.place
            · by_cases p2 : x.place ≤ 2147483647
              · have p3 : x.stamp < 0 := by omega
                clear hp
                go_enter Try.func6, Try.ntmps6
                go_wp2
                go_ret2
                exact HN.out
              · clear hp
                go_enter Try.func6, Try.ntmps6
                go_wp2
                go_ret2
                exact HN.out
            · clear hp
              go_enter Try.func6, Try.ntmps6
              go_wp2
              go_ret2
              exact HN.out
          · clear hp
            go_enter Try.func6, Try.ntmps6
            go_wp2
            go_ret2
            exact HN.out
        · clear hp
          go_enter Try.func6, Try.ntmps6
          go_wp2
          go_ret2
          exact HN.out
    · have HN := Lib.hid (HNO.out 3 (by unfold buildErr; rw [if_neg (by unfold sizeB; simp; omega)]))
      clear HNO hne
      go_enter Try.func6, Try.ntmps6
      go_wp2
      go_ret2
      exact HN.out
  · have HN := Lib.hid (HNO.out 3 (by unfold buildErr; rw [if_neg (by unfold sizeB; simp; omega)]))
    clear HNO hne
    go_enter Try.func6, Try.ntmps6
    go_wp2
    go_ret2
    exact HN.out
end Go.Proofs.Ytiibpkncdflfcaa

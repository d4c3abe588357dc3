/-
  flash: what ready, has, asked, act, Arm, Sectors, Size, Down, Loose and Acts do, of a device and of none.
  Conditions: none.
-/
import Derived.Test.YtadglpnmhpmebaaMem
import Derived.Test.YtadglpnmhpmebaaIntMap
import Derived.WalkKit
import Derived.IntWalk
namespace Go.Proofs.Ytadglpnmhpmebaa
open Go.RowKit

/-- The cells of a device. -/
def devCells (sectors size : Int) (F P : Nat) (lv : Value) (L : Nat) (armed acts : Int) (down : Bool) : Array Value :=
  #[.int .i64 sectors, .int .i64 size, .map (some F), .map (some P), lv, .map (some L), .int .i64 armed, .int .i64 acts, .bool down]
/-- A device's block. -/
def DevBlk (w : World) (D : Nat) (sectors size : Int) (F P : Nat) (lv : Value) (L : Nat) (armed acts : Int) (down : Bool) : Prop :=
  w.heap[D]? = some (.cells (devCells sectors size F P lv L armed acts down) 68 (0, 0))

section
variable {w : World} {D F P L : Nat} {sectors size armed acts : Int} {lv : Value} {down : Bool}
theorem ready_any (h : DevBlk w D sectors size F P lv L armed acts down) : Calls Try.prog 32 #[.pointer (some ⟨D, 0, none⟩)] w fun e w' => e = .returned (.int .i64 (if down then 4 else 0)) ∧ w = w' := by
  have c8 : w.cell? ⟨D, 8, none⟩ = some (.bool down) := blk_cell h 8
  clear h
  cases down
  · go_enter Try.func32, Try.ntmps32
    go_wp2
    go_ret
    exact ⟨rfl, rfl⟩
  · go_enter Try.func32, Try.ntmps32
    go_wp2
    go_ret
    exact ⟨rfl, rfl⟩
theorem ready_nil (w : World) : Calls Try.prog 32 #[.pointer none] w fun e w' => e = .returned (.int .i64 1) ∧ w = w' := by
  go_enter Try.func32, Try.ntmps32
  go_wp2
  go_ret
  exact ⟨rfl, rfl⟩
theorem fhas_any (h : DevBlk w D sectors size F P lv L armed acts down) (at_ : Int) : Calls Try.prog 42 #[.pointer (some ⟨D, 0, none⟩), .int .i64 at_] w fun e w' => e = .returned (.bool (decide (0 ≤ at_ ∧ at_ < sectors))) ∧ w = w' := by
  have c0 : w.cell? ⟨D, 0, none⟩ = some (.int .i64 sectors) := blk_cell h 0
  clear h
  by_cases h0 : 0 ≤ at_
  · have e0 : decide (0 ≤ at_) = true := by simpa using h0
    by_cases h1 : at_ < sectors
    · have e1 : decide (at_ < sectors) = true := by simpa using h1
      have HE : Hid (decide (0 ≤ at_ ∧ at_ < sectors) = true) := by unfold Hid; simp [h0, h1]
      go_enter Try.func42, Try.ntmps42
      go_wp2
      go_ret
      first | exact ⟨rfl, rfl⟩ | exact ⟨by rw [HE.out]; rfl, rfl⟩
    · have e1 : decide (at_ < sectors) = false := by simpa using h1
      have HE : Hid (decide (0 ≤ at_ ∧ at_ < sectors) = false) := by unfold Hid; simp [h1]
      go_enter Try.func42, Try.ntmps42
      go_wp2
      go_ret
      first | exact ⟨rfl, rfl⟩ | exact ⟨by rw [HE.out]; rfl, rfl⟩
  · have e0 : decide (0 ≤ at_) = false := by simpa using h0
    have HE : Hid (decide (0 ≤ at_ ∧ at_ < sectors) = false) := by unfold Hid; simp [h0]
    go_enter Try.func42, Try.ntmps42
    go_wp2
    go_ret
    first | exact ⟨rfl, rfl⟩ | exact ⟨by rw [HE.out]; rfl, rfl⟩

/-- Why nothing can be done in a sector: 0, if it can. -/
def askErr (sectors : Int) (down : Bool) (at_ : Int) : Int := if down then 4 else if 0 ≤ at_ ∧ at_ < sectors then 0 else 2
theorem asked_any (h : DevBlk w D sectors size F P lv L armed acts down) (at_ : Int) : Calls Try.prog 37 #[.pointer (some ⟨D, 0, none⟩), .int .i64 at_] w fun e w' => e = .returned (.int .i64 (askErr sectors down at_)) ∧ w = w' := by
  have hr := ready_any h
  have hh := fhas_any h at_
  clear h
  cases down with
  | true =>
    have HR := Lib.hid hr
    clear hr hh
    go_enter Try.func37, Try.ntmps37
    go_wp2_with (go_at_call 32; refine HR.out.mono ?_; rintro e w' ⟨rfl, rfl⟩)
    go_ret
    exact ⟨rfl, rfl⟩
  | false =>
    by_cases hin : 0 ≤ at_ ∧ at_ < sectors
    · have e : decide (0 ≤ at_ ∧ at_ < sectors) = true := by simpa using hin
      rw [e] at hh
      have HE : Hid (askErr sectors false at_ = 0) := by unfold Hid askErr; simp [hin]
      have HR := Lib.hid hr
      have HH := Lib.hid hh
      clear hr hh e hin
      go_enter Try.func37, Try.ntmps37
      go_wp2_with (first
        | (go_at_call 32; refine HR.out.mono ?_; rintro e w' ⟨rfl, rfl⟩)
        | (go_at_call 42; refine HH.out.mono ?_; rintro e w' ⟨rfl, rfl⟩))
      go_ret
      first | exact ⟨rfl, rfl⟩ | exact ⟨by rw [HE.out]; rfl, rfl⟩
    · have e : decide (0 ≤ at_ ∧ at_ < sectors) = false := by simpa using hin
      rw [e] at hh
      have HE : Hid (askErr sectors false at_ = 2) := by unfold Hid askErr; simp [hin]
      have HR := Lib.hid hr
      have HH := Lib.hid hh
      clear hr hh e hin
      go_enter Try.func37, Try.ntmps37
      go_wp2_with (first
        | (go_at_call 32; refine HR.out.mono ?_; rintro e w' ⟨rfl, rfl⟩)
        | (go_at_call 42; refine HH.out.mono ?_; rintro e w' ⟨rfl, rfl⟩))
      go_ret
      first | exact ⟨rfl, rfl⟩ | exact ⟨by rw [HE.out]; rfl, rfl⟩
theorem asked_nil (at_ : Int) (w : World) : Calls Try.prog 37 #[.pointer none, .int .i64 at_] w fun e w' => e = .returned (.int .i64 1) ∧ w = w' := by
  have HR := Lib.hid (ready_nil w)
  go_enter Try.func37, Try.ntmps37
  go_wp2_with (go_at_call 32; refine HR.out.mono ?_; rintro e w' ⟨rfl, rfl⟩)
  go_ret
  exact ⟨rfl, rfl⟩

theorem devSet (h : DevBlk w D sectors size F P lv L armed acts down) (i : Nat) (v : Value) : (w.setCell ⟨D, i, none⟩ v).heap[D]? = some (.cells ((devCells sectors size F P lv L armed acts down).setIfInBounds i v) 68 (0, 0)) := blk_set h i v

/-- What act leaves: only the device's block is written. -/
def Acted (w : World) (D : Nat) (sectors size : Int) (F P : Nat) (lv : Value) (L : Nat) (armed acts : Int) (down : Bool) (e : Ending) (w' : World) : Prop :=
  e = .returned (.int .i64 (if armed = 1 then 4 else 0)) ∧ DevBlk w' D sectors size F P lv L (if armed = 0 then 0 else armed - 1) (acts + 1) (if armed = 1 then true else down) ∧ Moves (fun k => k = D) w w' ∧ w'.heap.size = w.heap.size
set_option maxHeartbeats 1000000 in
theorem act_any (h : DevBlk w D sectors size F P lv L armed acts down) (h0 : 0 ≤ armed) (h1 : 0 ≤ acts) (h2 : acts < 9223372036854775807) (h3 : armed ≤ 9223372036854775807) : Calls Try.prog 33 #[.pointer (some ⟨D, 0, none⟩)] w (Acted w D sectors size F P lv L armed acts down) := by
  have c6 : w.cell? ⟨D, 6, none⟩ = some (.int .i64 armed) := blk_cell h 6
  have c7 : w.cell? ⟨D, 7, none⟩ = some (.int .i64 acts) := blk_cell h 7
  have c8 : w.cell? ⟨D, 8, none⟩ = some (.bool down) := blk_cell h 8
  have hf := blk_frozen h
  have hm : ∀ w', Moves (fun k => k = D) w w' → ∀ i v, Moves (fun k => k = D) w (w'.setCell ⟨D, i, none⟩ v) := fun w' hw i v => hw.setCell (p := ⟨D, i, none⟩) (fun _ => rfl) v
  have HM := Lib.hid hm
  have HD := Lib.hid h
  clear h hm
  by_cases ha : armed = 0
  · subst ha
    go_enter Try.func33, Try.ntmps33
    go_wp2
    go_ret
    exact ⟨rfl, devSet HD.out 7 _, HM.out _ (Moves.refl _ _) _ _, by simp [World.setCell]⟩
  · by_cases hb : armed = 1
    · subst hb
      go_enter Try.func33, Try.ntmps33
      go_wp2
      go_ret
      exact ⟨rfl, devSet (devSet (devSet HD.out 7 _) 6 _) 8 _, HM.out _ (HM.out _ (HM.out _ (Moves.refl _ _) _ _) _ _) _ _, by simp [World.setCell]⟩
    · have e0 : (armed == 0) = false := by simpa using ha
      have e1 : 0 < armed - 1 := by omega
      have HE : Hid ((if armed = 1 then (4 : Int) else 0) = 0 ∧ (if armed = 0 then 0 else armed - 1) = armed - 1 ∧ (if armed = 1 then true else down) = down) := by unfold Hid; simp [ha, hb]
      go_enter Try.func33, Try.ntmps33
      go_wp2
      go_ret
      refine ⟨by rw [HE.out.1]; rfl, ?_, HM.out _ (HM.out _ (Moves.refl _ _) _ _) _ _, by simp [World.setCell]⟩
      rw [HE.out.2.1, HE.out.2.2]
      exact devSet (devSet HD.out 7 _) 6 _
end

end Go.Proofs.Ytadglpnmhpmebaa

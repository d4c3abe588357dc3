/-
  What crc.add, Sum, Add and Pieces answer: the check of bytes that goes on from a check.
  Conditions: none.
-/
import Derived.Test.YtopjadmjahpeoaaCrcTable
import Derived.Test.YtopjadmjahpeoaaCrcPiecesL
import Derived.BigRegionIn
namespace Go.Proofs.Ytopjadmjahpeoaa.Crc
open Go.RowKit Go.Shelf
attribute [local go_sem] Oper.semAt_some

/-- One byte more. -/
def stepB (s : BitVec 32) (b : BitVec 8) : BitVec 32 := s >>> 8 ^^^ tab (s.setWidth 8 ^^^ b)
/-- Many. -/
def runB (s : BitVec 32) (bs : List (BitVec 8)) : BitVec 32 := bs.foldl stepB s
theorem runB_snoc (s : BitVec 32) (bs : List (BitVec 8)) (b : BitVec 8) : runB s (bs ++ [b]) = stepB (runB s bs) b := by simp [runB]
/-- The check that goes on. -/
def crcAdd (s : BitVec 32) (bs : List (BitVec 8)) : BitVec 32 := ~~~ (runB (~~~ s) bs)

theorem not_u32 (x : BitVec 32) : bits .xor .u32 IntKind.u32.max (U x) = U (~~~ x) := by
  have h : bits .xor .u32 IntKind.u32.max (U x) = U (BitVec.allOnes 32 ^^^ x) := xor_u32 (BitVec.allOnes 32) x
  rw [h, BitVec.allOnes_xor]
theorem tabRow (y : BitVec 8) {W : World} {B : Nat} (hT : W.heap[B]? = some (.cells (Arr 255) 115 (0, 0))) : W.cell? ⟨B, (U y).toNat, none⟩ = some (.int .u32 (U (tab y))) := by
  have h : (U y).toNat = y.toNat := by unfold U; simp
  have hy : y.toNat < 256 := y.isLt
  rw [h, cell_of_row _ _ _ _ _ _ hT, Arr_get _ _ hy, tabAt_all _ hy]
  unfold tabN
  rw [BitVec.ofNat_toNat, BitVec.setWidth_eq]
theorem shr8_32 (x : BitVec 32) : U x / (256 : Int) = U (x >>> 8) := shr_U x 8 _ (by decide)
theorem low8_32 (x : BitVec 32) : U x % (256 : Int) = U (x.setWidth 8) := by
  unfold U
  rw [BitVec.toNat_setWidth]
  simp
theorem wrap8_32 (x : BitVec 32) : IntKind.u8.wrap (U x) = U (x.setWidth 8) := by
  rw [IntKind.wrap_u8', low8_32]

set_option maxHeartbeats 400000 in
theorem bytesOf_in (F : Fence) (n : Nat) (h4 : F.fn 64) (hro : F.round = none) (a : Option Addr) (len cap : Nat) (w : World) :
    CallsIn F n Try.prog 64 #[.slice a len cap] w fun e w' => e = .returned (.func (.func 70) #[] #[.pointer (some ⟨w.heap.size, 0, none⟩)]) ∧ w.alloc (.cells #[.slice a len cap] 56) = w' := by
  refine callsIn_of_wp Try.func64 rfl h4 ?_ hro
  simp only [Try.ntmps64, List.size_toArray, List.length_cons, List.length_nil, Nat.reduceAdd, Nat.reduceSub, Array.replicate_succ, Array.replicate_zero, List.push_toArray, List.append_toArray, List.nil_append, List.cons_append]
  gi_wp2
  go_ret
  exact ⟨rfl, rfl⟩

theorem bytesOf_stops (F : Fence) (n : Nat) (h6 : F.fn 70) (hro : F.round = none) (hn : 1 ≤ n) (Bp n₀ : Nat) (ps : List (List (BitVec 8))) (v : Value) (hlen : ps.length ≤ 1099511627776) (hlens : ∀ i : Nat, (ps[i]?.getD []).length ≤ 1099511627776) (w : World) (hBp : Bp < w.heap.size) (hn₀ : n₀ ≤ w.heap.size)
    (hc : w.cell? ⟨Bp, 0, none⟩ = some v) (hv : PiecesAt n₀ w v ps) :
    SeqStopsK F n Try.prog 70 #[.pointer (some ⟨Bp, 0, none⟩)] (fun x : BitVec 8 => #[Value.int .u8 (U x)]) (Below n₀) (fun ys => ys = ps.flatten) (fun _ => True) ps.flatten.length w := fun l J Jx W hW _ _ hY h0 =>
  bytesOf1_in F n h6 hro hn l Bp n₀ ps v hlen hlens J Jx hY W ((hW.cell (p := ⟨Bp, 0, none⟩) hBp).trans hc) (hv.below (hW.mono hn₀)) h0

attribute [local go_sem] not_u32 shr8_32 low8_32 wrap8_32 xor_u8 xor_u32
theorem zeroStore (W : World) : (storeCells ⟨W.heap.size, 0, none⟩ (Arr 255).toList).run Try.prog (W.alloc (.cells Z256 115)) = .ok () ((W.alloc (.cells Z256 115)).setRow W.heap.size (Arr 255)) :=
  run_storeAll (heap_alloc_new W _) (by rw [Arr_size]; simp [Z256]) (Arr_one 255)

theorem add_start {w w1 : World} {s : BitVec 32} (hb1 : Below (w.alloc (.cells #[.int .u32 (U s)] 71)).heap.size (w.alloc (.cells #[.int .u32 (U s)] 71)) w1) :
    Boxed ((w1.alloc (.cells Z256 115)).setRow w1.heap.size (Arr 255)) w.heap.size 71 (.int .u32 (U s)) ∧
    ((w1.alloc (.cells Z256 115)).setRow w1.heap.size (Arr 255)).heap[w1.heap.size]? = some (.cells (Arr 255) 115 (0, 0)) ∧
    Below w.heap.size w ((w1.alloc (.cells Z256 115)).setRow w1.heap.size (Arr 255)) ∧ w.heap.size < w1.heap.size ∧
    ((w1.alloc (.cells Z256 115)).setRow w1.heap.size (Arr 255)).heap.size = w1.heap.size + 1 := by
  have hs := hb1.size
  rw [World.size_alloc] at hs
  have b1 : Boxed w1 w.heap.size 71 (.int .u32 (U s)) := (hb1.block w.heap.size (by simp)).trans (Boxed.new w _ _)
  have b2 := b1.alloc (.cells Z256 115)
  refine ⟨(setRow_other _ _ _ _ (by omega)).trans b2, setRow_heap _ _ _ _ _ _ (heap_alloc_new _ _), ?_, by omega, by simp⟩
  have hB : Below w.heap.size w w1 := ((Below.refl _ w).alloc (Nat.le_refl _) _).trans (hb1.mono (by simp))
  exact below_setRow (hB.alloc (by omega) _) (by omega) _

set_option maxRecDepth 100000 in
set_option maxHeartbeats 2000000 in
theorem add_in (F : Fence) (n : Nat) (h32 : F.fn 50) (f14 : F.fn 63) (h14 : ∀ W : World, CallsIn F (n - 1) Try.prog 63 #[] W fun e w' => e = .returned (.agg (Arr 255)) ∧ Below W.heap.size W w') (h41 : F.fn 64) (h43 : F.fn 70) (hro : F.round = none) (hn : 3 ≤ n)
    (s : BitVec 32) (ps : List (List (BitVec 8))) (v : Value) (hlen : ps.length ≤ 1099511627776) (hlens : ∀ i : Nat, (ps[i]?.getD []).length ≤ 1099511627776) (w : World) (hv : PiecesAt w.heap.size w v ps) :
    CallsIn F n Try.prog 50 #[.int .u32 (U s), v] w fun e W' => e = .returned (.int .u32 (U (crcAdd s ps.flatten))) ∧ Below w.heap.size w W' := by
  have h1 : 1 ≤ n := by omega
  obtain ⟨a, cap, rfl, hv'⟩ := hv
  have hv : PiecesAt w.heap.size w (.slice a ps.length cap) ps := ⟨a, cap, rfl, hv'⟩
  clear hv'
  have hz := zero24
  have hst := zeroStore
  refine callsIn_of_wp_marks Try.func50 rfl h32 ?_ hro
  simp only [Try.ntmps50, List.size_toArray, List.length_cons, List.length_nil, Nat.reduceAdd, Nat.reduceSub, Array.replicate_succ, Array.replicate_zero, List.push_toArray, List.append_toArray, List.nil_append, List.cons_append]
  gi_wp2_with (first
    | (gi_at_call 63; refine (h14 _).mono ?_; rintro e w1 ⟨rfl, hb1⟩; obtain ⟨bS, hT, hB2, hlt, hsz⟩ := add_start hb1; clear hb1; have hcs := bS.cell; have hfs := bS.frozen)
    | (gi_at_call 64; refine (bytesOf_in F (n - 1) h41 hro _ _ _ _).mono ?_; rintro e w' ⟨rfl, rfl⟩))
  have bS3 : Boxed ((((w1.alloc (.cells Z256 115)).setRow w1.heap.size (Arr 255)).setCell ⟨w.heap.size, 0, none⟩ (.int .u32 (U (~~~ s)))).alloc (.cells #[.slice a ps.length cap] 56)) w.heap.size 71 (.int .u32 (U (~~~ s))) := (bS.set _).alloc _
  have hT3 : ((((w1.alloc (.cells Z256 115)).setRow w1.heap.size (Arr 255)).setCell ⟨w.heap.size, 0, none⟩ (.int .u32 (U (~~~ s)))).alloc (.cells #[.slice a ps.length cap] 56)).heap[w1.heap.size]? = some (.cells (Arr 255) 115 (0, 0)) := by
    rw [Below.heap_alloc _ _ _ (by rw [World.size_setCell, hsz]; omega), Below.heap_setCell _ _ _ _ (by show w1.heap.size ≠ w.heap.size; omega)]
    exact hT
  have hB3 : Below w.heap.size w ((((w1.alloc (.cells Z256 115)).setRow w1.heap.size (Arr 255)).setCell ⟨w.heap.size, 0, none⟩ (.int .u32 (U (~~~ s)))).alloc (.cells #[.slice a ps.length cap] 56)) :=
    (hB2.setCell (p := ⟨w.heap.size, 0, none⟩) (Nat.le_refl _) _).alloc (by simp; omega) _
  have bN : Boxed ((((w1.alloc (.cells Z256 115)).setRow w1.heap.size (Arr 255)).setCell ⟨w.heap.size, 0, none⟩ (.int .u32 (U (~~~ s)))).alloc (.cells #[.slice a ps.length cap] 56)) (w1.heap.size + 1) 56 (.slice a ps.length cap) := by
    have := Boxed.new (((w1.alloc (.cells Z256 115)).setRow w1.heap.size (Arr 255)).setCell ⟨w.heap.size, 0, none⟩ (.int .u32 (U (~~~ s)))) 56 (.slice a ps.length cap)
    rw [World.size_setCell, hsz] at this
    exact this
  clear hcs hfs bS hT hB2
  refine rangeFunc_open hro h1 (gf := 70) (lb := #[.pointer (some ⟨w1.heap.size + 1, 0, none⟩)]) rfl h43 (enters_of Try.func70 (by kernel_rfl) rfl)
    (bytesOf_stops F (n - 1) h43 hro (by omega) (w1.heap.size + 1) w.heap.size ps (.slice a ps.length cap) hlen hlens _ (by simp) hB3.size bN.cell (hv.below hB3)) belowK_t (belowK_b hB3.size) (Below.refl _ _) (fun _ => rfl)
    (fun xs W => Boxed W w.heap.size 71 (.int .u32 (U (runB (~~~ s) xs))) ∧ W.heap[w1.heap.size]? = some (.cells (Arr 255) 115 (0, 0)) ∧ Below w.heap.size w W)
    (fun _ _ _ => False)
    (OwnFrom.and (Own.from (holdsBlock_own w.heap.size 71 (fun xs => #[.int .u32 (U (runB (~~~ s) xs))])) _) (OwnFrom.and (Own.from (holdsBlock_own w1.heap.size 115 (fun _ => Arr 255)) _) (ownFrom_below (Nat.le_refl _) hB3.size)))
    (fun _ _ _ _ _ hs _ _ => hs)
    ⟨bS3, hT3, hB3⟩ ?round ?done ?stop
  case round =>
    apply Exists.intro
    apply And.intro
    · intro l x W K hK
      gi_wp2
      exact hK
    · rintro l xs x W ⟨hv, hTW, hB⟩ _
      have hc := hv.cell
      have hf := hv.frozen
      have hr := runB_snoc (~~~ s) xs x
      have ht := tabRow ((runB (~~~ s) xs).setWidth 8 ^^^ x) hTW
      generalize runB (~~~ s) xs = q at hv hc hr ht
      have y0 := U_nonneg (q.setWidth 8 ^^^ x)
      have y1 : U (q.setWidth 8 ^^^ x) < 256 := by simpa using U_lt (q.setWidth 8 ^^^ x)
      have q0 := U_nonneg q
      gi_wp2
      gi_region
      all_goals gi_wp2
      all_goals exact ⟨((KeepsOthers.setCell _ _ _).trans (KeepsOthers.drew _)).from _, ((Below.refl _ W).setCell (p := ⟨w.heap.size, 0, none⟩) (Nat.le_refl _) _).drew, by rw [hr]; exact hv.set _, (Below.heap_setCell W _ _ _ (by show w1.heap.size ≠ w.heap.size; omega)).trans hTW, (hB.setCell (p := ⟨w.heap.size, 0, none⟩) (Nat.le_refl _) _).drew⟩
  case done =>
    rintro D ys W hD rfl ⟨hv, hTW, hB⟩ hK
    have hc := hv.cell
    gi_wp2
    refine ⟨by simp, .inl ⟨_, _, rfl, run_takeDeferred hK, ?_⟩⟩
    exact ⟨_, results_tmp rfl _ _ _, rfl, hB.trans (belowK_b (w := w) (Nat.le_refl _) W D _ _ (by have := hB3.size; omega) hK rfl rfl)⟩
  case stop =>
    rintro D c pre W _ _ h _
    exact h.elim

theorem add_any (s : BitVec 32) (ps : List (List (BitVec 8))) (v : Value) (hlen : ps.length ≤ 1099511627776) (hlens : ∀ i : Nat, (ps[i]?.getD []).length ≤ 1099511627776) (w : World) (hv : PiecesAt w.heap.size w v ps) :
    Calls Try.prog 50 #[.int .u32 (U s), v] w fun e W' => e = .returned (.int .u32 (U (crcAdd s ps.flatten))) ∧ Below w.heap.size w W' :=
  callsIn_wide.1 (add_in Fence.wide 3 trivial trivial (fun W => callsIn_wide.2 (table_any W)) trivial trivial rfl (Nat.le_refl _) s ps v hlen hlens w hv)

end Go.Proofs.Ytopjadmjahpeoaa.Crc

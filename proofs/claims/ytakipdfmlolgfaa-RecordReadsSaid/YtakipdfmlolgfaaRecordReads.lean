/-
  RecordReads: which record any bytes begin with, and which they are.
  Conditions: none.
-/
import Derived.Test.YtakipdfmlolgfaaRefRecAll
import Derived.Test.YtakipdfmlolgfaaRecAll3
import Derived.Test.YtakipdfmlolgfaaOpenB
namespace Go.Proofs.Ytakipdfmlolgfaa
open Go.ChangeShapes Go.WideShapes Go.ChangeAt Go.RowKit

theorem flat3_get {α : Type} (f : α → List Value) (hf : ∀ a, (f a).length = 3) (l : List α) (i : Nat) (a : α) (h : l[i]? = some a) (k : Nat) (hk : k < 3) : (l.flatMap f)[i * 3 + k]? = (f a)[k]? := by
  induction l generalizing i with
  | nil => simp at h
  | cons b l ih =>
    rw [List.flatMap_cons]
    cases i with
    | zero =>
      obtain rfl : b = a := by simpa using h
      rw [Nat.zero_mul, Nat.zero_add, List.getElem?_append_left (by rw [hf]; exact hk)]
    | succ i =>
      rw [List.getElem?_append_right (by rw [hf]; omega), hf, show (i + 1) * 3 + k - 3 = i * 3 + k by omega]
      exact ih i (by simpa using h)
/-- Are two records one? -/
theorem told09_yes (x : RecP) (u v : Value) (n : Nat) (w : World) (hu : BytesAt n w u x.key) (hv : BytesAt n w v x.val) : Calls Try.prog 7 #[.agg (x.cells u v), .agg x.doc] w fun e w' => e = .returned (.bool true) ∧ Below w.heap.size w w' := by
  have hb2 : Below w.heap.size w ((w.alloc (.cells (x.cells u v) 24)).alloc (.cells x.doc 29)) := ((Below.refl _ _).alloc (Nat.le_refl _) _).alloc (by simp) _
  have hcu := conv_str (hu.tight.below hb2)
  have hcv := conv_str (hv.tight.below hb2)
  have HD : Hid (x.doc = #[.string (strB x.key), .string (strB x.val), .int .i64 x.fin]) := rfl
  have HC : Hid (x.cells u v = #[u, v, .int .i64 x.fin]) := rfl
  have HB := Lib.hid hb2
  obtain ⟨a, cap, rfl, _⟩ := hu
  obtain ⟨a2, cap2, rfl, _⟩ := hv
  rw [HD.out, HC.out] at hcu hcv ⊢
  clear hb2
  go_enter Try.func7, Try.ntmps7
  go_wp2
  go_ret
  exact ⟨rfl, HB.out⟩
theorem ownsRow_pos {W : World} {base : Nat} {e : TypeId} {size : Nat} {v : Value} {n : Nat} {xs : List Value} (h : W.ownsRow base e size v n xs) (hn : 0 < n) : ∃ g cap, v = .slice (some ⟨g, 0, none⟩) n cap := by
  rcases h.2 with ⟨_, h0⟩ | ⟨g, cap, _, rfl, h1, _⟩
  · omega
  · exact ⟨g, cap, rfl⟩
theorem ownsRow_le {W : World} {base : Nat} {e : TypeId} {size : Nat} {v : Value} {n : Nat} {xs : List Value} (h : W.ownsRow base e size v n xs) : n ≤ maxLen := by
  rcases h.2 with ⟨_, h0⟩ | ⟨g, cap, _, _, _, _, h1, h2, _⟩
  · omega
  · omega
theorem meas_lt (N i : Nat) (h : i < N) (hw : wrap64 ((i : Int) + 1) = (i : Int) + 1) : N - (intOf (.int .i64 (wrap64 ((i : Int) + 1)))).toNat < N - (intOf (.int .i64 (i : Int))).toNat := by
  rw [hw]
  show N - ((i : Int) + 1).toNat < N - (i : Int).toNat
  omega
theorem rrow_new (W : World) (x : RecP) (u v : Value) : Below W.heap.size W ((W.alloc (.cells (RecP.zero.cells (.slice none 0 0) (.slice none 0 0)) 24)).setRow W.heap.size (x.cells u v)) ∧ ((W.alloc (.cells (RecP.zero.cells (.slice none 0 0) (.slice none 0 0)) 24)).setRow W.heap.size (x.cells u v)).heap[W.heap.size]? = some (.cells (x.cells u v) 24 (0, 0)) :=
  ⟨below_setRow ((Below.refl _ _).alloc (Nat.le_refl _) _) (Nat.le_refl _) _, setRow_heap _ _ _ _ _ _ (heap_alloc_new _ _)⟩
theorem drow_new (W : World) (x : RecP) : Below W.heap.size W ((W.alloc (.cells RecP.zero.doc 29)).setRow W.heap.size x.doc) ∧ ((W.alloc (.cells RecP.zero.doc 29)).setRow W.heap.size x.doc).heap[W.heap.size]? = some (.cells x.doc 29 (0, 0)) :=
  ⟨below_setRow ((Below.refl _ _).alloc (Nat.le_refl _) _) (Nat.le_refl _) _, setRow_heap _ _ _ _ _ _ (heap_alloc_new _ _)⟩
theorem rcells3 {w0 W : World} {X : Nat} {x : RecP} {u v : Value} {t : TypeId} (h : w0.heap[X]? = some (.cells (x.cells u v) t (0, 0))) (hb : Below w0.heap.size w0 W) :
    W.cell? ⟨X, 0, none⟩ = some u ∧ W.cell? ⟨X, 1, none⟩ = some v ∧ W.cell? ⟨X, 2, none⟩ = some (.int .i64 x.fin) := rec_cells h hb
theorem rdocs3 {w0 W : World} {X : Nat} {x : RecP} {t : TypeId} (h : w0.heap[X]? = some (.cells x.doc t (0, 0))) (hb : Below w0.heap.size w0 W) :
    W.cell? ⟨X, 0, none⟩ = some (.string (strB x.key)) ∧ W.cell? ⟨X, 1, none⟩ = some (.string (strB x.val)) ∧ W.cell? ⟨X, 2, none⟩ = some (.int .i64 x.fin) := rec_cells h hb

set_option maxRecDepth 100000 in
set_option maxHeartbeats 8000000 in
theorem recordReads_walk (v : Value) (bs : List (BitVec 8)) (w : World) (hv : BytesAt w.heap.size w v bs) : Calls Try.prog 3 #[v] w (Good w) := by
  have HV := Lib.hid hv
  have HAW := Lib.hid (fun W => awake09 W)
  obtain ⟨i0, hi, hz0, hz1, hz2⟩ := info_parts Try.infoU8
  obtain ⟨a, cap, rfl, hcap, _⟩ := id hv
  clear hv
  have HE0 := Lib.hid (own_empty w w.heap.size (Nat.le_refl _))
  have HB0 : Hid (Below w.heap.size w (w.alloc (.cells #[] 5))) := (Below.refl _ _).alloc (Nat.le_refl _) _
  by_cases hl : bs.length ≤ 1000
  · have hl1 : (bs.length : Int) ≤ 1000 := by omega
    have HLEN := Lib.hid hl
    have HU := Lib.hid (fun u W (h : BytesAt W.heap.size W u bs) => unpackR_any u bs W h (by omega))
    have HR := Lib.hid (fun W (hW : Below w.heap.size w W) => refUnp_any w.heap.size _ bs W (HV.out.below hW) hW.size (by omega))
    have HAL := Lib.hid (fun u W (h : BytesAt W.heap.size W u bs) => all_any u bs W h (by omega))
    have HRA := Lib.hid (fun W (hW : Below w.heap.size w W) => refAll_any _ bs W ((HV.out.below hW).mono hW.size) (by omega))
    obtain ⟨x, hx⟩ : ∃ x, unpRec bs = x := ⟨_, rfl⟩
    obtain ⟨nn, hnn⟩ : ∃ n, unpN bs = n := ⟨_, rfl⟩
    obtain ⟨er, her⟩ : ∃ er, unpErr bs = er := ⟨_, rfl⟩
    obtain ⟨rs, hrs⟩ : ∃ rs, recs bs = rs := ⟨_, rfl⟩
    simp only [hx, hnn, her] at HU HR
    simp only [hrs] at HAL HRA
    have HTO := Lib.hid (fun (y : RecP) (u v : Value) n W (h1 : BytesAt n W u y.key) (h2 : BytesAt n W v y.val) => (show Calls Try.prog 7 #[.agg #[u, v, .int .i64 y.fin], .agg #[.string (strB y.key), .string (strB y.val), .int .i64 y.fin]] W (fun e w' => e = .returned (.bool true) ∧ Below W.heap.size W w') from told09_yes y u v n W h1 h2))
    clear hx hnn her hrs
    go_enter Try.func3, Try.ntmps3
    go_upto_region 4 with (first
      | (at_builtin; (refine wpList_append_bytes rfl (.tmp 16) (.tmp 17) rfl rfl w.heap.size i0 hi hz0 hz1 hz2 _ rfl [] HE0.out _ rfl _ _ (HV.out.below HB0.out) (by have := HLEN.out; simp; omega) HB0.out.size ?_); intro v1 w1 n1 hn hown hg _; have HB1 := Lib.hid (HB0.out.grown hg HB0.out.size (fun k e => (HE0.out.lt k e).1)); have HU1 := Lib.hid (HU.out _ _ (BytesAt.of_owns (by rw [hn.out] at hown; simpa using hown))); clear hn hown hg)
      | (go_at_call 5; (with_reducible refine HU1.out.mono ?_); rintro e w3 ⟨u3, v3, rfl, hu3, hv3, hb3⟩; obtain ⟨au3, cu3, rfl, _⟩ := id hu3; obtain ⟨av3, cv3, rfl, _⟩ := id hv3; have HB3 := Lib.hid hb3; have HU3 := Lib.hid hu3; have HV3 := Lib.hid hv3; clear hu3 hv3 hb3)
      | (refine wpList_store_row (o := ⟨none, _, _, _, _, _⟩) rfl 24 (.tmp 3) (.tmp 20) rfl w3.heap.size (x.cells (.slice au3 x.key.length cu3) (.slice av3 x.val.length cv3)) rfl rfl 24 (RecP.zero.cells (.slice none 0 0) (.slice none 0 0)) (heap_alloc_new _ _) (rec_sz _ _ _) rfl ?_ ?_; exact rec_one _))
    obtain ⟨hbw, hPw⟩ := rrow_new w3 x (.slice au3 x.key.length cu3) (.slice av3 x.val.length cv3)
    change (Code.region _ _ _).wp _ _ _ ((w3.alloc (.cells (RecP.zero.cells (.slice none 0 0) (.slice none 0 0)) 24)).setRow w3.heap.size (x.cells (.slice au3 x.key.length cu3) (.slice av3 x.val.length cv3)))
    generalize (w3.alloc (.cells (RecP.zero.cells (.slice none 0 0) (.slice none 0 0)) 24)).setRow w3.heap.size (x.cells (.slice au3 x.key.length cu3) (.slice av3 x.val.length cv3)) = w4 at hbw hPw ⊢
    have HB4 := Lib.hid (HB1.out.trans ((HB3.out.trans (hbw.mono HB3.out.size)).mono HB1.out.size))
    have HU4 := Lib.hid ((HU3.out.below hbw).mono hbw.size)
    have HV4 := Lib.hid ((HV3.out.below hbw).mono hbw.size)
    have HP4 := Lib.hid hPw
    obtain ⟨P, hP⟩ : ∃ P, w3.heap.size = P := ⟨_, rfl⟩
    rw [hP] at HP4 ⊢
    have HR4 := Lib.hid (HR.out _ HB4.out)
    clear hbw hPw hP HU1 HB3 HU3 HV3 HR HB1
    go_upto_region 5 with (first
      | (go_at_call 6; (with_reducible refine HR4.out.mono ?_); rintro e w5 ⟨rfl, hbel⟩; have HB5 := Lib.hid hbel; clear hbel)
      | (refine wpList_store_row (o := ⟨none, _, _, _, _, _⟩) rfl 29 (.tmp 6) (.tmp 26) rfl w5.heap.size x.doc rfl rfl 29 RecP.zero.doc (heap_alloc_new _ _) (rdoc_sz _) rfl ?_ ?_; exact rdoc_one _))
    obtain ⟨hbw, hPw⟩ := drow_new w5 x
    change (Code.region _ _ _).wp _ _ _ ((w5.alloc (.cells RecP.zero.doc 29)).setRow w5.heap.size x.doc)
    generalize (w5.alloc (.cells RecP.zero.doc 29)).setRow w5.heap.size x.doc = w6 at hbw hPw ⊢
    have hb46 : Below w4.heap.size w4 w6 := HB5.out.trans (hbw.mono HB5.out.size)
    obtain ⟨p0, p1, p2⟩ := rcells3 HP4.out hb46
    obtain ⟨q0, q1, q2⟩ := rdocs3 hPw (Below.refl w6.heap.size w6)
    have HT6 := Lib.hid (HTO.out x _ _ _ w6 (HU4.out.below hb46) (HV4.out.below hb46))
    have HB6 := Lib.hid (HB4.out.trans (hb46.mono HB4.out.size))
    obtain ⟨Q, hQ⟩ : ∃ Q, w5.heap.size = Q := ⟨_, rfl⟩
    rw [hQ] at q0 q1 q2 ⊢
    have hn1 : (nn != nn) = false := by simp
    have he1 : (er != er) = false := by simp
    clear hbw hPw hQ hb46 HP4 HU4 HV4 HB5 HR4 HB4
    go_upto_region 7 with (go_at_call 7; (with_reducible refine HT6.out.mono ?_); rintro e w7 ⟨rfl, hb⟩; have HB7 := Lib.hid (HB6.out.trans (hb.mono HB6.out.size)); clear hb)
    clear p0 p1 p2 q0 q1 q2 HT6 HB6 hn1 he1
    have HE7 := Lib.hid (own_empty w7 w7.heap.size (Nat.le_refl _))
    have HB70 : Hid (Below w7.heap.size w7 (w7.alloc (.cells #[] 5))) := (Below.refl _ _).alloc (Nat.le_refl _) _
    have HV7 := Lib.hid ((HV.out.below HB7.out).mono HB7.out.size)
    go_upto_region 8 with (first
      | (at_builtin; (refine wpList_append_bytes rfl (.tmp 43) (.tmp 44) rfl rfl w7.heap.size i0 hi hz0 hz1 hz2 _ rfl [] HE7.out _ rfl _ _ (HV7.out.below HB70.out) (by have := HLEN.out; simp; omega) HB70.out.size ?_); intro v8 w8 n8 hn hown hg _; have HB8 := Lib.hid (HB70.out.grown hg HB70.out.size (fun k e => (HE7.out.lt k e).1)); have HA8 := Lib.hid (HAL.out _ _ (BytesAt.of_owns (by rw [hn.out] at hown; simpa using hown))); clear hn hown hg)
      | (go_at_call 8; (with_reducible refine HA8.out.mono ?_); rintro e w9 ⟨u9, rfl, hr9, hb9⟩; have HR9 := Lib.hid hr9; have HB9 := Lib.hid (HB7.out.trans ((HB8.out.trans (hb9.mono HB8.out.size)).mono HB7.out.size)); clear hr9 hb9)
      | (go_at_call 9; (with_reducible refine (HRA.out _ HB9.out).mono ?_); rintro e w10 ⟨u10, rfl, ho10, hb10⟩; have HO10 := Lib.hid ho10; have HB10 := Lib.hid hb10; clear ho10 hb10))
    obtain ⟨xs, hxm, hown, hgood⟩ := HR9.out
    have hxl : xs.length = rs.length := by rw [← hxm, List.length_map]
    rw [hxl] at hown
    obtain ⟨a9, c9, rfl⟩ := owns_slice hown
    obtain ⟨a10, c10, rfl⟩ := owns_slice HO10.out
    have HW9 := Lib.hid (ownsRow_below hown HB10.out)
    have HG9 : Hid (∀ y ∈ xs, y.Good w10) := fun y hy => ⟨((hgood y hy).1.below HB10.out).mono HB10.out.size, ((hgood y hy).2.below HB10.out).mono HB10.out.size⟩
    have HXM := Lib.hid hxm
    have HXL := Lib.hid hxl
    have HB11 := Lib.hid (HB9.out.trans (HB10.out.mono HB9.out.size))
    obtain ⟨N, hN⟩ : ∃ N, rs.length = N := ⟨_, rfl⟩
    rw [hN] at HW9 HO10 HXL ⊢
    have HNN := Lib.hid hN
    clear hxm hxl hown hgood hN HR9 HB8 HA8 HB9 HB10 HE7 HB70 HV7 HAL HRA HB7
    go_wp2
    go_loopw [11] (fun iv wr => ∃ i : Nat, iv = .int .i64 i ∧ i ≤ N ∧ Below w10.heap.size w10 wr) (fun iv _ => N - (intOf iv).toNat)
    case atStart => exact ⟨0, rfl, Nat.zero_le _, Below.refl _ _⟩
    case round =>
      obtain ⟨i, rfl, hi2, hB⟩ := hrel
      by_cases hlt : i < N
      · have i1 : (i : Int) < N := by omega
        have HW1 : Hid (wrap64 ((i : Int) + 1) = (i : Int) + 1) := by
          have := ownsRow_le HW9.out
          unfold maxLen at this
          unfold Hid wrap64; omega
        have ho9 := ownsRow_below HW9.out hB
        have ho10 := ownsRow_below HO10.out hB
        obtain ⟨g9, cp9, e9⟩ := ownsRow_pos ho9 (by omega)
        obtain ⟨g10, cp10, e10⟩ := ownsRow_pos ho10 (by omega)
        simp only [Value.slice.injEq] at e9 e10
        obtain ⟨rfl, _, rfl⟩ := e9
        obtain ⟨rfl, _, rfl⟩ := e10
        obtain ⟨y, hy⟩ : ∃ y, xs[i]? = some y := ⟨xs[i]'(by rw [HXL.out]; exact hlt), List.getElem?_eq_getElem _⟩
        have hyr : rs[i]? = some y.r := by rw [← HXM.out, List.getElem?_map, hy]; rfl
        have hgy := HG9.out y (List.mem_of_getElem? hy)
        have f0 := flat3_get (fun x : RX => x.cells.toList) (fun _ => rfl) xs i y hy
        have f1 := flat3_get (fun x : RecP => x.doc.toList) (fun _ => rfl) rs i y.r hyr
        have d0 : wr.drew.cell? ⟨g9, i * 3, none⟩ = some (.slice y.au y.nu y.cu) := (ho9.cellAt (i * 3) (by omega)).trans (f0 0 (by omega))
        have d1 : wr.drew.cell? ⟨g9, i * 3 + 1, none⟩ = some (.slice y.av y.nv y.cv) := (ho9.cellAt (i * 3 + 1) (by omega)).trans (f0 1 (by omega))
        have d2 : wr.drew.cell? ⟨g9, i * 3 + 2, none⟩ = some (.int .i64 y.r.fin) := (ho9.cellAt (i * 3 + 2) (by omega)).trans (f0 2 (by omega))
        have b0 : wr.drew.cell? ⟨g10, i * 3, none⟩ = some (.string (strB y.r.key)) := (ho10.cellAt (i * 3) (by omega)).trans (f1 0 (by omega))
        have b1 : wr.drew.cell? ⟨g10, i * 3 + 1, none⟩ = some (.string (strB y.r.val)) := (ho10.cellAt (i * 3 + 1) (by omega)).trans (f1 1 (by omega))
        have b2 : wr.drew.cell? ⟨g10, i * 3 + 2, none⟩ = some (.int .i64 y.r.fin) := (ho10.cellAt (i * 3 + 2) (by omega)).trans (f1 2 (by omega))
        have hl9 : g9 < wr.drew.heap.size := World.block_lt_of_cell? _ _ d0
        have hl10 : g10 < wr.drew.heap.size := World.block_lt_of_cell? _ _ b0
        have HT := Lib.hid (HTO.out y.r y.u y.v _ wr.drew ((hgy.1.below hB)) ((hgy.2.below hB)))
        unfold RX.u RX.v at HT
        have HBR := Lib.hid hB
        clear hy hyr hgy f0 f1 ho9 ho10 hB
        go_upto_region 13 with (fail)
        have i2 : (0 : Int) ≤ i := by omega
        go_cut [69] (fun s69 wx => s69 = .bool false ∧ Below wr.heap.size wr wx)
        case first =>
          go_region_held3 (fun W => W.cell? ⟨g9, i * 3, none⟩ = some (.slice y.au y.nu y.cu) ∧ W.cell? ⟨g9, i * 3 + 1, none⟩ = some (.slice y.av y.nv y.cv) ∧ W.cell? ⟨g9, i * 3 + 2, none⟩ = some (.int .i64 y.r.fin) ∧ W.cell? ⟨g10, i * 3, none⟩ = some (.string (strB y.r.key)) ∧ W.cell? ⟨g10, i * 3 + 1, none⟩ = some (.string (strB y.r.val)) ∧ W.cell? ⟨g10, i * 3 + 2, none⟩ = some (.int .i64 y.r.fin))
            (first | exact ⟨d0, d1, d2, b0, b1, b2⟩ | exact HS2.out)
            ((go_at_call 7; (with_reducible refine HT.out.mono ?_); rintro e w12 ⟨rfl, hb⟩; have HB12 := Lib.hid ((Below.refl _ _).drew.trans hb); have HS2 := Lib.hid (show w12.cell? ⟨g9, i * 3, none⟩ = some (.slice y.au y.nu y.cu) ∧ w12.cell? ⟨g9, i * 3 + 1, none⟩ = some (.slice y.av y.nv y.cv) ∧ w12.cell? ⟨g9, i * 3 + 2, none⟩ = some (.int .i64 y.r.fin) ∧ w12.cell? ⟨g10, i * 3, none⟩ = some (.string (strB y.r.key)) ∧ w12.cell? ⟨g10, i * 3 + 1, none⟩ = some (.string (strB y.r.val)) ∧ w12.cell? ⟨g10, i * 3 + 2, none⟩ = some (.int .i64 y.r.fin) from ⟨(hb.cell (p := ⟨g9, i * 3, none⟩) hl9).trans d0, (hb.cell (p := ⟨g9, i * 3 + 1, none⟩) hl9).trans d1, (hb.cell (p := ⟨g9, i * 3 + 2, none⟩) hl9).trans d2, (hb.cell (p := ⟨g10, i * 3, none⟩) hl10).trans b0, (hb.cell (p := ⟨g10, i * 3 + 1, none⟩) hl10).trans b1, (hb.cell (p := ⟨g10, i * 3 + 2, none⟩) hl10).trans b2⟩); clear hb))
          all_goals (go_wp2_with fail)
          all_goals go_meet
          all_goals exact ⟨rfl, HB12.out⟩
        case rest =>
          obtain ⟨rfl, hbx⟩ := hcut
          have HBX := Lib.hid (HBR.out.trans (hbx.mono HBR.out.size))
          clear hbx d0 d1 d2 b0 b1 b2
          go_wp2
          go_roundw
          case rel => exact ⟨i + 1, by rw [HW1.out]; exact congrArg (Value.int .i64) (by omega), by omega, HBX.out⟩
          case measure =>
            have h := meas_lt N i hlt HW1.out
            clear HW1
            simpa using h
      · obtain rfl : i = N := by omega
        have HBR := Lib.hid hB
        clear hB hlt hi2
        go_wp2_with (go_at_call 10; (with_reducible refine (HAW.out _).mono ?_); rintro e w12 ⟨rfl, hb⟩; have HB12 := Lib.hid hb; clear hb)
        go_ret
        exact ⟨rfl, HB11.out.trans ((HBR.out.trans (HB12.out.mono HBR.out.size)).mono HB11.out.size)⟩
  · have hl1 : 1000 < (bs.length : Int) := by omega
    go_enter Try.func3, Try.ntmps3
    go_wp2
    go_ret
    exact ⟨rfl, Below.refl _ _⟩
set_option maxRecDepth 100000 in
theorem recordReads_lifted (os : Os) (started : os.Started) (H : Type) (enc : TypeId × Value → H) :
    ReturnsInHanded {} Try.checked os 3 .any (Rows.recordReadsSpec.pre6 enc Try.prog Try.f3 Rows.recordReadsRow.domain false) (Rows.recordReadsSpec.post enc Try.prog Try.f3 false true false false) :=
  law_lifted 3 Try.f3 Rows.recordReadsSpec Try.func3 (by kernel_rfl) rfl rfl
    (fun ds h => by match ds, h with | [_], _ => rfl) (by kernel_rfl) os started
    (ChangeSpec.witness6 (enc := enc) (C := Try.checked) false ⟨#[], #[.slice none 0 0], []⟩ 8 (by kernel_rfl) (by kernel_rfl) (by kernel_rfl) (by kernel_rfl))
    fun W args ds ps hval hA => by
      rw [Try.params3] at hA hval
      obtain ⟨v0, vs0, d0, ds0, p0, q0, hargs, rfl, rfl, h0, r0⟩ := trodAll_cons hA
      obtain ⟨rfl, rfl, rfl⟩ := trodAll_nil r0
      obtain rfl : args = #[v0] := by cases args; simp_all
      obtain ⟨b0, o0⟩ := hval 0 _ v0 rfl rfl
      obtain ⟨bs0, hb0, hm0⟩ := open_bytes o0 h0
      exact recordReads_walk v0 bs0 W hb0

/-- The statement. -/
theorem recordReads_holds : Rows.RecordReadsSaid :=
  OpenClaim.holds_of_wide 3 Try.f3 rfl rfl rfl rfl rfl rfl rfl ⟨rfl, rfl, rfl, rfl, rfl⟩ rfl rfl rfl rfl rfl (by kernel_rfl) Try.func3 (by kernel_rfl)
    (of_decide_eq_true (by kernel_rfl)) (by unfold Func.isWrapper; first | (rw [if_pos (by decide +kernel)]; kernel_rfl) | (rw [if_neg (by decide +kernel)]; exact ⟨rfl, rfl⟩))
    (fun os started H enc _ => recordReads_lifted os started H enc)
#print axioms recordReads_holds
end Go.Proofs.Ytakipdfmlolgfaa

/-
  LeafPlaces: a leaf is got by its own kind and place alone.
  Conditions: none.
-/
import Derived.Test.YtopjadmjahpeoaaLeafDev
import Derived.Test.YtopjadmjahpeoaaOpenBn
namespace Go.Proofs.Ytopjadmjahpeoaa
open Go.ChangeShapes Go.WideShapes Go.ChangeAt Go.RowKit

theorem docP_cells {w0 W : World} {X : Nat} {x : LeafP} {t : TypeId} (h : w0.heap[X]? = some (.cells x.doc t (0, 0))) (hb : Below w0.heap.size w0 W) :
    W.cell? ⟨X, 0, none⟩ = some (.int .i64 x.kind) ∧ W.cell? ⟨X, 1, none⟩ = some (.int .i64 x.place) ∧ W.cell? ⟨X, 2, none⟩ = some (.int .i64 x.stamp) ∧ W.cell? ⟨X, 3, none⟩ = some (.string (strB x.load)) := leaf_cells h hb
theorem row_new (W : World) (y : LeafP) (u : Value) : Below W.heap.size W ((W.alloc (.cells (LeafP.zero.cells (.slice none 0 0)) 29)).setRow W.heap.size (y.cells u)) ∧ ((W.alloc (.cells (LeafP.zero.cells (.slice none 0 0)) 29)).setRow W.heap.size (y.cells u)).heap[W.heap.size]? = some (.cells (y.cells u) 29 (0, 0)) :=
  ⟨below_setRow ((Below.refl _ _).alloc (Nat.le_refl _) _) (Nat.le_refl _) _, setRow_heap _ _ _ _ _ _ (heap_alloc_new _ _)⟩
theorem leafpP_cells {w0 W : World} {X : Nat} {x : LeafP} {u : Value} {t : TypeId} (h : w0.heap[X]? = some (.cells (x.cells u) t (0, 0))) (hb : Below w0.heap.size w0 W) :
    W.cell? ⟨X, 0, none⟩ = some (.int .i64 x.kind) ∧ W.cell? ⟨X, 1, none⟩ = some (.int .i64 x.place) ∧ W.cell? ⟨X, 2, none⟩ = some (.int .i64 x.stamp) ∧ W.cell? ⟨X, 3, none⟩ = some u := leaf_cells h hb
/-- The device of one sector, written once. -/
def oneDev (bs : List (BitVec 8)) : Dev := (Dev.new 1 96).write 0 bs
theorem oneDev_parts (bs : List (BitVec 8)) (h : bs.length = 96) : (oneDev bs).sectors = 1 ∧ (oneDev bs).down = false ∧ (oneDev bs).cur 0 = bs ∧ writeErr (Dev.new 1 96) 0 bs.length = 0 := by
  have ha : askErr (Dev.new 1 96).sectors (Dev.new 1 96).down 0 = 0 := rfl
  have e : oneDev bs = ((Dev.new 1 96).give 0 bs).act := by
    unfold oneDev Dev.write
    rw [if_pos ⟨ha, h⟩]
    rfl
  rw [e]
  refine ⟨rfl, rfl, ?_, ?_⟩
  · exact cur_some (d := ((Dev.new 1 96).give 0 bs).act) (i := 0) rfl (fun j x hj hx => by
      have : (((Dev.new 1 96).give 0 bs).act).loose = [(0, bs)] := rfl
      rw [this] at hx
      rw [List.getElem?_eq_none (by simp; omega)] at hx
      cases hx)
  · unfold writeErr
    rw [if_neg (by rw [ha]; decide), if_neg (by rw [h]; decide)]
    rfl

set_option maxRecDepth 100000 in
set_option maxHeartbeats 6000000 in
theorem leafPlaces_walk (x : LeafP) (hx : x.wf) (kind place : Int) (w : World) : Calls Try.prog 7 #[.agg x.doc, .int .i64 kind, .int .i64 place] w (Good w) := by
  have HD : Hid (x.doc = #[.int .i64 x.kind, .int .i64 x.place, .int .i64 x.stamp, .string (strB x.load)]) := rfl
  have hX : (w.alloc (.cells x.doc 23)).heap[w.heap.size]? = some (.cells x.doc 23 (0, 0)) := heap_alloc_new _ _
  have HB0 : Hid (Below w.heap.size w (w.alloc (.cells x.doc 23))) := (Below.refl _ _).alloc (Nat.le_refl _) _
  have HST := Lib.hid hx.stamp.2
  clear hx
  obtain ⟨w0, hw0⟩ : ∃ w0, w.alloc (.cells x.doc 23) = w0 := ⟨_, rfl⟩
  obtain ⟨X, hXe⟩ : ∃ X, w.heap.size = X := ⟨_, rfl⟩
  rw [hw0] at hX HB0
  rw [hXe] at hX
  have HX := Lib.hid hX
  have HXE := Lib.hid hXe
  rw [HD.out] at hw0 ⊢
  clear hX hXe
  have HAW := Lib.hid (fun W => awake05 W)
  have HNEW := Lib.hid (show Calls Try.prog 16 #[.int .i64 1, .int .i64 96] w0 (fun e W' => ∃ D, e = .returned (.pointer (some ⟨D, 0, none⟩)) ∧ DevHere w0 D (Dev.new 1 96) W' ∧ Below w0.heap.size w0 W') from here_new 1 96 (by decide) (Below.refl _ _))
  have HOF := Lib.hid (fun W => (show Calls Try.prog 9 #[.agg #[.int .i64 x.kind, .int .i64 x.place, .int .i64 x.stamp, .string (strB x.load)]] W (LeafRet x W) from of05_any x W))
  have HPUT := Lib.hid (fun D W (u : Value) (h : DevHere w0 D (Dev.new 1 96) W) (hu : BytesAt W.heap.size W u x.load) => (show Calls Try.prog 18 #[.pointer (some ⟨D, 0, none⟩), .int .i64 0, .agg (x.cells u)] W (PutAt w0 D (Dev.new 1 96) 0 (buildB 96 x.kind x.place x.stamp x.load) (buildErr 96 x.kind x.place x.stamp x.load.length)) from put_here h 0 x u hu HST.out (small_new 1 96) (by decide)))
  go_enter Try.func7, Try.ntmps7
  go_upto_region 1 with (fail)
  rw [HXE.out]
  clear hw0
  go_upto_region 2 with (go_at_call 16; (with_reducible refine HNEW.out.mono ?_); rintro e w1 ⟨D, rfl, hd, hb⟩; have HD1 := Lib.hid hd; obtain ⟨c0, c1, c2, c3⟩ := docP_cells HX.out hb; clear hd hb)
  by_cases he : buildErr 96 x.kind x.place x.stamp x.load.length = 0
  · obtain ⟨r1, r2, r3⟩ := read_built he HST.out
    have hbb : buildB 96 x.kind x.place x.stamp x.load = leafB 96 x.kind x.place x.stamp x.load := by unfold buildB; rw [if_pos he]
    rw [hbb, he] at HPUT
    obtain ⟨bs, hbs⟩ : ∃ bs, leafB 96 x.kind x.place x.stamp x.load = bs := ⟨_, rfl⟩
    rw [hbs] at HPUT r1 r2 r3
    have hlen : bs.length = 96 := by omega
    obtain ⟨o1, o2, o3, o4⟩ := oneDev_parts bs hlen
    have HP2 := Lib.hid (fun D W (u : Value) (h : DevHere w0 D (Dev.new 1 96) W) (hu : BytesAt W.heap.size W u x.load) => (HPUT.out D W u h hu).mono (R' := fun e W' => e = .returned (.int .i64 0) ∧ DevHere w0 D (oneDev bs) W') (fun e W' hp => by
      rcases hp with ⟨_, h1, h2⟩ | ⟨h1, _⟩
      · exact ⟨by rw [h1, o4], h2⟩
      · exact absurd rfl h1))
    have g1 : gotErr (oneDev bs) 0 x.kind x.place = 0 ∧ gotL (oneDev bs) 0 x.kind x.place = x := by
      have h1 : gotErr (oneDev bs) 0 x.kind x.place = 0 := by
        unfold gotErr
        rw [o1, o2, show (0 : Int).toNat = 0 from rfl, o3, r1, r2, if_pos (show askErr ((1 : Nat) : Int) false 0 = 0 by decide), if_pos ⟨rfl, rfl, rfl⟩]
      exact ⟨h1, by unfold gotL; rw [h1, if_pos rfl, show (0 : Int).toNat = 0 from rfl, o3, r2]⟩
    have g2 : ∀ k p, gotErr (oneDev bs) 1 k p = 2 := fun k p => by
      unfold gotErr
      rw [o1, o2, if_neg (by decide)]; rfl
    have g3 : gotErr (oneDev bs) 0 kind place = (if x.kind = kind ∧ x.place = place then 0 else 5) := by
      unfold gotErr
      rw [o1, o2, show (0 : Int).toNat = 0 from rfl, o3, r1, r2, if_pos (show askErr ((1 : Nat) : Int) false 0 = 0 by decide)]
      by_cases hkp : x.kind = kind ∧ x.place = place
      · rw [if_pos ⟨rfl, hkp⟩, if_pos hkp]
      · rw [if_neg (fun h => hkp h.2), if_neg hkp]
    have g4 : gotErr (oneDev bs) 0 kind place ≠ 0 → (gotL (oneDev bs) 0 kind place).load.length = 0 := fun h => by unfold gotL; rw [if_neg h]; rfl
    have HG1 := Lib.hid (fun D W (h : DevHere w0 D (oneDev bs) W) => (show Calls Try.prog 22 #[.pointer (some ⟨D, 0, none⟩), .int .i64 0, .int .i64 x.kind, .int .i64 x.place] W (GetAt w0 D (oneDev bs) x 0 W) from by have := get_here h 0 x.kind x.place; rw [g1.1, g1.2] at this; exact this))
    have HG2 := Lib.hid (fun D W (h : DevHere w0 D (oneDev bs) W) => (show Calls Try.prog 22 #[.pointer (some ⟨D, 0, none⟩), .int .i64 1, .int .i64 x.kind, .int .i64 x.place] W (GetAt w0 D (oneDev bs) (gotL (oneDev bs) 1 x.kind x.place) 2 W) from by have := get_here h 1 x.kind x.place; rw [g2] at this; exact this))
    have HG3 := Lib.hid (fun D W (h : DevHere w0 D (oneDev bs) W) => (show Calls Try.prog 22 #[.pointer (some ⟨D, 0, none⟩), .int .i64 0, .int .i64 kind, .int .i64 place] W (GetAt w0 D (oneDev bs) (gotL (oneDev bs) 0 kind place) (gotErr (oneDev bs) 0 kind place) W) from get_here h 0 kind place))
    obtain ⟨z, hz⟩ : ∃ z, gotL (oneDev bs) 1 x.kind x.place = z := ⟨_, rfl⟩
    obtain ⟨y, hy⟩ : ∃ y, gotL (oneDev bs) 0 kind place = y := ⟨_, rfl⟩
    obtain ⟨er, her⟩ : ∃ er, gotErr (oneDev bs) 0 kind place = er := ⟨_, rfl⟩
    simp only [hz] at HG2
    simp only [hy, her] at HG3 g3 g4
    have HY := Lib.hid g4
    have HE := Lib.hid g3
    have HTO := Lib.hid (fun (u : Value) n W (h : BytesAt n W u x.load) => (show Calls Try.prog 15 #[.agg #[.int .i64 x.kind, .int .i64 x.place, .int .i64 x.stamp, u], .agg #[.int .i64 x.kind, .int .i64 x.place, .int .i64 x.stamp, .string (strB x.load)]] W (fun e w' => e = .returned (.bool true) ∧ Below W.heap.size W w') from told05_yes x u n W h))
    generalize oneDev bs = dv at HP2 HG1 HG2 HG3
    clear r1 r2 r3 hbb he hbs hlen o1 o2 o3 o4 g1 g2 g3 g4 hz hy her HPUT
    go_upto_region 4 with (first
      | (go_at_call 9; (with_reducible refine (HOF.out _).mono ?_); rintro e w2 ⟨u, rfl, hu, hb⟩; have HP3 := Lib.hid (HP2.out _ _ _ (HD1.out.on hb) hu); clear hu hb)
      | (go_at_call 18; (with_reducible refine HP3.out.mono ?_); rintro e w3 ⟨rfl, hd⟩; have HD3 := Lib.hid hd; clear hd))
    have HBD3 := Lib.hid HD3.out.below
    go_upto_region 5 with (first
      | (go_at_call 22; (with_reducible refine (HG3.out _ _ HD3.out).mono ?_); rintro e w4 ⟨hd, u4, rfl, hu, hb⟩; obtain ⟨a4, cu4, rfl, _⟩ := id hu; have HD4 := Lib.hid hd; have HU4 := Lib.hid hu; have HB4 := Lib.hid hb; clear hd hu hb)
      | (refine wpList_store_row (o := ⟨none, _, _, _, _, _⟩) rfl 29 (.tmp 8) (.tmp 27) rfl w4.heap.size (y.cells (.slice a4 y.load.length cu4)) rfl rfl 29 (LeafP.zero.cells (.slice none 0 0)) (heap_alloc_new _ _) (leaf_sz _ _) rfl ?_ ?_; exact leaf_one _))
    obtain ⟨hbw, hPw⟩ := row_new w4 y (.slice a4 y.load.length cu4)
    change (Code.region _ _ _).wp _ _ _ ((w4.alloc (.cells (LeafP.zero.cells (.slice none 0 0)) 29)).setRow w4.heap.size (y.cells (.slice a4 y.load.length cu4)))
    generalize (w4.alloc (.cells (LeafP.zero.cells (.slice none 0 0)) 29)).setRow w4.heap.size (y.cells (.slice a4 y.load.length cu4)) = w5 at hbw hPw ⊢
    have HD5 := Lib.hid (HD4.out.on hbw)
    have HU5 := Lib.hid ((HU4.out.below hbw).mono hbw.size)
    have HB5 := Lib.hid (HB4.out.trans (hbw.mono HB4.out.size))
    have HP5 := Lib.hid hPw
    obtain ⟨P5, hP5⟩ : ∃ P, w4.heap.size = P := ⟨_, rfl⟩
    rw [hP5] at HP5 ⊢
    clear hbw hPw hP5 HD4 HU4 HB4
    obtain ⟨c0, c1, c2, c3⟩ := docP_cells HX.out HD5.out.below
    go_upto_region 6 with (first
      | (go_at_call 22; (with_reducible refine (HG1.out _ _ HD5.out).mono ?_); rintro e w6 ⟨hd, u6, rfl, hu, hb⟩; obtain ⟨a6, cu6, rfl, _⟩ := id hu; have HD6 := Lib.hid hd; have HU6 := Lib.hid hu; have HB6 := Lib.hid hb; clear hd hu hb)
      | (refine wpList_store_row (o := ⟨none, _, _, _, _, _⟩) rfl 29 (.tmp 10) (.tmp 36) rfl w6.heap.size (x.cells (.slice a6 x.load.length cu6)) rfl rfl 29 (LeafP.zero.cells (.slice none 0 0)) (heap_alloc_new _ _) (leaf_sz _ _) rfl ?_ ?_; exact leaf_one _))
    obtain ⟨hbw, hPw⟩ := row_new w6 x (.slice a6 x.load.length cu6)
    change (Code.region _ _ _).wp _ _ _ ((w6.alloc (.cells (LeafP.zero.cells (.slice none 0 0)) 29)).setRow w6.heap.size (x.cells (.slice a6 x.load.length cu6)))
    generalize (w6.alloc (.cells (LeafP.zero.cells (.slice none 0 0)) 29)).setRow w6.heap.size (x.cells (.slice a6 x.load.length cu6)) = w7 at hbw hPw ⊢
    have HD7 := Lib.hid (HD6.out.on hbw)
    have HU7 := Lib.hid ((HU6.out.below hbw).mono hbw.size)
    have HB7 := Lib.hid (HB6.out.trans (hbw.mono HB6.out.size))
    have HP7 := Lib.hid hPw
    obtain ⟨P7, hP7⟩ : ∃ P, w6.heap.size = P := ⟨_, rfl⟩
    rw [hP7] at HP7 ⊢
    clear hbw hPw hP7 HD6 HU6 HB6
    obtain ⟨c0, c1, c2, c3⟩ := docP_cells HX.out HD7.out.below
    go_upto_region 7 with (first
      | (go_at_call 22; (with_reducible refine (HG2.out _ _ HD7.out).mono ?_); rintro e w8 ⟨hd, u8, rfl, hu, hb⟩; obtain ⟨a8, cu8, rfl, _⟩ := id hu; have HD8 := Lib.hid hd; have HU8 := Lib.hid hu; have HB8 := Lib.hid hb; clear hd hu hb)
      | (refine wpList_store_row (o := ⟨none, _, _, _, _, _⟩) rfl 29 (.tmp 12) (.tmp 45) rfl w8.heap.size (z.cells (.slice a8 z.load.length cu8)) rfl rfl 29 (LeafP.zero.cells (.slice none 0 0)) (heap_alloc_new _ _) (leaf_sz _ _) rfl ?_ ?_; exact leaf_one _))
    obtain ⟨hbw, hPw⟩ := row_new w8 z (.slice a8 z.load.length cu8)
    change (Code.region _ _ _).wp _ _ _ ((w8.alloc (.cells (LeafP.zero.cells (.slice none 0 0)) 29)).setRow w8.heap.size (z.cells (.slice a8 z.load.length cu8)))
    generalize (w8.alloc (.cells (LeafP.zero.cells (.slice none 0 0)) 29)).setRow w8.heap.size (z.cells (.slice a8 z.load.length cu8)) = w9 at hbw hPw ⊢
    have HD9 := Lib.hid (HD8.out.on hbw)
    have HU9 := Lib.hid ((HU8.out.below hbw).mono hbw.size)
    have HB9 := Lib.hid (HB8.out.trans (hbw.mono HB8.out.size))
    have HP9 := Lib.hid hPw
    obtain ⟨P9, hP9⟩ : ∃ P, w8.heap.size = P := ⟨_, rfl⟩
    rw [hP9] at HP9 ⊢
    clear hbw hPw hP9 HD8 HU8 HB8
    obtain ⟨c0, c1, c2, c3⟩ := docP_cells HX.out HD9.out.below
    have hb59 : Below w5.heap.size w5 w9 := HB7.out.trans (HB9.out.mono HB7.out.size)
    obtain ⟨p0, p1, p2, p3⟩ := leafpP_cells HP5.out hb59
    obtain ⟨q0, q1, q2, q3⟩ := leafpP_cells HP7.out HB9.out
    have HT9 := Lib.hid (HTO.out _ _ w9 (HU7.out.below HB9.out))
    have HEND := Lib.hid (HB0.out.trans (HD9.out.below.mono HB0.out.size))
    clear hb59 HOF HNEW HP2 HG1 HG2 HG3 HP3 HTO HU5 HU7 HU9 HB5 HB7 HB9 HP5 HP7 HP9 HD1 HD3 HD5 HD7 HD9 HBD3 HX HXE HD p0 p1 p2
    by_cases hk : x.kind = kind
    · by_cases hp : x.place = place
      · have he : er = 0 := by rw [HE.out, if_pos ⟨hk, hp⟩]
        subst he
        have k1 : (kind == x.kind) = true := by simp [hk]
        have k2 : (place == x.place) = true := by simp [hp]
        clear hk hp HE HY
        go_wp2_with (first
          | (go_at_call 15; (with_reducible refine HT9.out.mono ?_); rintro e w10 ⟨rfl, hb⟩; have HB10 := Lib.hid hb; clear hb)
          | (go_at_call 12; (with_reducible refine (HAW.out _).mono ?_); rintro e w11 ⟨rfl, hb⟩; have HB11 := Lib.hid hb; clear hb))
        go_ret
        exact ⟨rfl, HEND.out.trans ((HB10.out.trans (HB11.out.mono HB10.out.size)).mono HEND.out.size)⟩
      · have he : er = 5 := by rw [HE.out, if_neg (fun h => hp h.2)]
        have hy0 : y.load.length = 0 := HY.out (by rw [he]; decide)
        subst he
        have k1 : (kind == x.kind) = true := by simp [hk]
        have k2 : (place == x.place) = false := by simpa using fun h => hp h.symm
        rw [hy0] at p3
        clear hk hp HE HY hy0
        go_wp2_with (first
          | (go_at_call 15; (with_reducible refine HT9.out.mono ?_); rintro e w10 ⟨rfl, hb⟩; have HB10 := Lib.hid hb; clear hb)
          | (go_at_call 12; (with_reducible refine (HAW.out _).mono ?_); rintro e w11 ⟨rfl, hb⟩; have HB11 := Lib.hid hb; clear hb))
        go_ret
        exact ⟨rfl, HEND.out.trans ((HB10.out.trans (HB11.out.mono HB10.out.size)).mono HEND.out.size)⟩
    · have he : er = 5 := by rw [HE.out, if_neg (fun h => hk h.1)]
      have hy0 : y.load.length = 0 := HY.out (by rw [he]; decide)
      subst he
      have k1 : (kind == x.kind) = false := by simpa using fun h => hk h.symm
      rw [hy0] at p3
      clear hk HE HY hy0
      go_wp2_with (first
        | (go_at_call 15; (with_reducible refine HT9.out.mono ?_); rintro e w10 ⟨rfl, hb⟩; have HB10 := Lib.hid hb; clear hb)
        | (go_at_call 12; (with_reducible refine (HAW.out _).mono ?_); rintro e w11 ⟨rfl, hb⟩; have HB11 := Lib.hid hb; clear hb))
      go_ret
      exact ⟨rfl, HEND.out.trans ((HB10.out.trans (HB11.out.mono HB10.out.size)).mono HEND.out.size)⟩
  · obtain ⟨er, her⟩ : ∃ er, buildErr 96 x.kind x.place x.stamp x.load.length = er := ⟨_, rfl⟩
    rw [her] at HPUT he
    have HP2 := Lib.hid (fun D W (u : Value) (h : DevHere w0 D (Dev.new 1 96) W) (hu : BytesAt W.heap.size W u x.load) => (HPUT.out D W u h hu).mono (R' := fun e W' => e = .returned (.int .i64 er) ∧ DevHere w0 D (Dev.new 1 96) W') (fun e W' hp => by
      rcases hp with ⟨h1, _⟩ | ⟨_, h2⟩
      · exact absurd h1 he
      · exact h2))
    have hne : (er != 0) = true := by simpa using he
    clear he her HPUT
    go_wp2_with (first
      | (go_at_call 9; (with_reducible refine (HOF.out _).mono ?_); rintro e w2 ⟨u, rfl, hu, hb⟩; have HP3 := Lib.hid (HP2.out _ _ _ (HD1.out.on hb) hu); clear hu hb)
      | (go_at_call 18; (with_reducible refine HP3.out.mono ?_); rintro e w3 ⟨rfl, hd⟩; have HD3 := Lib.hid hd; clear hd)
      | (go_at_call 12; (with_reducible refine (HAW.out _).mono ?_); rintro e w6 ⟨rfl, hb⟩; have HB6 := Lib.hid hb; clear hb))
    go_ret
    exact ⟨rfl, HB0.out.trans ((HD3.out.below.trans (HB6.out.mono HD3.out.below.size)).mono HB0.out.size)⟩
set_option maxRecDepth 100000 in
theorem leafPlaces_lifted (os : Os) (started : os.Started) (H : Type) (enc : TypeId × Value → H) :
    ReturnsInHanded {} Try.checked os 7 .any (Rows.leafPlacesSpec.pre6 enc Try.prog Try.f7 Rows.leafPlacesRow.domain false) (Rows.leafPlacesSpec.post enc Try.prog Try.f7 false true false false) :=
  law_lifted 7 Try.f7 Rows.leafPlacesSpec Try.func7 (by kernel_rfl) rfl rfl
    (fun ds h => by match ds, h with | [_, _, _], _ => rfl) (by kernel_rfl) os started
    (ChangeSpec.witness6 (enc := enc) (C := Try.checked) false ⟨#[], #[.agg #[.int .i64 0, .int .i64 0, .int .i64 0, .string ⟨#[]⟩], .int .i64 0, .int .i64 0], []⟩ 8 (by kernel_rfl) (by kernel_rfl) (by kernel_rfl) (by kernel_rfl))
    fun W args ds ps hval hA => by
      rw [Try.params7] at hA hval
      obtain ⟨v0, vs0, d0, ds0, p0, q0, hargs, rfl, rfl, h0, r0⟩ := trodAll_cons hA
      obtain ⟨v1, vs1, d1, ds1, p1, q1, rfl, rfl, rfl, h1, r1⟩ := trodAll_cons r0
      obtain ⟨v2, vs2, d2, ds2, p2, q2, rfl, rfl, rfl, h2, r2⟩ := trodAll_cons r1
      obtain ⟨rfl, rfl, rfl⟩ := trodAll_nil r2
      obtain rfl : args = #[v0, v1, v2] := by cases args; simp_all
      obtain ⟨b0, o0⟩ := hval 0 _ v0 rfl rfl
      obtain ⟨b1, o1⟩ := hval 1 _ v1 rfl rfl
      obtain ⟨b2, o2⟩ := hval 2 _ v2 rfl rfl
      obtain ⟨q0, rfl, hq0⟩ := open_leaf o0 h0
      obtain ⟨a1, rfl, rfl, rfl, w1⟩ := open_int Try.underlying3 o1 h1
      obtain ⟨a2, rfl, rfl, rfl, w2⟩ := open_int Try.underlying3 o2 h2
      exact leafPlaces_walk q0 hq0 a1 a2 W

/-- The statement. -/
theorem leafPlaces_holds : Rows.LeafPlacesSaid :=
  OpenClaim.holds_of_wide 7 Try.f7 rfl rfl rfl rfl rfl rfl rfl ⟨rfl, rfl, rfl, rfl, rfl⟩ rfl rfl rfl rfl rfl (by kernel_rfl) Try.func7 (by kernel_rfl)
    (of_decide_eq_true (by kernel_rfl)) (by unfold Func.isWrapper; first | (rw [if_pos (by decide +kernel)]; kernel_rfl) | (rw [if_neg (by decide +kernel)]; exact ⟨rfl, rfl⟩))
    (fun os started H enc _ => leafPlaces_lifted os started H enc)
#print axioms leafPlaces_holds
end Go.Proofs.Ytopjadmjahpeoaa

/-
  record.Unpack: the record that bytes begin with.
  Conditions: none.
-/
import Derived.Test.YtdpjhcdkiddplaaRec3
import Derived.Deep.DeepCutAuto
import Derived.Laws.Tables
import Derived.Laws.Rows
import Derived.Laws.CopyOwn
namespace Go.Proofs.Ytdpjhcdkiddplaa
open Go.RowKit

/-- A record: its key, its value, its end. -/
structure RecP where
  key : List (BitVec 8)
  val : List (BitVec 8)
  fin : Int
def RecP.cells (x : RecP) (u v : Value) : Array Value := #[u, v, .int .i64 x.fin]
def RecP.zero : RecP := ⟨[], [], 0⟩
/-- The numbers ahead of a record's key. -/
def hd1 (bs : List (BitVec 8)) : BitVec 64 := rdN (bs.take 12) 1
def hd2 (bs : List (BitVec 8)) : Int := wrap64 (U (rdN (rdL (bs.take 12) 1) 1))
def hd3 (bs : List (BitVec 8)) : Int := wrap64 (U (rdN (rdL (rdL (bs.take 12) 1) 1) 2))
def hd4 (bs : List (BitVec 8)) : Int := wrap64 (U (rdN (rdL (rdL (rdL (bs.take 12) 1) 1) 2) 8))
def recN (bs : List (BitVec 8)) : Int := recSize (hd2 bs) (hd3 bs)
def recGood (bs : List (BitVec 8)) : Prop := U (hd1 bs) = 165 ∧ recN bs ≠ 0 ∧ isEndB (hd4 bs) = true ∧ recN bs ≤ bs.length ∧ bs[(recN bs - 1).toNat]?.getD 0 = 90#8
instance (bs : List (BitVec 8)) : Decidable (recGood bs) := by unfold recGood; infer_instance
def recOf (bs : List (BitVec 8)) : RecP := ⟨(bs.drop 12).take (hd2 bs).toNat, (bs.drop (12 + (hd2 bs).toNat)).take (hd3 bs).toNat, hd4 bs⟩
def unpRec (bs : List (BitVec 8)) : RecP := if recGood bs then recOf bs else RecP.zero
def unpN (bs : List (BitVec 8)) : Int := if recGood bs then recN bs else 0
def unpErr (bs : List (BitVec 8)) : Int := if recGood bs then 0 else 5
/-- What Unpack answers. -/
def Unpacked (x : RecP) (n er : Int) (w : World) (e : Ending) (w' : World) : Prop := ∃ u v, e = .returned (.tuple #[.agg (x.cells u v), .int .i64 n, .int .i64 er]) ∧ BytesAt w'.heap.size w' u x.key ∧ BytesAt w'.heap.size w' v x.val ∧ Below w.heap.size w w'
theorem rec_sz (x : RecP) (u v : Value) : (Try.prog.info? 30).map (·.size) = some (x.cells u v).size := by show _ = some 3; kernel_rfl
theorem rec_one (x : RecP) {a b : Option Addr} {n c m d : Nat} : (x.cells (.slice a n c) (.slice b m d)).all (·.oneCell') = true := by simp [RecP.cells, Value.oneCell']
theorem unp3_res (w : World) (z : Nat) (x : RecP) (u v : Value) (n er : Int) (a : Act) (h : w.heap[z]? = some (.cells (x.cells u v) 30 (0, 0))) (h2 : a.tmps.getD 2 undef = .pointer (some ⟨z, 0, none⟩)) (h3 : a.tmps.getD 3 undef = .int .i64 n) (h4 : a.tmps.getD 4 undef = .int .i64 er) :
    (results Try.f6 a.tmps).run Try.prog w = .ok (.tuple #[.agg (x.cells u v), .int .i64 n, .int .i64 er]) w := by
  have h2' : a.tmps[2]?.getD undef = .pointer (some ⟨z, 0, none⟩) := by simpa using h2
  have h3' : a.tmps[3]?.getD undef = .int .i64 n := by simpa using h3
  have h4' : a.tmps[4]?.getD undef = .int .i64 er := by simpa using h4
  simp [results, Try.results6, h2', h3', h4', asAddr, run_loadVar_row w z 30 30 (x.cells u v) (0, 0) _ h Try.underlying30 rfl (rec_sz x u v)]
theorem rdL_len (l : List (BitVec 8)) (k : Int) : (rdL l k).length ≤ l.length := leftB_len _ _
theorem BytesAt.besideRow {n₀ P : Nat} {w : World} {u : Value} {bs : List (BitVec 8)} {cs : Array Value} {t : TypeId} (h : BytesAt n₀ w u bs) (hcs : ∀ (j : Nat) (v : Value), cs[j]? = some v → ∀ y : Int, v ≠ .int .u8 y) (hP : w.heap[P]? = some (.cells cs t (0, 0))) (cs' : Array Value) : BytesAt n₀ (w.setRow P cs') u bs := by
  obtain ⟨a', cap, rfl, hl, h0, h⟩ := h
  refine ⟨a', cap, rfl, hl, h0, ?_⟩
  rcases h with h | ⟨g, off, rfl, hg, hc⟩
  · exact .inl h
  · refine .inr ⟨g, off, rfl, hg, fun j hj => ?_⟩
    have hne : g ≠ P := by
      rintro rfl
      have h1 := hc j hj
      rw [blk_cell hP] at h1
      exact hcs _ _ h1 _ rfl
    exact (World.cell?_of_block (setRow_other w P g cs' hne)).trans (hc j hj)
theorem rec_none (x : RecP) (a b : Option Addr) (n c m d : Nat) (j : Nat) (v : Value) (h : (x.cells (.slice a n c) (.slice b m d))[j]? = some v) (y : Int) : v ≠ .int .u8 y := by
  rintro rfl
  match j with
  | 0 => simp [RecP.cells] at h
  | 1 => simp [RecP.cells] at h
  | 2 => simp [RecP.cells] at h
  | j + 3 => simp [RecP.cells] at h
theorem BytesAt.tight {n : Nat} {w : World} {u : Value} {bs : List (BitVec 8)} (h : BytesAt n w u bs) : BytesAt w.heap.size w u bs := by
  obtain ⟨a, cap, rfl, hl, h0, h⟩ := h
  refine ⟨a, cap, rfl, hl, h0, ?_⟩
  rcases h with h | ⟨g, off, rfl, hg, hc⟩
  · exact .inl h
  · by_cases he : bs = []
    · exact .inl he
    · exact .inr ⟨g, off, rfl, World.block_lt_of_cell? _ _ (hc 0 (by cases bs with
        | nil => exact absurd rfl he
        | cons b l => simp)), hc⟩
theorem recSize_pos {k v : Int} (h : recSize k v ≠ 0) : 1 ≤ k ∧ k ≤ 64 ∧ 0 ≤ v ∧ v ≤ 4096 ∧ recSize k v = 13 + k + v := by
  unfold recSize at h ⊢
  by_cases hb : (isKeyB k && isValB v) = true
  · rw [if_pos hb]
    obtain ⟨h1, h2⟩ : isKeyB k = true ∧ isValB v = true := by simpa using hb
    obtain ⟨k1, k2⟩ : 1 ≤ k ∧ k ≤ 64 := by simpa [isKeyB] using h1
    obtain ⟨v1, v2⟩ : 0 ≤ v ∧ v ≤ 4096 := by simpa [isValB] using h2
    exact ⟨k1, k2, v1, v2, rfl⟩
  · rw [if_neg hb] at h; exact absurd rfl h

set_option maxRecDepth 100000 in
set_option maxHeartbeats 8000000 in
theorem unpackR_any (v : Value) (bs : List (BitVec 8)) (w : World) (hv : BytesAt w.heap.size w v bs) (hl : bs.length ≤ 549755813888) :
    Calls Try.prog 6 #[v] w (Unpacked (unpRec bs) (unpN bs) (unpErr bs) w) := by
  have hB0 : Below w.heap.size w (w.alloc (.cells (RecP.zero.cells (.slice none 0 0) (.slice none 0 0)) 30)) := (Below.refl _ _).alloc (Nat.le_refl _) _
  have HV := Lib.hid ((hv.below hB0).mono hB0.size)
  have hZ : (w.alloc (.cells (RecP.zero.cells (.slice none 0 0) (.slice none 0 0)) 30)).heap[w.heap.size]? = some (.cells (RecP.zero.cells (.slice none 0 0) (.slice none 0 0)) 30 (0, 0)) := heap_alloc_new _ _
  have HB0 := Lib.hid hB0
  have HZ := Lib.hid hZ
  have HL := Lib.hid hl
  have HNR := Lib.hid (fun (u : Value) (l : List (BitVec 8)) W h hl => newRd_any u l W h hl)
  obtain ⟨a, cap, hvv, hcap, _⟩ := id hv
  subst hvv
  clear hB0 hZ hv
  go_enter Try.func6, Try.ntmps6
  go_upto_region 1 with (fail)
  change (Code.region _ _ _).wp _ _ _ (w.alloc (.cells (RecP.zero.cells (.slice none 0 0) (.slice none 0 0)) 30))
  generalize w.alloc (.cells (RecP.zero.cells (.slice none 0 0) (.slice none 0 0)) 30) = w0 at HV HZ HB0 ⊢
  go_cut [5] (fun s wx => ∃ R, s = .pointer (some ⟨R, 0, none⟩) ∧ RdAt w0 R (bs.take 12) false wx)
  case first =>
    have hl1 : (bs.length : Int) ≤ 549755813888 := by omega
    have hc1 : (bs.length : Int) ≤ cap := by omega
    by_cases h12 : bs.length ≤ 12
    · have HT : Hid (bs.take 12 = bs) := List.take_of_length_le h12
      have h12' : (bs.length : Int) ≤ 12 := by omega
      have hmin : min (bs.length : Int) 12 = bs.length := by omega
      have HN := Lib.hid (HNR.out _ _ w0 HV.out (by omega))
      go_wp2_with (go_at_call 18; (with_reducible refine HN.out.mono ?_); rintro e w1 ⟨R, rfl, hr⟩; have HR := Lib.hid hr; clear hr)
      go_meet
      exact ⟨R, rfl, by rw [HT.out]; exact HR.out⟩
    · have h12' : (12 : Int) < bs.length := by omega
      have hmin : min (bs.length : Int) 12 = 12 := by omega
      have hn : a ≠ none := by
        rintro rfl
        obtain ⟨h1, _, _⟩ := HV.out.none_nil
        omega
      obtain ⟨ad, rfl⟩ := Option.ne_none_iff_exists'.1 hn
      have HN := Lib.hid (HNR.out _ _ w0 (HV.out.pre 12 (by omega)) (by simp; omega))
      have hc2 : (12 : Int) < cap := by omega
      go_wp2_with (go_at_call 18; (with_reducible refine HN.out.mono ?_); rintro e w1 ⟨R, rfl, hr⟩; have HR := Lib.hid hr; clear hr)
      go_meet
      exact ⟨R, rfl, HR.out⟩
  case rest =>
    obtain ⟨R, rfl, hr⟩ := hcut
    have hLs : (bs.take 12).length ≤ 12 := by simp; omega
    have h1 := fun W (h : RdAt w0 R (bs.take 12) false W) => h.num 1 (by omega)
    have h2 := fun b W (h : RdAt w0 R (rdL (bs.take 12) 1) b W) => h.num 1 (by have := rdL_len (bs.take 12) 1; omega)
    have h3 := fun b W (h : RdAt w0 R (rdL (rdL (bs.take 12) 1) 1) b W) => h.num 2 (by have := rdL_len (bs.take 12) 1; have := rdL_len (rdL (bs.take 12) 1) 1; omega)
    have h4 := fun b W (h : RdAt w0 R (rdL (rdL (rdL (bs.take 12) 1) 1) 2) b W) => h.num 8 (by have := rdL_len (bs.take 12) 1; have := rdL_len (rdL (bs.take 12) 1) 1; have := rdL_len (rdL (rdL (bs.take 12) 1) 1) 2; omega)
    have hG : recGood bs ↔ (U (hd1 bs) = 165 ∧ recN bs ≠ 0 ∧ isEndB (hd4 bs) = true ∧ recN bs ≤ bs.length ∧ bs[(recN bs - 1).toNat]?.getD 0 = 90#8) := Iff.rfl
    have e1 : hd1 bs = rdN (bs.take 12) 1 := rfl
    have e2 : hd2 bs = wrap64 (U (rdN (rdL (bs.take 12) 1) 1)) := rfl
    have e3 : hd3 bs = wrap64 (U (rdN (rdL (rdL (bs.take 12) 1) 1) 2)) := rfl
    have e4 : hd4 bs = wrap64 (U (rdN (rdL (rdL (rdL (bs.take 12) 1) 1) 2) 8)) := rfl
    have e5 : recN bs = recSize (hd2 bs) (hd3 bs) := rfl
    have HRO : Hid (recOf bs = ⟨(bs.drop 12).take (hd2 bs).toNat, (bs.drop (12 + (hd2 bs).toNat)).take (hd3 bs).toNat, hd4 bs⟩) := rfl
    have hnum := hr.num 1 (by omega)
    obtain ⟨x1, hx1⟩ : ∃ x, rdN (bs.take 12) 1 = x := ⟨_, rfl⟩
    obtain ⟨x2, hx2⟩ : ∃ x, rdN (rdL (bs.take 12) 1) 1 = x := ⟨_, rfl⟩
    obtain ⟨x3, hx3⟩ : ∃ x, rdN (rdL (rdL (bs.take 12) 1) 1) 2 = x := ⟨_, rfl⟩
    obtain ⟨x4, hx4⟩ : ∃ x, rdN (rdL (rdL (rdL (bs.take 12) 1) 1) 2) 8 = x := ⟨_, rfl⟩
    simp only [hx1] at h1
    simp only [hx2] at h2
    simp only [hx3] at h3
    simp only [hx4] at h4
    rw [hx1] at e1
    rw [hx2] at e2
    rw [hx3] at e3
    rw [hx4] at e4
    obtain ⟨kk, hk⟩ : ∃ n, wrap64 (U x2) = n := ⟨_, rfl⟩
    obtain ⟨vv, hv⟩ : ∃ n, wrap64 (U x3) = n := ⟨_, rfl⟩
    obtain ⟨ee, he⟩ : ∃ n, wrap64 (U x4) = n := ⟨_, rfl⟩
    obtain ⟨S, hS⟩ : ∃ n, recSize kk vv = n := ⟨_, rfl⟩
    rw [hk] at e2
    rw [hv] at e3
    rw [he] at e4
    rw [e2, e3, hS] at e5
    rw [e1, e4, e5] at hG
    rw [e2, e3, e4] at HRO
    have hsz := fun W => size_any kk vv W
    rw [hS] at hsz
    have HSZ := Lib.hid hsz
    have HSP := Lib.hid (@recSize_pos kk vv)
    rw [hS] at HSP
    have HG := Lib.hid hG
    have HSN : Hid (recN bs = S) := e5
    have H1 := Lib.hid h1
    have H2 := Lib.hid h2
    have H3 := Lib.hid h3
    have H4 := Lib.hid h4
    have HEN := Lib.hid (isEnd_any ee)
    have HNUM := Lib.hid (h1 _ hr)
    clear h1 h2 h3 h4 hG e1 e2 e3 e4 e5 hnum hx1 hx2 hx3 hx4 hS hsz hr hLs
    go_upto_region 7 with (first
      | (go_at_call 19; (with_reducible refine HM4.out.mono ?_); rintro e w5 ⟨rfl, hr, _⟩; have HR5 := Lib.hid hr; clear hr)
      | (go_at_call 19; (with_reducible refine HM3.out.mono ?_); rintro e w4 ⟨rfl, hr, _⟩; have HM4 := Lib.hid (H4.out _ _ hr); clear hr)
      | (go_at_call 19; (with_reducible refine HM2.out.mono ?_); rintro e w3 ⟨rfl, hr, _⟩; have HM3 := Lib.hid (H3.out _ _ hr); clear hr)
      | (go_at_call 19; (with_reducible refine HNUM.out.mono ?_); rintro e w2 ⟨rfl, hr, _⟩; have HM2 := Lib.hid (H2.out _ _ hr); clear hr)
      | (go_at_call 14; (with_reducible refine (HSZ.out _).mono ?_); rintro e w9 ⟨rfl, rfl⟩))
    have HZ6 := Lib.hid ((HR5.out.size.block _ (blk_lt HZ.out)).trans HZ.out)
    have HB6 := Lib.hid (HB0.out.trans (HR5.out.size.mono HB0.out.size))
    have HV6 := Lib.hid ((HV.out.below HR5.out.size).mono HR5.out.size.size)
    have HNO := Lib.hid (fun (h : ¬ recGood bs) => (show Unpacked (unpRec bs) (unpN bs) (unpErr bs) w (.returned (.tuple #[.agg (RecP.zero.cells (.slice none 0 0) (.slice none 0 0)), .int .i64 0, .int .i64 5])) (w5.setRow w.heap.size (RecP.zero.cells (.slice none 0 0) (.slice none 0 0))) from by
      unfold unpRec unpN unpErr
      rw [if_neg h, if_neg h, if_neg h]
      exact ⟨_, _, rfl, BytesAt.nil _ _, BytesAt.nil _ _, below_setRow HB6.out (Nat.le_refl _) _⟩))
    have hl1 : (bs.length : Int) ≤ 549755813888 := by omega
    clear HM2 HM3 HM4 H1 H2 H3 H4 HNUM HSZ HZ HB0 HV HR5
    by_cases b1 : U x1 = 165
    · have b1' : (U x1 != 165) = false := by simpa using b1
      by_cases b2 : S = 0
      · have b2' : (S == 0) = true := by simpa using b2
        have HN := Lib.hid (HNO.out (by rw [HG.out]; exact fun h => h.2.1 b2))
        clear b2 b1
        go_wp2_with (first
          | (go_at_call 12; (with_reducible refine (HEN.out _).mono ?_); rintro e w9 ⟨rfl, rfl⟩)
          | (refine wpList_store_row (o := ⟨none, _, _, _, _, _⟩) rfl 30 (.tmp 2) (.tmp 56) rfl w.heap.size (RecP.zero.cells (.slice none 0 0) (.slice none 0 0)) rfl rfl 30 (RecP.zero.cells (.slice none 0 0) (.slice none 0 0)) HZ6.out (rec_sz _ _ _) rfl ?_ ?_; exact rec_one _))
        have hend : (w5.setRow w.heap.size (RecP.zero.cells (.slice none 0 0) (.slice none 0 0))).heap[w.heap.size]? = some (.cells (RecP.zero.cells (.slice none 0 0) (.slice none 0 0)) 30 (0, 0)) := setRow_heap _ _ _ _ _ _ HZ6.out
        exact bodyPost_ret (unp3_res _ w.heap.size RecP.zero _ _ 0 5 _ hend rfl rfl rfl) rfl HN.out
      · have b2' : (S == 0) = false := by simpa using b2
        cases b3 : isEndB ee with
        | false =>
          rw [b3] at HEN
          have HN := Lib.hid (HNO.out (by rw [HG.out]; exact fun h => by rw [b3] at h; exact absurd h.2.2.1 (by decide)))
          clear b2 b1 b3
          go_wp2_with (first
            | (go_at_call 12; (with_reducible refine (HEN.out _).mono ?_); rintro e w9 ⟨rfl, rfl⟩)
            | (refine wpList_store_row (o := ⟨none, _, _, _, _, _⟩) rfl 30 (.tmp 2) (.tmp 56) rfl w.heap.size (RecP.zero.cells (.slice none 0 0) (.slice none 0 0)) rfl rfl 30 (RecP.zero.cells (.slice none 0 0) (.slice none 0 0)) HZ6.out (rec_sz _ _ _) rfl ?_ ?_; exact rec_one _))
          have hend : (w5.setRow w.heap.size (RecP.zero.cells (.slice none 0 0) (.slice none 0 0))).heap[w.heap.size]? = some (.cells (RecP.zero.cells (.slice none 0 0) (.slice none 0 0)) 30 (0, 0)) := setRow_heap _ _ _ _ _ _ HZ6.out
          exact bodyPost_ret (unp3_res _ w.heap.size RecP.zero _ _ 0 5 _ hend rfl rfl rfl) rfl HN.out
        | true =>
          rw [b3] at HEN
          by_cases b4 : S ≤ bs.length
          · obtain ⟨k1, k2, v1, v2, hs⟩ := HSP.out b2
            obtain ⟨K, hK⟩ := Int.eq_ofNat_of_zero_le (show 0 ≤ kk by omega)
            obtain ⟨V, hVV⟩ := Int.eq_ofNat_of_zero_le v1
            obtain ⟨m, hm⟩ : ∃ m : Nat, m = 12 + K + V := ⟨_, rfl⟩
            have hsm : S = (m : Int) + 1 := by omega
            subst hsm
            have hml : m < bs.length := by omega
            have hn : a ≠ none := by
              rintro rfl
              obtain ⟨h1, _, _⟩ := HV6.out.none_nil
              omega
            obtain ⟨ad, rfl⟩ := Option.ne_none_iff_exists'.1 hn
            obtain ⟨g, off, hadd, hcm⟩ : ∃ g off, ad = ⟨g, off, none⟩ ∧ w5.cell? ⟨g, off + m, none⟩ = some (.int .u8 (U (bs[m]?.getD 0))) := by
              obtain ⟨a', cap', e, _, _, h⟩ := id HV6.out
              simp only [Value.slice.injEq] at e
              obtain ⟨rfl, _, rfl⟩ := e
              rcases h with h | ⟨g, off, hg, _, hc⟩
              · rw [h] at hml; simp at hml
              · cases hg
                exact ⟨g, off, rfl, hc m hml⟩
            subst hadd
            have htn : ((m : Int) + 1 - 1).toNat = m := by omega
            by_cases b5 : bs[m]?.getD 0 = 90#8
            · have HGG : Hid (recGood bs) := by
                unfold Hid
                rw [HG.out, htn]
                exact ⟨b1, b2, b3, b4, b5⟩
              obtain ⟨y, hy⟩ : ∃ y, bs[m]?.getD 0 = y := ⟨_, rfl⟩
              have b5' : (U y != 90) = false := by rw [← hy, b5]; rfl
              rw [hy] at hcm
              have m1 : (m : Int) < bs.length := by omega
              have m2 : (12 : Int) < m := by omega
              have m3 : (m : Int) < cap := by omega
              have s1 : decide ((bs.length : Int) < (m : Int) + 1) = false := by simp; omega
              have s2 : (m : Int) + 1 ≤ 549755813888 := by omega
              have s3 : 1 ≤ (m : Int) + 1 := by omega
              have hbt := (HV6.out.pre m (by omega)).suf 12 (by rw [List.length_take]; omega)
              rw [add_plain] at hbt
              have HN2 := Lib.hid (HNR.out _ _ w5 hbt (by simp; omega))
              have hll : ((bs.take m).drop 12).length = K + V := by simp; omega
              obtain ⟨l, hlE⟩ : ∃ l, (bs.take m).drop 12 = l := ⟨_, rfl⟩
              rw [hlE] at hll HN2
              have ht1 : tookN l true kk = some K := by rw [hK]; simp [tookN]; omega
              have ht2 : tookN (l.drop K) true vv = some V := by rw [hVV]; simp [tookN]; omega
              have hr1 := fun R W (h : RdAt w5 R l false W) => h.raw kk (by omega)
              have hr2 := fun R b W (h : RdAt w5 R (l.drop K) b W) => h.raw vv (by simp; omega)
              rw [ht1] at hr1
              rw [ht2] at hr2
              obtain ⟨l1, q1⟩ : ∃ x, takenB l (some K) = x := ⟨_, rfl⟩
              obtain ⟨l2, q2⟩ : ∃ x, takenB (l.drop K) (some V) = x := ⟨_, rfl⟩
              simp only [q1] at hr1
              simp only [q2] at hr2
              have HA1 := Lib.hid hr1
              have HA2 := Lib.hid hr2
              have ek : kk.toNat = K := by omega
              have ev : vv.toNat = V := by omega
              rw [ek, ev] at HRO
              have HKEY : Hid (l1 = (recOf bs).key) := by
                unfold Hid
                rw [← q1]; show l.take K = _
                rw [HRO.out, ← hlE, List.drop_take, List.take_take]
                congr 1; omega
              have HVAL : Hid (l2 = (recOf bs).val) := by
                unfold Hid
                rw [← q2]; show (l.drop K).take V = _
                rw [HRO.out, ← hlE, List.drop_drop, List.drop_take, List.take_take]
                congr 1; omega
              have HFIN : Hid ((recOf bs).fin = ee) := by unfold Hid; rw [HRO.out]
              clear q1 q2 b1 b2 b3 b4 b5 hy htn hm hs hn hbt hll ht1 ht2 hr1 hr2 ek ev hK hVV hlE HRO
              go_wp2_with (first
                | (go_at_call 12; (with_reducible refine (HEN.out _).mono ?_); rintro e w9 ⟨rfl, rfl⟩)
                | (go_at_call 18; (with_reducible refine HN2.out.mono ?_); rintro e w6 ⟨R2, rfl, hr⟩; have HRA := Lib.hid (HA1.out _ _ hr); clear hr)
                | (go_at_call 20; (with_reducible refine HRB.out.mono ?_); rintro e w8 ⟨u2, rfl, hu2, hr, hkeep⟩; obtain ⟨au2, cu2, rfl, _⟩ := id hu2; have HU2 := Lib.hid hu2; have HU3 := Lib.hid (hkeep _ _ _ HU1.out (Nat.le_refl _)); have HB8 := Lib.hid hr.size; have HZ8 := Lib.hid ((hr.size.block _ (blk_lt HZ6.out)).trans HZ6.out); clear hu2 hr hkeep)
                | (go_at_call 20; (with_reducible refine HRA.out.mono ?_); rintro e w7 ⟨u1, rfl, hu1, hr, _⟩; obtain ⟨au1, cu1, rfl, _⟩ := id hu1; have HU1 := Lib.hid hu1; have HRB := Lib.hid (HA2.out _ _ _ hr); clear hu1 hr)
                | (refine wpList_store_row (o := ⟨none, _, _, _, _, _⟩) rfl 30 (.tmp 2) (.tmp 69) rfl w.heap.size (RecP.cells ⟨l1, l2, ee⟩ (.slice au1 l1.length cu1) (.slice au2 l2.length cu2)) rfl rfl 30 (RecP.zero.cells (.slice none 0 0) (.slice none 0 0)) HZ8.out (rec_sz _ _ _) rfl ?_ ?_; exact rec_one _))
              have hend : (w8.setRow w.heap.size (RecP.cells ⟨l1, l2, ee⟩ (.slice au1 l1.length cu1) (.slice au2 l2.length cu2))).heap[w.heap.size]? = some (.cells (RecP.cells ⟨l1, l2, ee⟩ (.slice au1 l1.length cu1) (.slice au2 l2.length cu2)) 30 (0, 0)) := setRow_heap _ _ _ _ _ _ HZ8.out
              refine bodyPost_ret (unp3_res _ w.heap.size ⟨l1, l2, ee⟩ _ _ ((m : Int) + 1) 0 _ hend rfl rfl rfl) rfl ?_
              have HREC : recOf bs = ⟨l1, l2, ee⟩ := by rw [HKEY.out, HVAL.out, ← HFIN.out]
              unfold unpRec unpN unpErr
              rw [if_pos HGG.out, if_pos HGG.out, if_pos HGG.out, HREC, HSN.out]
              exact ⟨_, _, rfl, (HU3.out.besideRow (rec_none _ _ _ _ _ _ _) HZ8.out _).tight, (HU2.out.besideRow (rec_none _ _ _ _ _ _ _) HZ8.out _).tight, below_setRow (HB6.out.trans (HB8.out.mono HB6.out.size)) (Nat.le_refl _) _⟩
            · have b5' : (U (bs[m]?.getD 0) != 90) = true := by
                have h90 : U (90#8) = 90 := rfl
                rw [bne_iff_ne]
                exact fun h => b5 (U_inj.1 (h.trans h90.symm))
              obtain ⟨y, hy⟩ : ∃ y, bs[m]?.getD 0 = y := ⟨_, rfl⟩
              have HN := Lib.hid (HNO.out (by rw [HG.out]; exact fun h => b5 (by rw [← htn]; exact h.2.2.2.2)))
              rw [hy] at hcm b5'
              have m1 : (m : Int) < bs.length := by omega
              have s1 : decide ((bs.length : Int) < (m : Int) + 1) = false := by simp; omega
              have s2 : (m : Int) + 1 ≤ 549755813888 := by omega
              have s3 : 1 ≤ (m : Int) + 1 := by omega
              clear b1 b2 b3 b4 b5 hy htn hK hVV hm hs hn
              go_wp2_with (first
                | (go_at_call 12; (with_reducible refine (HEN.out _).mono ?_); rintro e w9 ⟨rfl, rfl⟩)
                | (refine wpList_store_row (o := ⟨none, _, _, _, _, _⟩) rfl 30 (.tmp 2) (.tmp 56) rfl w.heap.size (RecP.zero.cells (.slice none 0 0) (.slice none 0 0)) rfl rfl 30 (RecP.zero.cells (.slice none 0 0) (.slice none 0 0)) HZ6.out (rec_sz _ _ _) rfl ?_ ?_; exact rec_one _))
              have hend : (w5.setRow w.heap.size (RecP.zero.cells (.slice none 0 0) (.slice none 0 0))).heap[w.heap.size]? = some (.cells (RecP.zero.cells (.slice none 0 0) (.slice none 0 0)) 30 (0, 0)) := setRow_heap _ _ _ _ _ _ HZ6.out
              exact bodyPost_ret (unp3_res _ w.heap.size RecP.zero _ _ 0 5 _ hend rfl rfl rfl) rfl HN.out
          · have b4' : (bs.length : Int) < S := by omega
            have HN := Lib.hid (HNO.out (by rw [HG.out]; exact fun h => b4 h.2.2.2.1))
            clear b2 b1 b3 b4
            go_wp2_with (first
              | (go_at_call 12; (with_reducible refine (HEN.out _).mono ?_); rintro e w9 ⟨rfl, rfl⟩)
              | (refine wpList_store_row (o := ⟨none, _, _, _, _, _⟩) rfl 30 (.tmp 2) (.tmp 56) rfl w.heap.size (RecP.zero.cells (.slice none 0 0) (.slice none 0 0)) rfl rfl 30 (RecP.zero.cells (.slice none 0 0) (.slice none 0 0)) HZ6.out (rec_sz _ _ _) rfl ?_ ?_; exact rec_one _))
            have hend : (w5.setRow w.heap.size (RecP.zero.cells (.slice none 0 0) (.slice none 0 0))).heap[w.heap.size]? = some (.cells (RecP.zero.cells (.slice none 0 0) (.slice none 0 0)) 30 (0, 0)) := setRow_heap _ _ _ _ _ _ HZ6.out
            exact bodyPost_ret (unp3_res _ w.heap.size RecP.zero _ _ 0 5 _ hend rfl rfl rfl) rfl HN.out
    · have b1' : (U x1 != 165) = true := by simpa using b1
      have HN := Lib.hid (HNO.out (by rw [HG.out]; exact fun h => b1 h.1))
      clear b1
      go_wp2_with (first
        | (go_at_call 12; (with_reducible refine (HEN.out _).mono ?_); rintro e w9 ⟨rfl, rfl⟩)
        | (refine wpList_store_row (o := ⟨none, _, _, _, _, _⟩) rfl 30 (.tmp 2) (.tmp 56) rfl w.heap.size (RecP.zero.cells (.slice none 0 0) (.slice none 0 0)) rfl rfl 30 (RecP.zero.cells (.slice none 0 0) (.slice none 0 0)) HZ6.out (rec_sz _ _ _) rfl ?_ ?_; exact rec_one _))
      have hend : (w5.setRow w.heap.size (RecP.zero.cells (.slice none 0 0) (.slice none 0 0))).heap[w.heap.size]? = some (.cells (RecP.zero.cells (.slice none 0 0) (.slice none 0 0)) 30 (0, 0)) := setRow_heap _ _ _ _ _ _ HZ6.out
      exact bodyPost_ret (unp3_res _ w.heap.size RecP.zero _ _ 0 5 _ hend rfl rfl rfl) rfl HN.out
end Go.Proofs.Ytdpjhcdkiddplaa

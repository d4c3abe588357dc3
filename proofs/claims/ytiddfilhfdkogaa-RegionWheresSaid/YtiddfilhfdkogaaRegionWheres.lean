/-
  RegionWheres: where a log is only grows, by as much as is appended at least; what is read stands in a region from the oldest to the last one.
  Conditions: none.
-/
import Derived.Test.YtiddfilhfdkogaaReg30
import Derived.Deep.RegionHeldLaw
namespace Go.Proofs.Ytiddfilhfdkogaa
open Go.ChangeShapes Go.WideShapes Go.ChangeAt Go.RowKit Go.Shelf Go.Deep

set_option maxRecDepth 100000 in
set_option maxHeartbeats 16000000 in
theorem regionWheres_walk (l : List Act11) (v : Value) (w : World) (hv : ActsAt11 w.heap.size w v l) (hm : l.length ≤ maxLen) : Calls Try.prog 6 #[v] w (Good w) := by
  have HLI := Lib.hid (light11_any l v _ w hv hm)
  obtain ⟨a, cap, rfl, hcap, hwf, hv⟩ := hv
  cases hL : light11B l with
  | false =>
    rw [hL] at HLI
    clear hwf hv
    go_enter Try.func6, Try.ntmps6
    go_wp2_with (go_at_call 22; (with_reducible refine HLI.out.mono ?_); rintro e w1 ⟨rfl, rfl⟩)
    go_ret
    exact ⟨rfl, Below.refl _ _⟩
  | true =>
    rw [hL] at HLI
    obtain ⟨hl60, hsz⟩ := light11_parts hL
    have HSZ := Lib.hid hsz
    have HL60 := Lib.hid hl60
    have HWF := Lib.hid hwf
    have HV := Lib.hid hv
    have HAW := Lib.hid (fun W => awake11 W)
    have HSM := Lib.hid small_any
    have HNEW : Hid (Calls Try.prog 9 #[.int .i64 60, .int .i64 96] w fun e W' => ∃ D, e = .returned (.pointer (some ⟨D, 0, none⟩)) ∧ DevHere w D (Dev.new 60 96) W' ∧ Below w.heap.size w W') := here_new 60 96 (by decide) (Below.refl _ w)
    have b1 : (l.length : Int) ≤ 60 := by omega
    clear hwf hv hsz hl60 hL hm
    go_enter Try.func6, Try.ntmps6
    go_upto_region 6 with (first
      | (go_at_call 22; (with_reducible refine HLI.out.mono ?_); rintro e w1 ⟨rfl, rfl⟩)
      | (go_at_call 9; (with_reducible refine HNEW.out.mono ?_); rintro e w1 ⟨D, rfl, hd, _⟩; have HD := Lib.hid hd; clear hd)
      | (go_at_call 10; (with_reducible refine (HSM.out _).mono ?_); rintro e w2 ⟨rfl, hb2⟩; have HD2 := Lib.hid (HD.out.on hb2); clear hb2)
      | (go_at_call 8; (with_reducible refine (format_began HD2.out).mono ?_); rintro e w3 ⟨R, rfl, hB⟩; have HB3 := Lib.hid hB; clear hB))
    clear HNEW HSM HD HD2 HLI
    go_wp2
    have ST1 : Hid (∀ V : World, ((V.alloc (.cells #[.int .i64 0, .int .i64 0, .int .i64 0] 42)).cell? ⟨V.heap.size, 0, none⟩ = some (.int .i64 0) ∧ (V.alloc (.cells #[.int .i64 0, .int .i64 0, .int .i64 0] 42)).cell? ⟨V.heap.size, 1, none⟩ = some (.int .i64 0) ∧ (V.alloc (.cells #[.int .i64 0, .int .i64 0, .int .i64 0] 42)).cell? ⟨V.heap.size, 2, none⟩ = some (.int .i64 0) ∧ (V.alloc (.cells #[.int .i64 0, .int .i64 0, .int .i64 0] 42)).frozen? ⟨V.heap.size, 0, none⟩ = false ∧ (V.alloc (.cells #[.int .i64 0, .int .i64 0, .int .i64 0] 42)).frozen? ⟨V.heap.size, 1, none⟩ = false ∧ (V.alloc (.cells #[.int .i64 0, .int .i64 0, .int .i64 0] 42)).frozen? ⟨V.heap.size, 2, none⟩ = false)) := fun V => by
      have h := heap_alloc_new V (.cells #[.int .i64 0, .int .i64 0, .int .i64 0] 42)
      exact ⟨blk_cell h 0, blk_cell h 1, blk_cell h 2, blk_frozen h 0, blk_frozen h 1, blk_frozen h 2⟩
    go_loopw [5] (fun iv wr => ∃ k : Nat, k ≤ l.length ∧ iv = .int .i64 k ∧ WhRound w R D k wr) (fun iv _ => l.length - (intOf iv).toNat)
    case atStart => exact ⟨0, Nat.zero_le _, rfl, _, _, _, HB3.out.now, ⟨rfl, rfl, rfl, rfl⟩⟩
    case round =>
      obtain ⟨k, hk, rfl, x, d, H, hN, hl⟩ := hrel
      by_cases hlt : k < l.length
      · obtain ⟨hr, hrm, hreg⟩ := like_facts hl
        have h60 := HL60.out
        have hK : k * 160 + 160 ≤ 65536 := by omega
        have HK := Lib.hid hK
        have HK0 : Hid (k * 160 ≤ 65536) := by unfold Hid; omega
        have HK1 : Hid (k * 160 + 1 ≤ 65536) := by unfold Hid; omega
        have HK2 : Hid (k * 160 + 155 ≤ 65536) := by unfold Hid; omega
        rcases HV.out with h | ⟨g, off, rfl, hg, hc⟩
        · exact absurd hlt (by rw [h]; simp)
        obtain ⟨A, hA⟩ : ∃ A, l[k]?.getD default = A := ⟨_, rfl⟩
        have hz := HSZ.out k hlt
        have hwf := HWF.out k hlt
        have hca := hc k hlt
        rw [hA] at hz hwf hca
        have HAC := Lib.hid (fun (V : World) (hb : Below w.heap.size w V) => hca.below hb hg)
        have HZ := Lib.hid hz
        have HN := Lib.hid hN
        have HLK := Lib.hid hl
        have HRR := Lib.hid (And.intro hr (And.intro hrm hreg))
        have HWH := Lib.hid (now_where hN hr (by omega))
        have HWN := Lib.hid (hN.wh_le hr (by omega))
        have HLT := Lib.hid hlt
        have k0 : (0 : Int) ≤ k := by omega
        have k1 : (k : Int) < l.length := by omega
        obtain ⟨wa, hwa⟩ : ∃ wa, x.wh = wa := ⟨_, rfl⟩
        rw [hwa] at HWH HWN
        have HWA := Lib.hid hwa
        clear hN hl hr hrm hreg h60 hK hz hca hc hA hwa hlt
        go_upto_region 10 with (go_at_call 20; (with_reducible refine HWH.out.mono ?_); rintro e w1 ⟨rfl, hb1⟩; have HN1 := Lib.hid (HN.out.on hb1); clear hb1)
        obtain ⟨c0, c1, c2, c3⟩ := HAC.out _ HN1.out.at_.since
        clear HN HWH
        have wA : (wa : Int) ≤ 10092698 := by have := HWN.out; omega
        cases hk4 : ((wrap64 (A.kind.tmod 7 + 7)).tmod 7 == 4) with
        | true =>
          have q4 : (wrap64 (A.kind.tmod 7 + 7)).tmod 7 = 4 := by simpa using hk4
          have HFL := Lib.hid (now_flush HN1.out HK0.out)
          have hf := HN1.out.inv.flush
          have HFK := Lib.hid (hf.2.1.trans HLK.out)
          obtain ⟨e1, e2⟩ := wh_flushed HN1.out.inv HRR.out.2.1
          rw [HWA.out] at e1 e2
          obtain ⟨wb, hwb⟩ : ∃ wb, x.flushed.wh = wb := ⟨_, rfl⟩
          rw [hwb] at e1 e2
          have n1 : ¬ ((wb : Int) < wa) := by omega
          have n3 : ¬ ((wa : Int) + 76 < wb) := by omega
          have n2 : wrap64 ((wa : Int) + 76) = (wa : Int) + 76 := IntWalk.wrap64_in _ ⟨by omega, by omega⟩
          have HWB := Lib.hid hwb
          clear hf e1 e2 hwb
          go_wp2_with (first
            | (go_at_call 13; (with_reducible refine HFL.out.mono ?_); rintro e w2 ⟨rfl, hn2, _⟩; have HN2 := Lib.hid hn2; have hww := fun (V : World) (hb : Below w2.heap.size w2 V) => now_where (HN2.out.on hb) ((like_facts HFK.out).1) HK1.out; rw [HWB.out] at hww; have HWW := Lib.hid hww; clear hn2 hww c0 c1 c2 c3)
            | (go_at_call 20; (with_reducible refine (HWW.out _ HB4.out).mono ?_); rintro e w5 ⟨rfl, hb5⟩; have HB5 := Lib.hid (HB4.out.trans (hb5.mono HB4.out.size)); clear hb5)
            | (go_at_call 20; (with_reducible refine (HWW.out _ (Below.refl _ _)).mono ?_); rintro e w4 ⟨rfl, hb4⟩; have HB4 := Lib.hid hb4; clear hb4))
          clear n1 n2 n3 q4 hk4 wA
          go_roundw
          case rel => exact ⟨k + 1, HLT.out, by go_num, _, _, _, (HN2.out.on HB5.out).grow (by omega), HFK.out⟩
          case measure => have := HLT.out; simp [intOf]; omega
        | false =>
          have q4 : ¬ (wrap64 (A.kind.tmod 7 + 7)).tmod 7 = 4 := by simpa using hk4
          have HBY := Lib.hid (fun V : World => bytes11_any A HZ.out V)
          have HBL := Lib.hid A.bs_len
          by_cases hn : 1 ≤ A.size ∧ A.size ≤ 154
          · have HN1' : Hid (1 ≤ A.size.toNat ∧ A.size.toNat ≤ 154) := by unfold Hid; omega
            clear hn hk4
            generalize A.size.toNat = nn at HBY HBL HN1'
            have n1 : (1 : Int) ≤ nn := by have := HN1'.out; omega
            have n2 : (nn : Int) ≤ 154 := by have := HN1'.out; omega
            go_upto_region 14 with (first
              | (go_at_call 23; (with_reducible refine (HBY.out _).mono ?_); rintro e w2 ⟨g2, hg2, rfl, ho2, hb2⟩; have HN2 := Lib.hid (HN1.out.adds (E' := fun j => j = g2) hb2 (fun j e => by subst e; exact .inr ⟨hg2, (ho2.lt _ rfl).2⟩)); have HA2 := Lib.hid (now_append_act HN2.out HRR.out.1 HBL.out HN1'.out.1 HN1'.out.2 HK2.out (own_bytes HBL.out ho2)); clear hg2 ho2 hb2 c0 c1 c2 c3)
              | (go_at_call 12; (with_reducible refine HA2.out.mono ?_); rintro e w3 ⟨x2, d2, q, p, hgo, rfl, hn3⟩; have HGO := Lib.hid hgo; have HN3 := Lib.hid hn3; clear hgo hn3; obtain ⟨t0, t1, t2, t3, t4, t5⟩ := ST1.out w3))
            try clear t0 t1 t2 t3 t4 t5
            have HN4 := Lib.hid (HN3.out.grab (.cells #[.int .i64 q, .int .i64 p, .int .i64 nn] 42))
            have HX4 : Hid ((w3.alloc (.cells #[.int .i64 q, .int .i64 p, .int .i64 nn] 42)).heap[w3.heap.size]? = some (.cells #[.int .i64 q, .int .i64 p, .int .i64 nn] 42 (0, 0))) := heap_alloc_new _ _
            change Code.wp _ _ _ _ (w3.alloc (.cells #[.int .i64 q, .int .i64 p, .int .i64 nn] 42))
            generalize w3.alloc (.cells #[.int .i64 q, .int .i64 p, .int .i64 nn] 42) = w4 at HN4 HX4 ⊢
            generalize w3.heap.size = X at HN4 HX4 ⊢
            have HL2 : Hid (x2.Like small11.log0) := HGO.out.1.trans HLK.out
            obtain ⟨e1, e2, e3⟩ := wh_goes (HN1.out.pos_le HRR.out.1) HGO.out
            rw [HWA.out] at e2
            have HOL : Hid (x2.oldest ≤ (q : Int)) := by
              have := oldest_le_last HN4.out.inv.ok (by rw [e3]; exact HGO.out.2.2.2.1)
              rw [e3] at this
              exact this
            have HRD := Lib.hid (now_read HN4.out (r := ⟨q, p, A.bs⟩) (q := q) (p := p) (n := nn) (List.mem_cons_self ..) HOL.out rfl rfl (by rw [HBL.out]))
            have l0 : w4.cell? ⟨X, 0, none⟩ = some (.int .i64 q) := blk_cell HX4.out 0
            have l1 : w4.cell? ⟨X, 1, none⟩ = some (.int .i64 p) := blk_cell HX4.out 1
            have l2 : w4.cell? ⟨X, 2, none⟩ = some (.int .i64 nn) := blk_cell HX4.out 2
            have HE := Lib.hid (And.intro e1 (And.intro e2 e3))
            clear e1 e2 e3 HN3 HA2 HN1
            go_upto_region 18 with (go_at_call 21; (with_reducible refine HRD.out.mono ?_); rintro e w5 ⟨v5, rfl, hb5, hv5⟩; have HB5 := Lib.hid hb5; have HV5 : Hid (BytesAt w5.heap.size w5 v5 A.bs) := hv5; clear hb5 hv5 l0 l1 l2)
            obtain ⟨av, cv, rfl, _⟩ := id HV5.out
            have hbl := HBL.out
            rw [hbl] at HV5 ⊢
            clear hbl
            have HN5 := Lib.hid (HN4.out.on HB5.out)
            have hk5 := (HB5.out.block _ (blk_lt HX4.out)).trans HX4.out
            have l0 : w5.cell? ⟨X, 0, none⟩ = some (.int .i64 q) := blk_cell hk5 0
            have l1 : w5.cell? ⟨X, 1, none⟩ = some (.int .i64 p) := blk_cell hk5 1
            have l2 : w5.cell? ⟨X, 2, none⟩ = some (.int .i64 nn) := blk_cell hk5 2
            obtain ⟨c0, c1, c2, c3⟩ := HAC.out _ HN5.out.at_.since
            obtain ⟨sb, hsb⟩ : ∃ sb, strB A.bs = sb := ⟨_, rfl⟩
            have HCV : Hid (∀ V, Below w5.heap.size w5 V → (convert 36 9 (.slice av nn cv)).run Try.prog V = .ok (.string sb) V) := fun V hb => by rw [← hsb]; exact conv_str (HV5.out.below hb)
            have HCN : Hid (∀ (V V' : World) (g2 : Nat), V'.ownsRow V.heap.size 5 1 (.slice (some ⟨g2, 0, none⟩) nn nn) nn (cellsOf A.bs) → (convert 36 9 (.slice (some ⟨g2, 0, none⟩) nn nn)).run Try.prog V' = .ok (.string sb) V') := fun V V' g2 ho => by rw [← hsb]; exact conv_str (own_bytes HBL.out ho)
            have HSS : Hid (∀ V, Below w5.heap.size w5 V → (Below w5.heap.size w5 V ∧ V.cell? ⟨X, 0, none⟩ = some (.int .i64 q) ∧ V.cell? ⟨X, 1, none⟩ = some (.int .i64 p) ∧ V.cell? ⟨X, 2, none⟩ = some (.int .i64 nn) ∧ V.cell? ⟨g, off + k * 4, none⟩ = some (.int .i64 A.kind) ∧ V.cell? ⟨g, off + k * 4 + 1, none⟩ = some (.int .i64 A.size) ∧ V.cell? ⟨g, off + k * 4 + 2, none⟩ = some (.int .i64 A.n) ∧ V.cell? ⟨g, off + k * 4 + 3, none⟩ = some (.int .u8 (U A.b)) ∧ (convert 36 9 (.slice av nn cv)).run Try.prog V = .ok (.string sb) V)) := fun V hb =>
              ⟨hb, (hb.cell (World.block_lt_of_cell? _ _ l0)).trans l0, (hb.cell (World.block_lt_of_cell? _ _ l1)).trans l1, (hb.cell (World.block_lt_of_cell? _ _ l2)).trans l2, (hb.cell (World.block_lt_of_cell? _ _ c0)).trans c0, (hb.cell (World.block_lt_of_cell? _ _ c1)).trans c1, (hb.cell (World.block_lt_of_cell? _ _ c2)).trans c2, (hb.cell (World.block_lt_of_cell? _ _ c3)).trans c3, HCV.out V hb⟩
            obtain ⟨e1, e2, e3⟩ := HE.out
            have HWW : Hid (∀ V, Below w5.heap.size w5 V → Calls Try.prog 20 #[.pointer (some ⟨R, 0, none⟩)] V fun e W' => e = .returned (.int .i64 ((q : Int) * 154 + p + nn)) ∧ Below w5.heap.size w5 W') := fun V hb => by
              have := now_where (HN5.out.on hb) (like_facts HL2.out).1 HK2.out
              rw [e1] at this
              exact this.mono fun e W' ⟨a, b⟩ => ⟨by rw [a]; push_cast; rfl, hb.trans (b.mono hb.size)⟩
            have HLA : Hid (∀ V, Below w5.heap.size w5 V → Calls Try.prog 14 #[.pointer (some ⟨R, 0, none⟩)] V fun e W' => e = .returned (.int .i64 q) ∧ Below w5.heap.size w5 W') := fun V hb => by
              have := now_last (HN5.out.on hb)
              rw [e3] at this
              exact this.mono fun e W' ⟨a, b⟩ => ⟨a, by rw [← b]; exact hb⟩
            have HOO : Hid (∀ V, Below w5.heap.size w5 V → Calls Try.prog 16 #[.pointer (some ⟨R, 0, none⟩)] V fun e W' => e = .returned (.int .i64 x2.oldest) ∧ Below w5.heap.size w5 W') := fun V hb =>
              (now_oldest (HN5.out.on hb)).mono fun e W' ⟨a, b⟩ => ⟨a, hb.trans (b.mono hb.size)⟩
            have HBB : Hid (∀ V, Below w5.heap.size w5 V → Calls Try.prog 23 #[.agg #[.int .i64 A.kind, .int .i64 A.size, .int .i64 A.n, .int .u8 (U A.b)]] V fun e w' => ∃ g2, e = .returned (.slice (some ⟨g2, 0, none⟩) nn nn) ∧ (convert 36 9 (.slice (some ⟨g2, 0, none⟩) nn nn)).run Try.prog w' = .ok (.string sb) w' ∧ Below w5.heap.size w5 w') := fun V hb =>
              (HBY.out V).mono fun e w' ⟨g2, _, a, b, c⟩ => ⟨g2, a, HCN.out _ _ _ b, hb.trans (c.mono hb.size)⟩
            have hol := HOL.out
            have hwn := HN5.out.wh_le (like_facts HL2.out).1 HK2.out
            rw [e1] at hwn
            obtain ⟨ol, hol2⟩ : ∃ ol, x2.oldest = ol := ⟨_, rfl⟩
            rw [hol2] at HOO hol
            obtain ⟨wan, hwan⟩ : ∃ wan : Int, (wa : Int) + nn = wan := ⟨_, rfl⟩
            obtain ⟨qI, hqI⟩ : ∃ qI : Int, (q : Int) * 154 = qI := ⟨_, rfl⟩
            obtain ⟨qp, hqp⟩ : ∃ qp : Int, qI + p = qp := ⟨_, rfl⟩
            obtain ⟨wbI, hwb⟩ : ∃ wbI : Int, qp + nn = wbI := ⟨_, rfl⟩
            rw [hqI, hqp, hwb] at HWW
            have d0 : decide ((q : Int) < ol) = false := by simpa using hol
            have d1 : decide (wbI < wan) = false := by simp; omega
            have i1 : IntKind.i64.wrap ((wa : Int) + nn) = wan := by rw [← hwan]; exact IntWalk.i64_in _ ⟨by omega, by omega⟩
            have i2 : IntKind.i64.wrap ((q : Int) * 154) = qI := by rw [← hqI]; exact IntWalk.i64_in _ ⟨by omega, by omega⟩
            have i3 : IntKind.i64.wrap (qI + p) = qp := by rw [← hqp]; exact IntWalk.i64_in _ ⟨by omega, by omega⟩
            have i4 : IntKind.i64.wrap (qp + nn) = wbI := by rw [← hwb]; exact IntWalk.i64_in _ ⟨by omega, by omega⟩
            have j1 : wrap64 ((wa : Int) + nn) = wan := by rw [← hwan]; exact IntWalk.wrap64_in _ ⟨by omega, by omega⟩
            have j2 : wrap64 ((q : Int) * 154) = qI := by rw [← hqI]; exact IntWalk.wrap64_in _ ⟨by omega, by omega⟩
            have j3 : wrap64 (qI + p) = qp := by rw [← hqp]; exact IntWalk.wrap64_in _ ⟨by omega, by omega⟩
            have j4 : wrap64 (qp + nn) = wbI := by rw [← hwb]; exact IntWalk.wrap64_in _ ⟨by omega, by omega⟩
            clear hwan hqI hqp hwb hol2
            clear hol hwn e1 e2 e3 hsb q4 hk5
            clear c0 c1 c2 c3 l0 l1 l2
            go_region_held_law (fun V => Below w5.heap.size w5 V ∧ V.cell? ⟨X, 0, none⟩ = some (.int .i64 q) ∧ V.cell? ⟨X, 1, none⟩ = some (.int .i64 p) ∧ V.cell? ⟨X, 2, none⟩ = some (.int .i64 nn) ∧ V.cell? ⟨g, off + k * 4, none⟩ = some (.int .i64 A.kind) ∧ V.cell? ⟨g, off + k * 4 + 1, none⟩ = some (.int .i64 A.size) ∧ V.cell? ⟨g, off + k * 4 + 2, none⟩ = some (.int .i64 A.n) ∧ V.cell? ⟨g, off + k * 4 + 3, none⟩ = some (.int .u8 (U A.b)) ∧ (convert 36 9 (.slice av nn cv)).run Try.prog V = .ok (.string sb) V) (first | assumption | exact HSS.out _ (Below.refl _ _).drew | exact HSS.out _ (by assumption)) (first
              | (go_at_call 20; (with_reducible refine (HWW.out _ (And.left (by assumption))).mono ?_); rintro e w7 ⟨rfl, hb7⟩)
              | (go_at_call 23; (with_reducible refine (HBB.out _ (And.left (by assumption))).mono ?_); rintro e w7 ⟨g7, rfl, hcv7, hb7⟩)
              | (go_at_call 14; (with_reducible refine (HLA.out _ (And.left (by assumption))).mono ?_); rintro e w7 ⟨rfl, hb7⟩)
              | (go_at_call 16; (with_reducible refine (HOO.out _ (And.left (by assumption))).mono ?_); rintro e w7 ⟨rfl, hb7⟩))
            have HE7 := Lib.hid ((HN5.out.on hb7).less (E' := fun _ => False) (fun _ h => h.elim))
            clear d0 d1 i1 i2 i3 i4 j1 j2 j3 j4 wA n1 n2
            go_wp2
            go_roundw
            case rel => exact ⟨k + 1, HLT.out, by go_num, _, _, _, HE7.out.grow (by omega), HL2.out⟩
            case measure => have := HLT.out; simp [intOf]; omega
          · have HNN : Hid (A.size.toNat = 0 ∨ 154 < A.size.toNat) := by unfold Hid; omega
            have HNM : Hid (A.size.toNat ≤ 1000) := by have := HZ.out; unfold Hid; omega
            clear hn hk4
            generalize A.size.toNat = nn at HBY HBL HNN HNM
            go_upto_region 14 with (first
              | (go_at_call 23; (with_reducible refine (HBY.out _).mono ?_); rintro e w2 ⟨g2, hg2, rfl, ho2, hb2⟩; have HN2 := Lib.hid (HN1.out.on hb2); have HA2 := Lib.hid (now_append_no HN2.out HRR.out.1 (some ⟨g2, 0, none⟩) nn nn HNN.out HNM.out); clear hg2 ho2 hb2 c0 c1 c2 c3)
              | (go_at_call 12; (with_reducible refine HA2.out.mono ?_); rintro e w3 ⟨er, her, rfl, hn3, hb3⟩; have HN3 := Lib.hid hn3; clear hn3 hb3; obtain ⟨t0, t1, t2, t3, t4, t5⟩ := ST1.out w3))
            have hz0 : (er == 0) = false := beq_eq_false_iff_ne.2 her
            try clear t0 t1 t2 t3 t4 t5
            have HN4 := Lib.hid ((HN3.out.grab (.cells #[.int .i64 0, .int .i64 0, .int .i64 0] 42)).less (E' := fun _ => False) (fun _ h => h.elim))
            change Code.wp _ _ _ _ (w3.alloc (.cells #[.int .i64 0, .int .i64 0, .int .i64 0] 42))
            generalize w3.alloc (.cells #[.int .i64 0, .int .i64 0, .int .i64 0] 42) = w4 at HN4 ⊢
            have hww := now_where HN4.out HRR.out.1 HK0.out
            rw [HWA.out] at hww
            have HWW := Lib.hid hww
            clear hww q4
            go_wp2_with (go_at_call 20; (with_reducible refine HWW.out.mono ?_); rintro e w5 ⟨rfl, hb5⟩; have HN5 := Lib.hid (HN4.out.on hb5); clear hb5)
            clear hz0 her wA
            go_roundw
            case rel => exact ⟨k + 1, HLT.out, by go_num, _, _, _, HN5.out.grow (by omega), HLK.out⟩
            case measure => have := HLT.out; simp [intOf]; omega
      · obtain rfl : k = l.length := by omega
        have HSI := Lib.hid hN.at_.since
        clear hN hl
        go_wp2_with (go_at_call 17; (with_reducible refine (HAW.out _).mono ?_); rintro e wz ⟨rfl, hbz⟩; have HBZ := Lib.hid hbz; clear hbz)
        go_ret
        exact ⟨rfl, HSI.out.trans (HBZ.out.mono HSI.out.size)⟩
set_option maxRecDepth 100000 in
theorem regionWheres_lifted (os : Os) (started : os.Started) (H : Type) (enc : TypeId × Value → H) :
    ReturnsInHanded {} Try.checked os 6 .any (Rows.regionWheresSpec.pre6 enc Try.prog Try.f6 Rows.regionWheresRow.domain false) (Rows.regionWheresSpec.post enc Try.prog Try.f6 false true false false) :=
  law_lifted 6 Try.f6 Rows.regionWheresSpec Try.func6 (by kernel_rfl) rfl rfl
    (fun ds h => by match ds, h with | [_], _ => rfl) (by kernel_rfl) os started
    (ChangeSpec.witness6 (enc := enc) (C := Try.checked) false ⟨#[], #[.slice none 0 0], []⟩ 8 (by kernel_rfl) (by kernel_rfl) (by kernel_rfl) (by kernel_rfl))
    fun W args ds ps hval hA => by
      rw [Try.params6] at hA hval
      obtain ⟨v0, vs0, d0, ds0, p0, q0, hargs, rfl, rfl, h0, r0⟩ := trodAll_cons hA
      obtain ⟨rfl, rfl, rfl⟩ := trodAll_nil r0
      obtain rfl : args = #[v0] := by cases args; simp_all
      obtain ⟨b0, o0⟩ := hval 0 _ v0 rfl rfl
      obtain ⟨l0, hb0, hm0⟩ := open_acts11 o0 h0
      exact regionWheres_walk l0 _ W hb0 hm0

/-- The statement. -/
theorem regionWheres_holds : Rows.RegionWheresSaid :=
  OpenClaim.holds_of_wide 6 Try.f6 rfl rfl rfl rfl rfl rfl rfl ⟨rfl, rfl, rfl, rfl, rfl⟩ rfl rfl rfl rfl rfl (by kernel_rfl) Try.func6 (by kernel_rfl)
    (of_decide_eq_true (by kernel_rfl)) (by unfold Func.isWrapper; first | (rw [if_pos (by decide +kernel)]; kernel_rfl) | (rw [if_neg (by decide +kernel)]; exact ⟨rfl, rfl⟩))
    (fun os started H enc _ => regionWheres_lifted os started H enc)
#print axioms regionWheres_holds
end Go.Proofs.Ytiddfilhfdkogaa

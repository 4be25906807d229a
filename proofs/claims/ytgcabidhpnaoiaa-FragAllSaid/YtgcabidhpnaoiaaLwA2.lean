import Derived.Test.YtgcabidhpnaoiaaFgK
import Derived.Test.YtgcabidhpnaoiaaFgQ
import Derived.Test.YtgcabidhpnaoiaaLwB
import Derived.Test.YtgcabidhpnaoiaaBx7
import Derived.Test.YtgcabidhpnaoiaaLwN
namespace Go.Proofs.Ytgcabidhpnaoiaa
open Go Go.RowKit Go.Shelf Fg
set_option linter.unusedVariables false
set_option linter.unusedSimpArgs false
/-! FragAll. -/
set_option maxRecDepth 100000 in
set_option maxHeartbeats 4000000 in
theorem law_all (A B : Option Addr) (n c F m d : Nat) (l : List CtB) (os : List Int) (w : World) (hA : InC w A n c l) (hO : InO w B m d os) (hF : F < 4294967296) :
    Calls Try.prog 5 #[.slice A n c, .int .u32 (F : Int), .slice B m d] w (RetB true w) := by
  have HA := Lib.hid hA
  have HO := Lib.hid hO
  clear hA hO
  go_enter Try.func5, Try.ntmps5
  go_wp2_with fail
  refine (lcut_any A n c F l w HA.out hF).mono ?_
  rintro e w1 ⟨ok, lo, A1, c1, rfl, HOK, HR1, HBY1, HU1⟩
  obtain ⟨N, hN⟩ : ∃ N, N = lo.length := ⟨_, rfl⟩
  rw [← hN] at HR1 ⊢
  have HN := Lib.hid hN
  clear hN
  go_wp2_with fail
  refine (newbox_any 0 w1).mono ?_
  rintro e w2 ⟨rfl, HB2, HU2⟩
  have hsz1 : w.heap.size ≤ w1.heap.size := HU1.out.size
  have HA1 : Hid (∀ q, blk? A1 = some q → w.heap.size ≤ q ∧ q < w1.heap.size) := Lib.hid (fun q hq => row_lt HR1.out hq)
  generalize w1.heap.size = b at HB2 hsz1 HA1 ⊢
  have HR2 := Lib.hid (own_up HR1.out HU2.out)
  have HBY2 : Hid (∀ y ∈ lo, OwnI .u8 5 w.heap.size w2 y.A y.p.bs.length y.c y.p.bs) := Lib.hid (fun y hy => own_up (HBY1.out y hy) HU2.out)
  have HUU := Lib.hid (HU1.out.trans HU2.out)
  clear HR1 HBY1 HU1 HU2
  go_wp2_with fail
  refine (answers_ok w2).mono ?_
  rintro e w3 ⟨rfl, HU3⟩
  cases ok with
  | false =>
    go_wp2_with fail
    refine (answers_ok w3).mono ?_
    rintro e w4 ⟨rfl, HU4⟩
    go_wp2_with fail
    go_ret
    exact ⟨rfl, Lib.hid (HUU.out.trans (HU3.out.trans HU4.out))⟩
  | true =>
    obtain ⟨L, nx, hL, hps⟩ := HOK.out rfl
    have hN300 : N ≤ 300 := by rw [HN.out, lay_len hps]; exact hL.lay.ok.n300
    have HL := Lib.hid hL
    have HPS := Lib.hid hps
    have HB3 := Lib.hid (HB2.out.up HU3.out)
    have HR3 := Lib.hid (own_up HR2.out HU3.out)
    have HBY3 : Hid (∀ y ∈ lo, OwnI .u8 5 w.heap.size w3 y.A y.p.bs.length y.c y.p.bs) := Lib.hid (fun y hy => own_up (HBY2.out y hy) HU3.out)
    have HUV := Lib.hid (HUU.out.trans HU3.out)
    clear HR2 HBY2 HU3 HUU HB2 hL hps HOK
    go_wp2_with fail
    go_loopw [11] (fun iv wr => ∃ (i : Nat) (lp : List PcB), iv = .int .i64 (i : Int) ∧ i ≤ m ∧ i ≤ N ∧ Hid (lp.Perm lo) ∧ Hid (wr.ownsRow w.heap.size 51 7 (.slice A1 N c1) N (lp.flatMap pcc)) ∧ Hid (∀ y ∈ lo, OwnI .u8 5 w.heap.size wr y.A y.p.bs.length y.c y.p.bs) ∧ Hid (BX 0 wr b none none none [] [] (fun _ => 0)) ∧ Hid (Up w wr)) (fun iv _ => N - (intOf iv).toNat)
    case atStart => exact ⟨0, lo, rfl, by omega, by omega, Lib.hid (List.Perm.refl _), HR3, HBY3, HB3, HUV⟩
    case round =>
      obtain ⟨i, lp, rfl, him, hiN, hP, hR, hBY, hB, hU⟩ := hrel
      go_upto_region 7 with (fail)
      go_cut [58] (fun v wx => v = .bool (decide (i < m ∧ i < N)) ∧ wx = wr)
      case first =>
        by_cases h1 : i < m
        · have d1 : decide ((i : Int) < (m : Int)) = true := by simp; omega
          by_cases h2 : i < N
          · have d2 : decide ((i : Int) < (N : Int)) = true := by simp; omega
            go_wp2_with fail
            go_meet
            exact ⟨by simp [h1, h2], rfl⟩
          · have d2 : decide ((i : Int) < (N : Int)) = false := by simp; omega
            go_wp2_with fail
            go_meet
            exact ⟨by simp [h1, h2], rfl⟩
        · have d1 : decide ((i : Int) < (m : Int)) = false := by simp; omega
          go_wp2_with fail
          go_meet
          exact ⟨by simp [h1], rfl⟩
      case rest =>
      obtain ⟨rfl, hwr⟩ := hcut
      subst hwr
      by_cases hlt : i < m ∧ i < N
      · rw [show decide (i < m ∧ i < N) = true by simp [hlt.1, hlt.2]]
        obtain ⟨hl1, hl2⟩ := hlt
        have d1 : decide ((i : Int) < (m : Int)) = true := by simp; omega
        have d2 : decide ((i : Int) < (N : Int)) = true := by simp; omega
        have hiM : (i : Int) < (m : Int) := by omega
        have hiI : (i : Int) < (N : Int) := by omega
        obtain ⟨x, g, o, hx, rfl, k0⟩ := (HO.out.up hU.out).at_ hl1
        have hlen : lp.length = N := by rw [hP.out.length_eq]; exact HN.out.symm
        obtain ⟨y, hy⟩ : ∃ y, lp[i]? = some y := ⟨_, List.getElem?_eq_getElem (by omega)⟩
        obtain ⟨g1, rfl⟩ := row_at hR.out (by omega)
        obtain ⟨q, hq⟩ : ∃ q, q = x % N := ⟨_, rfl⟩
        have hqN : q < N := by rw [hq]; exact Nat.mod_lt _ (by omega)
        have e1 : (x : Int) % (N : Int) = (q : Int) := by rw [hq]; omega
        have HLN := Lib.hid hlen
        have HY := Lib.hid hy
        have hqI : (q : Int) < (N : Int) := by omega
        clear hq hlen hy
        go_upto_region 10 with (fail)
        first | rw [e1] | skip
        clear e1 k0 hx
        obtain ⟨z, hz⟩ : ∃ z, lp[q]? = some z := ⟨_, List.getElem?_eq_getElem (by rw [HLN.out]; exact hqN)⟩
        have HZ := Lib.hid hz
        clear hz
        have hY := pcc_cells hR.out HY.out
        obtain ⟨y0, y1, y2, y3, y4, y5, y6⟩ := hY
        go_upto_region 11 with (fail)
        have X3 := Lib.hid (new_at wc (.cells #[.int .u32 y.p.tsn, .int .u16 y.p.st, .int .u16 y.p.sq, .bool y.p.bg, .bool y.p.en, .bool y.p.un, .slice y.A y.p.bs.length y.c] 51))
        have U3 := Lib.hid (up_alloc wc (.cells #[.int .u32 y.p.tsn, .int .u16 y.p.st, .int .u16 y.p.sq, .bool y.p.bg, .bool y.p.en, .bool y.p.un, .slice y.A y.p.bs.length y.c] 51))
        clear y0 y1 y2 y3 y4 y5 y6
        generalize wc.alloc (.cells #[.int .u32 y.p.tsn, .int .u16 y.p.st, .int .u16 y.p.sq, .bool y.p.bg, .bool y.p.en, .bool y.p.un, .slice y.A y.p.bs.length y.c] 51) = w4 at X3 U3 ⊢
        have R4 := Lib.hid (own_up hR.out U3.out)
        obtain ⟨z0, z1, z2, z3, z4, z5, z6⟩ := pcc_cells R4.out HZ.out
        obtain ⟨t1, r1, o1⟩ := row_put pcc 7 pcc_len R4.out (i := i) (by rw [HLN.out]; exact hl2) z
        have T1 := Lib.hid t1
        have RR1 := Lib.hid r1
        have OO1 := Lib.hid o1
        clear t1 r1 o1
        go_upto_region 12 with (refine store_midTo rfl 51 (.tmp 78) (.tmp 77) rfl rfl g1 (i * 7) (pcc z) rfl rfl T1.out (pcc_i51 z) (pcc_oneC z) ?_)
        have hs3 : w.heap.size ≤ wc.heap.size := hU.out.size
        have hg1 := row_lt hR.out (k := g1) rfl
        have hX5 := Lib.hid (OO1.out.blk X3.out (by omega))
        have hz4 : w.heap.size ≤ w4.heap.size := (hU.out.trans U3.out).size
        have hU5 : Hid (Up w (w4.setCells g1 (i * 7) (pcc z))) := Lib.hid (Below.out (hU.out.trans U3.out) OO1.out (fun k hk => by rw [hk]; exact hg1.1) hz4)
        have hB4 := hB.out.up U3.out
        have hB5 : Hid (BX 0 (w4.setCells g1 (i * 7) (pcc z)) b none none none [] [] (fun _ => 0)) := Lib.hid (hB4.out OO1.out (fun k hk e => hB4.off R4.out (by decide) k (by rw [ownBlock_slice, e]; rfl) hk) (fun k _ ⟨cs, f, h⟩ e => by
          obtain ⟨o2, h2⟩ := row_blk R4.out
          rw [e, h2] at h
          injection h with h; injection h with _ h; exact absurd h (by decide)))
        have hBY5 : Hid (∀ y ∈ lo, OwnI .u8 5 w.heap.size (w4.setCells g1 (i * 7) (pcc z)) y.A y.p.bs.length y.c y.p.bs) := Lib.hid (fun y hy => Out.own OO1.out (own_up (hBY.out y hy) U3.out) (fun q hq e => by subst e; exact rows_ne (own_up (hBY.out y hy) U3.out) R4.out (by decide) _ hq rfl))
        obtain ⟨t2, r2, o2⟩ := row_put pcc 7 pcc_len RR1.out (i := q) (by rw [List.length_set, HLN.out]; exact hqN) y
        have T2 := Lib.hid t2
        have RR2 := Lib.hid r2
        have OO2 := Lib.hid o2
        clear t2 r2 o2 z0 z1 z2 z3 z4 z5 z6 X3 U3 R4 T1 OO1 hB4 hB hBY hU
        generalize w4.setCells g1 (i * 7) (pcc z) = w5 at hX5 hU5 hB5 hBY5 T2 RR1 RR2 OO2 ⊢
        generalize wc.heap.size = s3 at hX5 ⊢
        have x0 : w5.cell? ⟨s3, 0, none⟩ = some (.int .u32 y.p.tsn) := cell_of hX5.out rfl
        have x1 : w5.cell? ⟨s3, 1, none⟩ = some (.int .u16 y.p.st) := cell_of hX5.out rfl
        have x2 : w5.cell? ⟨s3, 2, none⟩ = some (.int .u16 y.p.sq) := cell_of hX5.out rfl
        have x3 : w5.cell? ⟨s3, 3, none⟩ = some (.bool y.p.bg) := cell_of hX5.out rfl
        have x4 : w5.cell? ⟨s3, 4, none⟩ = some (.bool y.p.en) := cell_of hX5.out rfl
        have x5 : w5.cell? ⟨s3, 5, none⟩ = some (.bool y.p.un) := cell_of hX5.out rfl
        have x6 : w5.cell? ⟨s3, 6, none⟩ = some (.slice y.A y.p.bs.length y.c) := cell_of hX5.out rfl
        go_upto_region 8 with (refine store_midTo rfl 51 (.tmp 82) (.tmp 81) rfl rfl g1 (q * 7) (pcc y) rfl rfl T2.out (pcc_i51 y) (pcc_oneC y) ?_)
        go_wp2_with fail
        go_roundw
        case measure => simp [intOf]; omega
        case rel =>
          refine ⟨i + 1, (lp.set i z).set q y, by go_num, by omega, by omega, Lib.hid ?_, RR2, ?_, ?_, ?_⟩
          · have hyl : lp[i]'(by rw [HLN.out]; exact hl2) = y := (List.getElem?_eq_some_iff.1 HY.out).2
            have hzl : lp[q]'(by rw [HLN.out]; exact hqN) = z := (List.getElem?_eq_some_iff.1 HZ.out).2
            have h3 := @List.set_set_perm _ lp i q (by rw [HLN.out]; exact hl2) (by rw [HLN.out]; exact hqN)
            rw [hyl, hzl] at h3
            exact h3.trans hP.out
          · exact Lib.hid (fun v hv => Out.own OO2.out (hBY5.out v hv) (fun q hq e => by subst e; exact rows_ne (hBY5.out v hv) RR1.out (by decide) _ hq rfl))
          · exact Lib.hid (hB5.out.out OO2.out (fun k hk e => hB5.out.off RR1.out (by decide) k (by rw [ownBlock_slice, e]; rfl) hk) (fun k _ ⟨cs, f, h⟩ e => by
              obtain ⟨o2, h2⟩ := row_blk RR1.out
              rw [e, h2] at h
              injection h with h; injection h with _ h; exact absurd h (by decide)))
          · exact Lib.hid (Below.out hU5.out OO2.out (fun k hk => by rw [hk]; exact hg1.1) hU5.out.size)
      · rw [show decide (i < m ∧ i < N) = false by simp only [decide_eq_false_iff_not]; exact hlt]
        have hsz : w.heap.size ≤ wc.heap.size := hU.out.size
        have HFR : Hid (From w.heap.size (BS b none none none)) := Lib.hid (fun k hk => by
          rcases hk with h | h | h | h
          · rw [h]; exact hsz1
          all_goals cases h)
        have HBYT : Hid (∀ j, j < L.C → Byt (L.bs j)) := Lib.hid (fun j hj => by
          have hc := HL.out.c
          obtain ⟨x, hx⟩ : ∃ x, l[j]? = some x := ⟨_, List.getElem?_eq_getElem (by omega)⟩
          rw [(HL.out.lab j x hx (by omega)).2.2]
          exact (HA.out.by_ x (List.mem_of_getElem? hx)).1.byt)
        clear hlt
        go_wp2_with fail
        go_loopw [14, 15] (fun v14 iv wr => ∃ (i : Nat) (R js : List Nat) (q1 q2 q3 : Option Nat) (lb : List PcB) (mb : List LtB) (nxb : Nat → Nat) (tl : List MsB) (T : Option Addr) (NT cT : Nat), v14 = .slice T NT cT ∧ iv = .int .i64 (i : Int) ∧ i ≤ N ∧ mb.length ≤ i ∧ NT ≤ 20 ∧ Hid (NT = tl.length) ∧ Hid (Came L lp i R) ∧ Hid (St L R ⟨ps lb, ts mb, nxb⟩ js) ∧ Hid (tl.map (·.m) = js.map (tell L)) ∧ Hid (BX 0 wr b q1 q2 q3 lb mb nxb) ∧ Hid (From w.heap.size (BS b q1 q2 q3)) ∧ Hid (∀ s, nxb s < 65536) ∧ Hid (wr.ownsRow w.heap.size 51 7 (.slice A1 N c1) N (lp.flatMap pcc)) ∧ Hid (∀ y ∈ lo, OwnI .u8 5 w.heap.size wr y.A y.p.bs.length y.c y.p.bs) ∧ Hid (wr.ownsRow w.heap.size 32 2 (.slice T NT cT) NT (tl.flatMap mc)) ∧ Hid (∀ z ∈ tl, OwnI .u8 5 0 wr z.A z.m.2.length z.c z.m.2 ∧ Byt z.m.2) ∧ Hid (Up w wr)) (fun _ iv _ => N - (intOf iv).toNat)
        case atStart => exact ⟨0, [], [], none, none, none, [], [], fun _ => 0, [], none, 0, 0, rfl, rfl, by omega, by simp, by omega, Lib.hid rfl, Lib.hid (fun k => ⟨fun h => (by cases h), fun ⟨_, j, _, h, _⟩ => absurd h (Nat.not_lt_zero _)⟩), Lib.hid (st_none HL.out.lay.ok), Lib.hid rfl, hB, HFR, Lib.hid (fun s => by simp), hR, hBY, Lib.hid (World.ownsRow_nil _ _ _ _), Lib.hid (fun z hz => by cases hz), hU⟩
        case round =>
          clear hR hBY hB hU
          obtain ⟨i, R, js, q1, q2, q3, lb, mb, nxb, tl, T, NT, cT, rfl, rfl, hiN, hmb, hNT, hTL, hCM, hST, hTJ, hB, hF, hNX, hR, hBY, hRT, hBT, hU⟩ := hrel
          by_cases hin : i < N
          · have d1 : decide ((i : Int) < (N : Int)) = true := by simp; omega
            have hiI : (i : Int) < (N : Int) := by omega
            have hlen : lp.length = N := by rw [hP.out.length_eq]; exact HN.out.symm
            obtain ⟨y, hy⟩ : ∃ y, lp[i]? = some y := ⟨_, List.getElem?_eq_getElem (by omega)⟩
            obtain ⟨k, hk, hyk, hkR, hCM2⟩ := came_next HL.out.lay.ok hP.out HPS.out hCM.out hy
            have HCM2 := Lib.hid hCM2
            have HK := Lib.hid (And.intro hk (And.intro hyk hkR))
            have HYM : Hid (y ∈ lo) := Lib.hid (hP.out.mem_iff.1 (List.mem_of_getElem? hy))
            obtain ⟨g1, rfl⟩ := row_at hR.out (by omega)
            obtain ⟨y0, y1, y2, y3, y4, y5, y6⟩ := pcc_cells hR.out hy
            have hys := lay_sq HL.out.lay.ok hk
            rw [← hyk] at hys
            have HYS := Lib.hid hys
            have HYB : Hid (InB wr y.A y.p.bs.length y.c y.p.bs) := Lib.hid (own_inB (hBY.out y HYM.out) (by rw [hyk]; exact lay_byt HL.out.lay.ok HBYT.out hk))
            have hszr : w.heap.size ≤ wr.heap.size := hU.out.size
            clear hy hk hyk hkR hCM2 hys hlen
            go_wp2_with fail
            refine (put_any 0 b y.p.tsn y.p.st y.p.sq y.p.bs.length y.c y.p.bg y.p.en y.p.un y.A y.p.bs q1 q2 q3 lb mb nxb wr hB.out HYB.out (by have := HYS.out.1; omega) HYS.out.2.1 HYS.out.2.2.1 HYS.out.2.2.2 hNX.out (by omega) (Nat.zero_le _)).mono ?_
            rintro e w5 ⟨r5, A5, N5, c5, ms5, p1, p2, p3, lb5, mb5, nxb5, rfl, HP⟩
            obtain ⟨hr0, js2, hjs2, hST2⟩ := Fg.step HL.out.lay.ok hST.out HK.out.1 HK.out.2.2 (by
              have h := HP.out.put
              have e : (⟨y.p.tsn, y.p.st, y.p.sq, y.p.un, y.p.bg, y.p.en, y.p.bs⟩ : Pc) = L.pc k := HK.out.2.1
              rw [e] at h; exact h)
            subst hr0
            have hC20 : L.C ≤ 20 := by have := HL.out.c; omega
            have hjl := nodup_len L.C (js ++ js2) hST2.nd (fun j hj => ((hST2.told j).1 hj).1)
            have hN5 : NT + N5 ≤ 20 := by
              have h1 := congrArg List.length hTJ.out
              have h2 := congrArg List.length hjs2
              have h3 := hTL.out
              have h4 := HP.out.len
              simp only [List.length_map, List.length_append] at h1 h2 hjl
              omega
            have HST2 := Lib.hid hST2
            have HJS2 := Lib.hid hjs2
            have hz5 : wr.heap.size ≤ w5.heap.size := HP.out.out.size
            have R5 := Lib.hid (Out.own HP.out.out hR.out (hB.out.off hR.out (by decide)))
            have BY5 : Hid (∀ y ∈ lo, OwnI .u8 5 w.heap.size w5 y.A y.p.bs.length y.c y.p.bs) := Lib.hid (fun y hy => Out.own HP.out.out (hBY.out y hy) (hB.out.off (hBY.out y hy) (by decide)))
            have RT5 := Lib.hid (Out.own HP.out.out hRT.out (hB.out.off hRT.out (by decide)))
            have BT5 : Hid (∀ z ∈ tl, OwnI .u8 5 0 w5 z.A z.m.2.length z.c z.m.2 ∧ Byt z.m.2) := Lib.hid (fun z hz => ⟨Out.own HP.out.out (hBT.out z hz).1 (hB.out.off (hBT.out z hz).1 (by decide)), (hBT.out z hz).2⟩)
            have U5 : Hid (Up w w5) := Lib.hid (Below.out hU.out HP.out.out hF.out hszr)
            have F5 : Hid (From w.heap.size (BS b p1 p2 p3)) := Lib.hid (hF.out.sub HP.out.sub hszr)
            have hmb5 : mb5.length ≤ i + 1 := by have := HP.out.le; omega
            have HROW := Lib.hid HP.out.row
            have HLEN := Lib.hid HP.out.len
            have HBM := Lib.hid HP.out.by_
            have HB5 := Lib.hid HP.out.bx
            have HNX5 := Lib.hid HP.out.lt
            have hs5 : w.heap.size ≤ w5.heap.size := Nat.le_trans hszr hz5
            clear hjs2 hST2 hjl HP hB hF hNX hR hBY hRT hBT hU hST hCM y0 y1 y2 y3 y4 y5 y6 HYB
            go_wp2_with (at_builtin; refine wpList_appendG rfl (.tmp 99) (.tmp 100) 52 rfl w.heap.size 32 (.agg #[.int .u16 0, .slice none 0 0]) 2 32 Try.underlying52 info32 rfl (by omega) T NT cT (tl.flatMap mc) rfl RT5.out A5 N5 c5 (ms5.flatMap mc) rfl (by rw [rowG_length mc 2 mc_len, HLEN.out]) (row_cells HROW.out) (mc_one _) (by omega) (by omega) hs5 ?_; intro A6 N6 c6 w6 HN6 HW6 HO6 HE6)
            go_roundw
            case measure => simp [intOf]; omega
            case rel =>
              refine ⟨i + 1, k :: R, js ++ js2, p1, p2, p3, lb5, mb5, nxb5, tl ++ ms5, A6, N6, c6, by simp, by go_num, by omega, hmb5, by have := HN6.out; omega, Lib.hid ?_, HCM2, HST2, Lib.hid ?_, Lib.hid ?_, F5, HNX5, Lib.hid ?_, Lib.hid (fun v hv => ?_), Lib.hid ?_, Lib.hid (fun v hv => ?_), Lib.hid ?_⟩
              · rw [List.length_append, ← hTL.out, ← HLEN.out]; exact HN6.out
              · rw [List.map_append, List.map_append, hTJ.out, HJS2.out]
              · exact HB5.out.out HO6.out (fun q hq e => HB5.out.off RT5.out (by decide) q (by rw [ownBlock_slice]; exact e) hq) (fun q _ ⟨cs, f, h⟩ e => by
                  obtain ⟨o2, h2⟩ := row_blk2 RT5.out e
                  rw [h2] at h
                  injection h with h; injection h with _ h; exact absurd h (by decide))
              · exact Out.own HO6.out R5.out (fun q hq e => rows_ne R5.out RT5.out (by decide) q hq (by rw [ownBlock_slice]; exact e))
              · exact Out.own HO6.out (BY5.out v hv) (fun q hq e => rows_ne (BY5.out v hv) RT5.out (by decide) q hq (by rw [ownBlock_slice]; exact e))
              · rw [List.flatMap_append]; exact HW6.out
              · have key : ∀ {A : Option Addr} {N c : Nat} {xs : List Int}, OwnI .u8 5 0 w5 A N c xs → OwnI .u8 5 0 w6 A N c xs := fun h => Out.own HO6.out h (fun q hq e => rows_ne h RT5.out (by decide) q hq (by rw [ownBlock_slice]; exact e))
                rcases List.mem_append.1 hv with h3 | h3
                · exact ⟨key (BT5.out v h3).1, (BT5.out v h3).2⟩
                · exact ⟨key (HBM.out v h3).1, (HBM.out v h3).2.1⟩
              · exact Below.out U5.out HO6.out (fun q hq => (row_lt RT5.out hq).1) hs5
          · obtain rfl : i = N := by omega
            have d1 : decide ((i : Int) < (i : Int)) = false := by simp
            have hlen : lp.length = i := by rw [hP.out.length_eq]; exact HN.out.symm
            obtain ⟨hheld, hperm⟩ := st_all HL.out.lay hST.out (came_all hP.out HPS.out (by rw [hlen]; exact hCM.out))
            have hlb : lb = [] := by
              cases lb with
              | nil => rfl
              | cons z t => simp [ps] at hheld
            subst hlb
            obtain ⟨C, hC⟩ : ∃ C, C = L.C := ⟨_, rfl⟩
            have hNC : NT = C := by
              have h1 := congrArg List.length hTJ.out
              have h2 := hperm.length_eq
              have h3 := hTL.out
              simp only [List.length_map, List.length_range] at h1 h2
              omega
            subst hNC
            have HC := Lib.hid hC
            have hmin : NT = min n 20 := by have h1 := HL.out.c; have h2 := HA.out.len; omega
            have HPE := Lib.hid hperm
            have HORD := Lib.hid hST.out.ord
            have HMIN := Lib.hid hmin
            have hA2 := Lib.hid (HA.out.up hU.out)
            clear hC hmin hperm hheld hlen hST hCM hR hBY hNX hF
            go_upto_if 105 with (fail)
            go_cut [18] (fun v wx => v = .int .i64 (NT : Int) ∧ wx = wr)
            case first =>
              have hmin := HMIN.out
              by_cases hn : 20 < n
              · have d2 : decide ((n : Int) > 20) = true := by simp; omega
                have e1 : NT = 20 := by omega
                go_wp2_with fail
                go_meet
                exact ⟨by rw [e1]; rfl, rfl⟩
              · have d2 : decide ((n : Int) > 20) = false := by simp; omega
                have e1 : NT = n := by omega
                go_wp2_with fail
                go_meet
                exact ⟨by rw [e1], rfl⟩
            case rest =>
            obtain ⟨rfl, hwr⟩ := hcut
            subst hwr
            have d3 : ((NT : Int) != (NT : Int)) = false := by simp
            go_wp2_with fail
            refine (held_any hB.out).mono ?_
            rintro e w7 ⟨rfl, rfl⟩
            obtain ⟨wq, hwq⟩ : ∃ wq, wq = w7 := ⟨_, rfl⟩
            subst hwq
            have hN20 : NT ≤ 20 := hNT
            have hNn : NT ≤ n := by have := HMIN.out; omega
            clear hB hNT hmb
            go_wp2_with fail
            go_loopw [19] (fun v19 wr => ∃ s : Nat, v19 = .int .u16 (s : Int) ∧ s ≤ 8 ∧ Hid (Up wq wr)) (fun v19 _ => 8 - (intOf v19).toNat)
            case atStart => exact ⟨0, rfl, by omega, Lib.hid (Up.refl _)⟩
            case round =>
              obtain ⟨s, rfl, hs8, hV⟩ := hrel
              by_cases hs : s < 8
              · have d4 : decide ((s : Int) < 8) = true := by simp; omega
                go_wp2_with fail
                go_loopw [20, 21] (fun v20 v21 wr => ∃ (k i : Nat), v20 = .int .i64 (k : Int) ∧ v21 = .int .i64 (i : Int) ∧ i ≤ NT ∧ k ≤ NT ∧ Hid (∀ j, i ≤ j → j < L.C → L.un j = false → L.st j = s → ∀ k0, js[k0]? = some j → k ≤ k0) ∧ Hid (Up wq wr)) (fun _ v21 _ => NT - (intOf v21).toNat)
                case atStart => exact ⟨0, 0, rfl, rfl, by omega, by omega, Lib.hid (fun _ _ _ _ _ _ _ => Nat.zero_le _), hV⟩
                case round =>
                  clear hV
                  obtain ⟨k, i, rfl, rfl, hiN2, hkN, hG, hV⟩ := hrel
                  by_cases hi : i < NT
                  · have d5 : decide ((i : Int) < (NT : Int)) = true := by simp; omega
                    have hiI : (i : Int) < (n : Int) := by omega
                    obtain ⟨x, g2, o2, hx, hgA, hcq, hxbq, hxl⟩ := hA2.out.at_ (show i < n by omega)
                    subst hgA
                    have hk1q : wq.cell? ⟨g2, o2 + i * 4 + 1, none⟩ = some (.slice x.A x.bs.length x.c) := hcq 1 _ rfl
                    have hc : ∀ j v, (ctc x)[j]? = some v → wr.cell? ⟨g2, o2 + i * 4 + j, none⟩ = some v := fun j v h => cell_up (hcq j v h) hV.out
                    have HX := Lib.hid (HL.out.lab i x hx (by have h1 := HL.out.c; have h2 := HC.out; omega))
                    have HXB := Lib.hid hxbq
                    have k0 : wr.cell? ⟨g2, o2 + i * 4, none⟩ = some (.int .u16 x.st) := hc 0 _ rfl
                    have k1 : wr.cell? ⟨g2, o2 + i * 4 + 1, none⟩ = some (.slice x.A x.bs.length x.c) := hc 1 _ rfl
                    have k2 : wr.cell? ⟨g2, o2 + i * 4 + 2, none⟩ = some (.bool x.un) := hc 2 _ rfl
                    clear hx hc hxbq hcq
                    go_upto_region 33 with (fail)
                    go_cut [138] (fun v wx => v = .bool (decide (x.st ≠ s ∨ x.un = true)) ∧ wx = wr)
                    case first =>
                      by_cases h1 : x.st = s
                      · have d6 : ((x.st : Int) != (s : Int)) = false := by simp; omega
                        go_wp2_with fail
                        go_meet
                        exact ⟨by simp [h1], rfl⟩
                      · have d6 : ((x.st : Int) != (s : Int)) = true := by simp; omega
                        go_wp2_with fail
                        go_meet
                        exact ⟨by simp [h1], rfl⟩
                    case rest =>
                    obtain ⟨rfl, hwr⟩ := hcut
                    subst hwr
                    by_cases hm : x.st ≠ s ∨ x.un = true
                    · rw [show decide (x.st ≠ s ∨ x.un = true) = true from decide_eq_true hm]
                      go_wp2_with fail
                      go_roundw
                      case rel => exact ⟨k, i + 1, by simp, by go_num, by omega, by omega, Lib.hid (fun j hj => hG.out j (by omega)), hV⟩
                      case measure => simp [intOf]; omega
                    · rw [show decide (x.st ≠ s ∨ x.un = true) = false from decide_eq_false hm]
                      have hxs : x.st = s := Decidable.byContradiction (fun h => hm (.inl h))
                      have hxu : x.un = false := by cases hu : x.un with
                        | false => rfl
                        | true => exact absurd (.inr hu) hm
                      have hiC : i < L.C := by have := HC.out; omega
                      obtain ⟨kq, hkq1, hkq2⟩ := told_at HPE.out hiC
                      have hjl : js.length = NT := by have h1 := HPE.out.length_eq; have h2 := HC.out; simp at h1; omega
                      have hkk : k ≤ kq := hG.out i (Nat.le_refl _) hiC (by rw [HX.out.2.1]; exact hxu) (by rw [HX.out.1]; exact hxs) kq hkq2
                      have hkqN : kq < NT := by omega
                      have HKQ := Lib.hid hkq2
                      have HXS := Lib.hid (And.intro hxs hxu)
                      have HJL := Lib.hid hjl
                      have hcx : ∀ w2, Up wq w2 → w2.cell? ⟨g2, o2 + i * 4 + 1, none⟩ = some (.slice x.A x.bs.length x.c) ∧ Hid (InB w2 x.A x.bs.length x.c x.bs) := fun w2 h2 => ⟨cell_up hk1q h2, Lib.hid (HXB.out.up h2)⟩
                      clear hm hkq2 hjl hkq1 hxs hxu k0 k1 k2
                      go_wp2_with fail
                      go_loopw [20] (fun v20 wr => ∃ k : Nat, v20 = .int .i64 (k : Int) ∧ k ≤ kq ∧ Hid (Up wq wr)) (fun v20 _ => NT - (intOf v20).toNat)
                      case atStart => exact ⟨k, rfl, hkk, hV⟩
                      case round =>
                        clear hV hG hkk hkN
                        obtain ⟨k, rfl, hkk, hV⟩ := hrel
                        have d6 : decide ((k : Int) < (NT : Int)) = true := by simp; omega
                        have hkI : (k : Int) < (NT : Int) := by omega
                        obtain ⟨z, hz⟩ : ∃ z, tl[k]? = some z := ⟨_, List.getElem?_eq_getElem (by have := hTL.out; omega)⟩
                        obtain ⟨gT, rfl⟩ := row_at hRT.out (by omega)
                        have c0 : wr.cell? ⟨gT, k * 2, none⟩ = some (.int .u16 z.m.1) := cell_up (row_cell hRT.out (rowG_at mc 2 mc_len hz (j := 0) rfl)) hV.out
                        have c1 : wr.cell? ⟨gT, k * 2 + 1, none⟩ = some (.slice z.A z.m.2.length z.c) := cell_up (row_cell hRT.out (rowG_at mc 2 mc_len hz (j := 1) rfl)) hV.out
                        have kx := hcx wr hV.out
                        obtain ⟨kx1, HXV⟩ := kx
                        have hkj : k < js.length := by have := HJL.out; omega
                        obtain ⟨jk, hjk⟩ : ∃ jk, js[k]? = some jk := ⟨_, List.getElem?_eq_getElem hkj⟩
                        have hzm : z.m = tell L jk := by
                          have h3 : (tl.map (·.m))[k]? = some z.m := by rw [List.getElem?_map, hz]; rfl
                          rw [hTJ.out, List.getElem?_map, hjk] at h3
                          exact (Option.some.inj h3).symm
                        have HZB : Hid (InB wr z.A z.m.2.length z.c z.m.2) := Lib.hid ((own_inB (hBT.out z (List.mem_of_getElem? hz)).1 (hBT.out z (List.mem_of_getElem? hz)).2).up hV.out)
                        have v1 := fun j => conv_up HZB.out (up_drewN wr j)
                        have v2 := fun j => conv_up HXV.out (up_drewN wr j)
                        have hes := str_eq HZB.out.byt HXB.out.byt
                        have HNE : Hid (z.m ≠ (s, x.bs) → k ≠ kq) := Lib.hid (fun h e => by
                          subst e
                          rw [HKQ.out] at hjk
                          injection hjk with hjk
                          subst hjk
                          apply h
                          rw [hzm]
                          unfold tell
                          rw [HX.out.1, HX.out.2.2, HXS.out.1])
                        clear hz hjk hzm hkj
                        go_upto_region 34 with (fail)
                        by_cases h1 : z.m.1 = s
                        · have d7 : ((z.m.1 : Int) != (s : Int)) = false := by simp; omega
                          by_cases h2 : z.m.2 = x.bs
                          · have hz2 := h2
                            rw [h2] at c1 v1
                            have hes2 : ((strOfNums x.bs).toList == (strOfNums x.bs).toList) = true := by simp
                            clear hes
                            go_quiet (fail)
                            have d8 : ((k : Int) == (NT : Int)) = false := by simp; omega
                            clear c0 c1 v1 v2 kx1 hes2 d7 hz2
                            go_wp2_with fail
                            go_roundw
                            case rel => exact ⟨k + 1, i + 1, by go_num, by go_num, by omega, by omega, Lib.hid (fun j hj1 hj2 hj3 hj4 k0 hk0 => by
                              have := told_ord HL.out.lay HORD.out (show i < j by omega) hj2 (by rw [HX.out.2.1]; exact HXS.out.2) hj3 (by rw [HX.out.1, HXS.out.1]; exact hj4.symm) HKQ.out hk0
                              omega), Lib.hid (hV.out.trans (up_drewN wr _))⟩
                            case measure => simp [intOf]; omega
                          · have hne := HNE.out (fun e => h2 (congrArg Prod.snd e))
                            rw [decide_eq_false h2] at hes
                            go_quiet (fail)
                            clear c0 c1 v1 v2 kx1 hes d7
                            go_wp2_with fail
                            go_roundw
                            case rel => exact ⟨k + 1, by go_num, by omega, Lib.hid (hV.out.trans (up_drewN wr _))⟩
                            case measure => simp [intOf]; omega
                        · have d7 : ((z.m.1 : Int) != (s : Int)) = true := by simp; omega
                          have hne := HNE.out (fun e => h1 (congrArg Prod.fst e))
                          go_quiet (fail)
                          clear c0 c1 v1 v2 kx1 hes d7
                          go_wp2_with fail
                          go_roundw
                          case rel => exact ⟨k + 1, by go_num, by omega, Lib.hid (hV.out.trans (up_drewN wr _))⟩
                          case measure => simp [intOf]; omega
                  · obtain rfl : i = NT := by omega
                    have d5 : decide ((i : Int) < (i : Int)) = false := by simp
                    go_wp2_with fail
                    go_roundw
                    case rel => exact ⟨s + 1, by go_num, by omega, hV⟩
                    case measure => simp [intOf]; omega
              · obtain rfl : s = 8 := by omega
                have d4 : decide (((8 : Nat) : Int) < 8) = false := by simp
                go_wp2_with fail
                go_loopw [22] (fun v22 wr => ∃ i : Nat, v22 = .int .i64 (i : Int) ∧ i ≤ NT ∧ Hid (Up wq wr)) (fun v22 _ => NT - (intOf v22).toNat)
                case atStart => exact ⟨0, rfl, by omega, hV⟩
                case round =>
                  clear hV
                  obtain ⟨i, rfl, hiN3, hV⟩ := hrel
                  by_cases hi : i < NT
                  · have d5 : decide ((i : Int) < (NT : Int)) = true := by simp; omega
                    have hiI : (i : Int) < (n : Int) := by omega
                    obtain ⟨x, g2, o2, hx, hgA, hcq, hxbq, hxl⟩ := hA2.out.at_ (show i < n by omega)
                    subst hgA
                    have hx0q : wq.cell? ⟨g2, o2 + i * 4, none⟩ = some (.int .u16 x.st) := hcq 0 _ rfl
                    have hx1q : wq.cell? ⟨g2, o2 + i * 4 + 1, none⟩ = some (.slice x.A x.bs.length x.c) := hcq 1 _ rfl
                    have HX := Lib.hid (HL.out.lab i x hx (by have h1 := HL.out.c; have h2 := HC.out; omega))
                    have HXB := Lib.hid hxbq
                    have hcx : ∀ w2, Up wq w2 → w2.cell? ⟨g2, o2 + i * 4, none⟩ = some (.int .u16 x.st) ∧ w2.cell? ⟨g2, o2 + i * 4 + 1, none⟩ = some (.slice x.A x.bs.length x.c) ∧ Hid (InB w2 x.A x.bs.length x.c x.bs) := fun w2 h2 => ⟨cell_up hx0q h2, cell_up hx1q h2, Lib.hid (HXB.out.up h2)⟩
                    have HCX := Lib.hid hcx
                    have HTX : Hid (tell L i = (x.st, x.bs)) := Lib.hid (by unfold tell; rw [HX.out.1, HX.out.2.2])
                    clear hx hxbq hcq hx0q hx1q hcx
                    go_wp2_with fail
                    refine loop7 g2 o2 n _ NT cT i T l L nx F js tl x w.heap.size wq wr _ _ _ _ _ _ _ _ _ _ _ _ _ _ _ _ _ _ _ _ _ _ _ _ _ _ _ _ _ _ _ _ _ _ _ _ _ _ _ _ _ _ _ _ _ _ _ _ _ _ _ _ _ _ _ _ _ _ _ _ _ _ _ _ _ _ _ _ _ _ _ _ _ _ _ _ _ _ _ _ _ _ _ _ _ _ _ _ _ _ _ _ _ _ _ _ _ _ _ _ _ _ _ _ _ _ _ _ _ _ _ _ _ _ _ _ _ _ _ _ _ _ _ _ _ _ _ _ _ _ _ _ _ _ _ _ _ _ _ _ _ _ _ _ _ _ _ _ _ _ _ _ _ _ _ _ _ _ _ _ _ _ _ _ _ _ _ _ _ _ _ _ _ _ _ _ _ _ _ _ _ _ _ _ _ _ _ _ _ _ _ _ _ _ _ _ _ _ _ _ _ _ _ _ _ _ _ _ _ _ _ _ _ _ _ _ _ _ _ _ _ _ _ _ _ _ _ _ _ _ _ _ _ _ _ _ _ _ _ _ _ _ _ _ _ HL HC HPE hTL hTJ hRT hBT hA2 hN20 hNn hi hiI HCX HTX hV ?_
                    intro u181 u182 u183 u184 u185 u186 u187 u188 u189 u190 u191 u192 u193 u194 u195 u196 u197 u198 u199 u200 u201 u202 u203 u204 u205 u206 u207 u208 u209 u210 u211 u212 u213 u214 u215 u216 u217 u218 u219 u220 u221 u222 u223 u224 u225 u226 u227 u228 u229 u230 u231 u232 u233 u234 u235 u236 u237 u238 u239 u240 u241 u242 u243 u244 u245 u246 u247 a w8 hV8
                    have d7 : ((a : Int) != (a : Int)) = false := by simp
                    clear hV
                    go_wp2_with fail
                    go_roundw
                    case rel => exact ⟨i + 1, by go_num, by omega, hV8⟩
                    case measure => simp [intOf]; omega
                  · obtain rfl : i = NT := by omega
                    have d5 : decide ((i : Int) < (i : Int)) = false := by simp
                    go_wp2_with fail
                    go_ret
                    exact ⟨rfl, Lib.hid (hU.out.trans hV.out)⟩
end Go.Proofs.Ytgcabidhpnaoiaa

import Derived.Test.YtghldkjbmfbdfaaDoorRowPut
import Derived.Test.YtghldkjbmfbdfaaDoorDcJ1
import Derived.Deep.DeepBigQuietO
namespace Go.Proofs.YtghldkjbmfbdfaaDoor
open Go Go.RowKit Dc
set_option linter.unusedVariables false
set_option linter.unusedSimpArgs false
/-! The law DictFine. -/
def RowE (base : Nat) (v : Value) (w : World) : Prop := ∃ q, v = .slice (some ⟨q, 0, none⟩) 0 0 ∧ w.ownsRow base 40 6 (.slice (some ⟨q, 0, none⟩) 0 0) 0 []
theorem keeps_rowE (base : Nat) : Keeps (RowE base) := fun v w w' ⟨q, h1, h2⟩ hu => ⟨q, h1, own_up h2 hu⟩
def RowR (rs : List Ru) (m base : Nat) (v : Value) (w : World) : Prop := ∃ A c, v = .slice A m c ∧ w.ownsRow base 40 6 (.slice A m c) m (rowr rs)
theorem keeps_rowR (rs : List Ru) (m base : Nat) : Keeps (RowR rs m base) := fun v w w' ⟨A, c, h1, h2⟩ hu => ⟨A, c, h1, own_up h2 hu⟩
def InLF (lp : List Av.Avp) (v : Value) (w : World) : Prop := ∃ A n c L, v = .slice A n c ∧ InL w A n c L ∧ L.map AvB.pure = lp ∧ n ≤ 1000
theorem keeps_inLF (lp : List Av.Avp) : Keeps (InLF lp) := fun v w w' ⟨A, n, c, L, h1, h2, h3, h4⟩ hu => ⟨A, n, c, L, h1, h2.up hu, h3, h4⟩
def ResF (v : Value) (w : World) : Prop := ∃ A c, v = .tuple #[.int .i64 2001, .slice A 0 c, .int .i64 0]
theorem keeps_resF : Keeps ResF := fun _ _ _ h _ => h
def SlF (v : Value) (w : World) : Prop := ∃ A c, v = .slice A 0 c
theorem keeps_slF : Keeps SlF := fun _ _ _ h _ => h
theorem bslice0 (w : World) : (Instr.buildSlice 28 0 #[]).run Tryd.prog w = .ok (.slice (some ⟨w.heap.size, 0, none⟩) 0 0) (w.alloc (.cells #[] 40)) := by kernel_rfl
theorem find_has {rs : List Ru} {n : Nm} (h : has rs n = false) : find rs n = none := find_none fun i r hi e => by
  have h2 : has rs n = true := has_true.2 ⟨r, List.mem_of_getElem? hi, e⟩
  rw [h] at h2; cases h2
set_option maxRecDepth 100000 in
set_option maxHeartbeats 8000000 in
theorem law_fine (A B C : Option Addr) (m c n d k e : Nat) (rs : List Ru) (l : List AvB) (os : List Int) (x : AvB) (w : World) (h0 : InR w A m c rs) (h1 : InL w B n d l) (h2 : InB w C k e os) (h3 : AvIn w x) (hT : Tab w) (u0 : m ≤ 140737488351232) (u1 : n ≤ 140737488351232) (u2 : k ≤ 140737488351232) :
    Calls Tryd.prog 5 #[.slice A m c, .slice B n d, .slice C k e, avV x] w (RetB true w) := by
  have H0 := Lib.hid h0
  have H1 := Lib.hid h1
  have H2 := Lib.hid h2
  have H3 := Lib.hid h3
  have HT := Lib.hid hT
  have hcap2 := h2.cap
  have hcap0 := h0.cap
  have hmo : Tryd.prog.follows .mixedOrders = true := by kernel_rfl
  clear h0 h1 h2 h3 hT
  have HUm := Lib.hid (up_alloc w (avO x))
  have HPm := Lib.hid (new_at w (avO x))
  unfold avV
  go_enter Tryd.func5, Tryd.ntmps5
  go_upto_region 1 with (fail)
  change Code.wp _ _ _ _ (w.alloc (avO x))
  generalize w.alloc (avO x) = w0 at HUm HPm ⊢
  have HPW := Lib.hid (show w.heap.size ≤ w.heap.size from Nat.le_refl _)
  generalize hpm : w.heap.size = pm at HPm HPW ⊢
  rw [← hpm] at HPW
  have HPW := Lib.hid (show w.heap.size ≤ pm by rw [hpm]; exact Nat.le_refl _)
  clear hpm
  go_wp2_with fail
  refine (answers_any w0 (HT.out.up HUm.out)).mono ?_
  rintro e1 w1 ⟨rfl, hu⟩
  have HU1 := Lib.hid (HUm.out.trans hu)
  have HP1 := Lib.hid (blk_up HPm.out hu)
  clear hu HUm HPm
  go_wp2_with fail
  refine (light_any A m c B n d w1).mono ?_
  rintro e1 w' ⟨rfl, hw⟩
  obtain rfl := hw.symm
  by_cases hli : m ≤ 80 ∧ n ≤ 150
  · rw [decide_eq_true hli]
    obtain ⟨hm80, hn150⟩ := hli
    have HLr := Lib.hid H0.out.len
    have HOr := Lib.hid H0.out.ok
    have HE1 := Lib.hid (show (l.map AvB.pure).take 200 = l.map AvB.pure from List.take_of_length_le (by rw [List.length_map, H1.out.len]; omega))
    have HUa := Lib.hid (HU1.out.trans (up_alloc w1 (.cells #[] 40)))
    have HCa := Lib.hid (H0.out.up HUa.out).cells
    have HZa := Lib.hid (show w1.heap.size ≤ (w1.alloc (.cells #[] 40)).heap.size from (up_alloc w1 (.cells #[] 40)).size)
    have HRn := Lib.hid (row40_new w1)
    go_wp2_with (at_builtin; refine wpList_appendG rfl (.tmp 30) (.tmp 31) 28 rfl w1.heap.size 40 (.agg #[.int .u32 0, .int .u32 0, .int .i64 0, .bool false, .int .i64 0, .int .i64 0]) 6 40 Tryd.underlying28 info40 rfl (by decide) (some ⟨w1.heap.size, 0, none⟩) 0 0 [] rfl HRn.out A m c (rowr rs) rfl (by rw [rowr_length, HLr.out]) HCa.out (rowr_one _) (by omega) (by omega) HZa.out ?_; intro A3 N3 c3 w3 HN HW HO HB)
    obtain rfl : m = N3 := by have := HN.out; omega
    have HS3 := Lib.hid (show Up w1 w3 from Below.out (up_alloc w1 (.cells #[] 40)) HO.out (fun q hq => by have h1 : w1.heap.size = q := Option.some.inj hq; omega) (up_alloc w1 (.cells #[] 40)).size)
    have HU3 := Lib.hid (Up.trans HU1.out HS3.out)
    have HR3 := Lib.hid (own_inR (by have h1 := HW.out; rw [List.nil_append] at h1; exact h1) HLr.out HOr.out)
    clear HUa HCa HZa HRn HN HW HO HB
    refine (own_any B n d l w3 (H1.out.up HU3.out) u1).mono ?_
    rintro e1 w4 ⟨A4, n4, c4, out4, rfl, hG4, hM4, hl4, hU4⟩
    rw [HE1.out] at hM4
    have HU4 := Lib.hid (HU3.out.trans hU4.out)
    have HP4 := Lib.hid (blk_up (blk_up HP1.out HS3.out) hU4.out)
    have HR4 := Lib.hid (HR3.out.up hU4.out)
    clear HR3 hU4 HS3 HP1
    go_wp2_with fail
    have hj := judge_any A3 m c3 rs A4 n4 c4 out4 w4 HR4.out hG4.out.inL (HT.out.up HU4.out) u0 (by have := hl4.out; omega)
    rw [hM4.out] at hj
    refine Calls.mono hj ?_
    rintro e1 w5 ⟨A5, n5, c5, out5, rfl, hG5, hM5, hl5, hU5⟩
    have HU5 := Lib.hid (HU4.out.trans hU5.out)
    have HP5 := Lib.hid (blk_up HP4.out hU5.out)
    clear hj hU5 HR4 hG4 hM4 hl4 HP4 hG5 hM5 hl5 HU4 HU3
    by_cases hc : (judge rs (l.map AvB.pure)).1 = 2001
    · have HC := Lib.hid hc
      rw [(judge_fine1 hc).2.2.2.2]
      clear hc
      go_wp2_with fail
      refine (own_any B n d l w5 (H1.out.up HU5.out) u1).mono ?_
      rintro e1 w6 ⟨A6, n6, c6, out6, rfl, hG6, hM6, hl6, hU6⟩
      rw [HE1.out] at hM6
      have hn6 : n6 ≤ 150 := by have := map_len hM6.out hG6.out.len; rw [List.length_map, H1.out.len] at this; omega
      have HV6 := Lib.hid hU6.out
      have HP6 := Lib.hid (blk_up HP5.out hU6.out)
      have HPS := Lib.hid (show pm < w5.heap.size from lt_of_blk HP5.out)
      have HPM := Lib.hid (show out6.map AvB.pure |>.Perm (l.map AvB.pure) by rw [hM6.out])
      clear hM6 hl6 hU6 HP5
      go_wp2_with fail
      go_loopw [13] (fun i wr => ∃ (j : Nat) (out : List AvB), i = .int .i64 (j : Int) ∧ j ≤ 150 ∧ Hid (GL w5.heap.size wr A6 n6 c6 out) ∧ Hid ((out.map AvB.pure).Perm (l.map AvB.pure)) ∧ Hid (wr.heap[pm]? = some (avO x)) ∧ Hid (Up w5 wr)) (fun i _ => 151 - (intOf i).toNat)
      case atStart => exact ⟨0, out6, rfl, by omega, hG6, HPM, HP6, HV6⟩
      case round =>
        clear hG6 HPM HP6 HV6
        obtain ⟨j, out, rfl, hj, hG, hM, hP, hV⟩ := hrel
        by_cases hlt : j < k ∧ j < n6
        · obtain ⟨hjk, hjn⟩ := hlt
          have d1 : decide ((j : Int) < (k : Int)) = true := decide_eq_true (by omega)
          have d2 : decide ((j : Int) < (n6 : Int)) = true := decide_eq_true (by omega)
          have hjk2 : (j : Int) < (k : Int) := by omega
          have hjn2 : (j : Int) < (n6 : Int) := by omega
          obtain ⟨gc, oc, rfl, -, -⟩ := H2.out.cells (fun e => by have h1 := congrArg List.length e; rw [ints_length, H2.out.len, List.length_nil] at h1; omega)
          have hob := byt_cell (H2.out.up (HU5.out.trans hV.out)) hjk
          have hbb := byt_byt H2.out.byt j
          obtain ⟨b, hb⟩ : ∃ b : Nat, byt os j = (b : Int) := ⟨(byt os j).toNat, by omega⟩
          rw [hb] at hob hbb
          obtain ⟨q, hq⟩ : ∃ q, q = b % n6 := ⟨_, rfl⟩
          have hqn : q < n6 := by rw [hq]; exact Nat.mod_lt _ (by omega)
          have hqn2 : (q : Int) < (n6 : Int) := by omega
          have e1 : (b : Int) % (n6 : Int) = (q : Int) := by rw [hq]; omega
          have hn0 : ((n6 : Int) == 0) = false := by rw [beq_eq_false_iff_ne]; omega
          have hn1 : ¬ ((n6 : Int) = 0) := by omega
          clear hb hq
          go_upto_region 11 with (fail)
          first | rw [e1] | skip
          clear e1 hob
          obtain ⟨y, ga, oa, hy, he, k0, k1, k2, k3, k4, hyi⟩ := hG.out.inL.at_ hjn
          obtain ⟨ga', rfl⟩ := gl_blk hG.out (by omega)
          obtain ⟨rfl, rfl⟩ : ga' = ga ∧ 0 = oa := by injection he with he; injection he with h1 h2; exact ⟨h1, h2⟩
          rw [Nat.zero_add] at k0 k1 k2 k3 k4
          have HY := Lib.hid hy
          have HYO := Lib.hid (hG.out.av y (List.mem_of_getElem? hy))
          have HGA := Lib.hid (hG.out.lt (k := ga') rfl)
          have HPG := Lib.hid (show pm ≠ ga' from fun e => by have h1 := HGA.out.1; have h2 := HPS.out; omega)
          have HX := Lib.hid (new_at wr (avO y))
          have HUy := Lib.hid (up_alloc wr (avO y))
          clear he hyi hy
          go_upto_region 12 with (fail)
          change Code.wp _ _ _ _ (wr.alloc (avO y))
          generalize wr.alloc (avO y) = wa at HX HUy ⊢
          have HSG := Lib.hid (show ¬ wr.heap.size = ga' from fun e => by have h1 := HGA.out.2; omega)
          generalize wr.heap.size = s3 at HX HSG ⊢
          clear k0 k1 k2 k3 k4
          have HGa := Lib.hid (hG.out.up HUy.out)
          have HVa := Lib.hid (hV.out.trans HUy.out)
          have HPa := Lib.hid (blk_up hP.out HUy.out)
          obtain ⟨z, ga2, oa2, hz, he, k0, k1, k2, k3, k4, -⟩ := HGa.out.inL.at_ hqn
          obtain ⟨rfl, rfl⟩ : ga' = ga2 ∧ 0 = oa2 := by injection he with he; injection he with h1 h2; exact ⟨h1, h2⟩
          rw [Nat.zero_add] at k0 k1 k2 k3 k4
          have HZ := Lib.hid hz
          have HZO := HGa.out.av z (List.mem_of_getElem? hz)
          obtain ⟨t1, g1, o1⟩ := gl_put HGa.out hjn HZO.1 (fun t ht e => HZO.2 t ht (by rw [e]; rfl))
          have T1 := Lib.hid t1
          have G1 := Lib.hid g1
          have O1 := Lib.hid o1
          clear he hz HZO t1 g1 o1
          go_upto_region 13 with (refine store_midTo rfl 38 (.tmp 77) (.tmp 76) rfl rfl ga' (j * 5) (avc z) rfl rfl T1.out (avc_i38 z) (avc_one z) ?_)
          have HX5 := Lib.hid (O1.out.blk HX.out HSG.out)
          have HP5 := Lib.hid (O1.out.blk HPa.out HPG.out)
          have HV5 := Lib.hid (show Up w5 (wa.setCells ga' (j * 5) (avc z)) from Below.out HVa.out O1.out (fun t ht => by rw [ht]; exact HGA.out.1) HVa.out.size)
          have HYO5 := Lib.hid ((HYO.out.1.up HUy.out).out O1.out (fun t ht e => HYO.out.2 t ht (by rw [show t = ga' from e]; rfl)))
          clear k0 k1 k2 k3 k4 T1 HX HVa HPa HGa
          generalize wa.setCells ga' (j * 5) (avc z) = wb at HX5 HP5 HV5 G1 HYO5 ⊢
          obtain ⟨t2, g2, o2⟩ := gl_put G1.out hqn HYO5.out (fun t ht e => HYO.out.2 t ht (by rw [e]; rfl))
          have T2 := Lib.hid t2
          have G2 := Lib.hid g2
          have O2 := Lib.hid o2
          clear t2 g2 o2 O1
          have x0 : wb.cell? ⟨s3, 0, none⟩ = some (.int .u32 y.code) := cell_of HX5.out rfl
          have x1 : wb.cell? ⟨s3, 1, none⟩ = some (.int .u32 y.vendor) := cell_of HX5.out rfl
          have x2 : wb.cell? ⟨s3, 2, none⟩ = some (.bool y.must) := cell_of HX5.out rfl
          have x3 : wb.cell? ⟨s3, 3, none⟩ = some (.bool y.prot) := cell_of HX5.out rfl
          have x4 : wb.cell? ⟨s3, 4, none⟩ = some (.slice y.A y.n y.c) := cell_of HX5.out rfl
          go_upto_region 9 with (refine store_midTo rfl 38 (.tmp 81) (.tmp 80) rfl rfl ga' (q * 5) (avc y) rfl rfl T2.out (avc_i38 y) (avc_one y) ?_)
          have HP6 := Lib.hid (O2.out.blk HP5.out HPG.out)
          have HV6 := Lib.hid (show Up w5 (wb.setCells ga' (q * 5) (avc y)) from Below.out HV5.out O2.out (fun t ht => by rw [ht]; exact HGA.out.1) HV5.out.size)
          have HM6 := Lib.hid (show ((((out.set j z).set q y).map AvB.pure)).Perm (l.map AvB.pure) from by
            have hyl : out[j]'(by rw [hG.out.len]; exact hjn) = y := (List.getElem?_eq_some_iff.1 HY.out).2
            have hzl : out[q]'(by rw [hG.out.len]; exact hqn) = z := (List.getElem?_eq_some_iff.1 HZ.out).2
            have h3 := @List.set_set_perm _ out j q (by rw [hG.out.len]; exact hjn) (by rw [hG.out.len]; exact hqn)
            rw [hyl, hzl] at h3
            exact (h3.map AvB.pure).trans hM.out)
          clear x0 x1 x2 x3 x4 T2 HX5 HP5 HV5 O2
          generalize wb.setCells ga' (q * 5) (avc y) = wc at HP6 HV6 G2 ⊢
          go_wp2_with fail
          go_roundw
          case rel => exact ⟨j + 1, (out.set j z).set q y, by go_num, by omega, G2, HM6, HP6, HV6⟩
          case measure => simp [intOf]; omega
        · by_cases hjk : j < k
          · have d1 : decide ((j : Int) < (k : Int)) = true := decide_eq_true (by omega)
            have d2 : decide ((j : Int) < (n6 : Int)) = false := decide_eq_false (by omega)
            go_upto_region 14 with (fail)
            have HUr := Lib.hid (show Up w wr from Up.trans HU5.out hV.out)
            have hxn := H3.out.n
            have HXL := Lib.hid H3.out.inb.len
            have z2 : wr.cell? ⟨pm, 2, none⟩ = some (.bool x.must) := cell_of hP.out rfl
            have y2 := frozen_at (j := 2) hP.out
            have hst2 := setCell_out wr pm 2 (.bool false)
            have HQ7 := Lib.hid (show (wr.setCell ⟨pm, 2, none⟩ (.bool false)).heap[pm]? = some (avO ⟨x.code, x.vendor, false, x.prot, x.A, x.n, x.c, x.bs⟩) from (setCell_at (j := 2) (.bool false) hP.out).trans rfl)
            have HU7 := Lib.hid (show Up w (wr.setCell ⟨pm, 2, none⟩ (.bool false)) from Below.out HUr.out hst2 (fun t ht => by have e2 : t = pm := ht; rw [e2]; exact HPW.out) HUr.out.size)
            have HSZ7 := Lib.hid (show w5.heap.size ≤ (wr.setCell ⟨pm, 2, none⟩ (.bool false)).heap.size from Nat.le_trans hV.out.size hst2.size)
            have HG7 := Lib.hid (hG.out.outP hst2 (fun t ht => by have e2 : t = pm := ht; rw [e2]; exact HPS.out))
            go_upto_region 15 with (fail)
            clear z2 y2 hst2
            generalize wr.setCell ⟨pm, 2, none⟩ (.bool false) = w7 at HQ7 HU7 HG7 HSZ7 ⊢
            clear HUr
            have HI7 := Lib.hid (H3.out.inb.up HU7.out)
            have z4a := cell_up (show w7.cell? ⟨pm, 4, none⟩ = some (.slice x.A x.n x.c) from cell_of HQ7.out (j := 4) rfl) (up_alloc w7 (.cells #[] 5))
            have HPL := Lib.hid (lt_of_blk HQ7.out)
            go_upto_region 16 with (at_builtin; refine wpList_appendI rfl (.tmp 83) (.tmp 85) 22 rfl .u8 w7.heap.size 5 1 Tryd.underlying22 info5 (some ⟨w7.heap.size, 0, none⟩) 0 0 [] rfl (ownI_new _ _ _) x.A x.n x.c x.bs rfl HI7.out.len (HI7.out.cells.alloc _) (by omega) (by omega) (by simp) ((Below.refl _ _).alloc (Nat.le_refl _) _) ?_; intro A8 N8 c8 w8 HN8 HW8 HB8 hsz8; have hc8 := (HB8.out.block _ HPL.out).trans HQ7.out; have z4 := cell_of hc8 (j := 4) rfl; have y4 := frozen_at (j := 4) hc8)
            have hN8 : N8 = x.n := by have := HN8.out; omega
            subst hN8
            have hst4 := setCell_out w8 pm 4 (.slice A8 x.n c8)
            have HQ9 := Lib.hid (show (w8.setCell ⟨pm, 4, none⟩ (.slice A8 x.n c8)).heap[pm]? = some (avO ⟨x.code, x.vendor, false, x.prot, A8, x.n, c8, x.bs⟩) from (setCell_at (j := 4) (.slice A8 x.n c8) hc8).trans rfl)
            have HO9 := Lib.hid (show OwnI .u8 5 w7.heap.size (w8.setCell ⟨pm, 4, none⟩ (.slice A8 x.n c8)) A8 x.n c8 x.bs from hst4.own (show OwnI .u8 5 w7.heap.size w8 A8 x.n c8 x.bs from by have h1 := HW8.out; rw [List.nil_append] at h1; exact h1) (fun t ht e => by have h1 := (row_lt (show OwnI .u8 5 w7.heap.size w8 A8 x.n c8 x.bs from by have h1 := HW8.out; rw [List.nil_append] at h1; exact h1) (by rwa [ownBlock_slice] at ht)).1; have h2 := HPL.out; have e2 : t = pm := e; omega))
            have HU9 := Lib.hid (show Up w (w8.setCell ⟨pm, 4, none⟩ (.slice A8 x.n c8)) from Below.out (Up.trans HU7.out HB8.out) hst4 (fun t ht => by have e2 : t = pm := ht; rw [e2]; exact HPW.out) (Up.trans HU7.out HB8.out).size)
            have HG9 := Lib.hid ((HG7.out.up HB8.out).outP hst4 (fun t ht => by have e2 : t = pm := ht; rw [e2]; exact HPS.out))
            have HSZ9 := Lib.hid (show w5.heap.size ≤ (w8.setCell ⟨pm, 4, none⟩ (.slice A8 x.n c8)).heap.size from Nat.le_trans HSZ7.out (Nat.le_trans HB8.out.size hst4.size))
            have HGL := Lib.hid (show ∀ t, blk? A6 = some t → t < w7.heap.size from fun t ht => (HG7.out.lt ht).2)
            clear z4a z4 y4 hc8 hst4 HW8 HB8 hsz8 HN8 HI7 HG7 HU7 HQ7
            generalize w8.setCell ⟨pm, 4, none⟩ (.slice A8 x.n c8) = w9 at HQ9 HO9 HU9 HG9 HSZ9 ⊢
            have HXO := Lib.hid (show OwnA w7.heap.size w9 ⟨x.code, x.vendor, false, x.prot, A8, x.n, c8, x.bs⟩ from ⟨HO9.out, ⟨H3.out.ok.code, H3.out.ok.vendor, H3.out.ok.byt⟩, hxn⟩)
            clear HO9
            go_wp2_with fail
            go_loopw [16] (fun i wr => ∃ t : Nat, t ≤ m ∧ i = .int .i64 (t : Int) ∧ Hid (has (rs.take t) (nmA x.pure) = false) ∧ Hid (Up w9 wr)) (fun i _ => m - (intOf i).toNat)
            case atStart => exact ⟨0, Nat.zero_le _, rfl, Lib.hid (by simp [has]), Lib.hid (Up.refl _)⟩
            case round =>
              obtain ⟨t, ht, rfl, hN, hW⟩ := hrel
              by_cases htm : t < m
              · have f0 : decide ((t : Int) < (m : Int)) = true := decide_eq_true (by omega)
                have htz : (t : Int) < (m : Int) := by omega
                obtain ⟨r, g', o', hr, rfl, ⟨k0, k1, -, -, -, -⟩, -⟩ := (H0.out.up (Up.trans HU9.out hW.out)).at_ htm
                have HR := Lib.hid hr
                clear hr
                have z0 := cell_up (cell_of HQ9.out (j := 0) rfl) hW.out
                have z1 := cell_up (cell_of HQ9.out (j := 1) rfl) hW.out
                simp only at z0 z1
                go_upto_region 19 with (fail)
                by_cases e1 : r.code = x.code
                · have f1 : (r.code == x.code) = true := by simp [e1]
                  by_cases e2 : r.vendor = x.vendor
                  · have f2 : (r.vendor == x.vendor) = true := by simp [e2]
                    clear e1 e2
                    go_big_quiet_o (fail)
                    have HX := Lib.hid (Up.trans (Up.trans HU9.out hW.out) (up_drewN _ nq))
                    generalize wr.drewN nq = wq at HX ⊢
                    go_wp2_with fail
                    go_ret
                    exact ⟨rfl, HX⟩
                  · have f2 : (r.vendor == x.vendor) = false := by simp [e2]
                    have HN2 := Lib.hid (has_take HR.out hN.out (fun e => e2 (congrArg Prod.snd e)))
                    clear e1 e2
                    go_big_quiet_o (fail)
                    have HX := Lib.hid (Up.trans hW.out (up_drewN _ nq))
                    generalize wr.drewN nq = wq at HX ⊢
                    go_wp2_with fail
                    go_roundw
                    case rel => exact ⟨t + 1, by omega, by go_num, HN2, HX⟩
                    case measure => simp [intOf]; omega
                · have f1 : (r.code == x.code) = false := by simp [e1]
                  have HN2 := Lib.hid (has_take HR.out hN.out (fun e => e1 (congrArg Prod.fst e)))
                  clear e1
                  go_big_quiet_o (fail)
                  have HX := Lib.hid (Up.trans hW.out (up_drewN _ nq))
                  generalize wr.drewN nq = wq at HX ⊢
                  go_wp2_with fail
                  go_roundw
                  case rel => exact ⟨t + 1, by omega, by go_num, HN2, HX⟩
                  case measure => simp [intOf]; omega
              · have f0 : decide ((t : Int) < (m : Int)) = false := decide_eq_false (by omega)
                have HFN := Lib.hid (find_has (rs := rs) (n := nmA x.pure) (by have h1 := hN.out; rw [List.take_of_length_le (by rw [HLr.out]; omega)] at h1; exact h1))
                have HUv := Lib.hid (show Up w wr from Up.trans HU9.out hW.out)
                have HGv := Lib.hid (HG9.out.up hW.out)
                have HXv := Lib.hid (HXO.out.up hW.out)
                have HQv := Lib.hid (blk_up HQ9.out hW.out)
                have HGS := Lib.hid (show ∀ t, blk? A6 = some t → t < wr.heap.size from fun t ht => (HGv.out.lt ht).2)
                have HWS := Lib.hid (show w.heap.size ≤ w5.heap.size from HU5.out.size)
                have HPB := Lib.hid (show ∀ t, blk? A6 = some t → t ≠ pm from fun t ht e => by have h1 := (HGv.out.lt ht).1; have h2 := HPS.out; omega)
                have HJ := Lib.hid (judge_perm (m := AvB.pure ⟨x.code, x.vendor, false, x.prot, A8, x.n, c8, x.bs⟩) HC.out hM.out rfl HFN.out)
                have HWsz := Lib.hid hW.out.size
                clear hN hW HG9 HXO HQ9 HU9
                go_upto_region 21 with (fail)
                have HV5s := Lib.hid (show w5.heap.size ≤ wr.heap.size from Nat.le_trans HSZ9.out HWsz.out)
                have HK : ∀ φ ∈ [RowE wr.heap.size, Is (.slice A m c), RowR rs m wr.heap.size, Is (.slice A6 n6 c6), Is (avV ⟨x.code, x.vendor, false, x.prot, A8, x.n, c8, x.bs⟩), RowX ⟨x.code, x.vendor, false, x.prot, A8, x.n, c8, x.bs⟩ wr.heap.size, InLF (out.map AvB.pure ++ [AvB.pure ⟨x.code, x.vendor, false, x.prot, A8, x.n, c8, x.bs⟩]), ResF, ResF, Is (.int .i64 2001), SlF, Is (.int .i64 0), Is (.int .i64 2001), SlF, Is (.int .i64 0)], Keeps φ := by
                  simp [keeps_is, keeps_rowX, keeps_rowE, keeps_rowR, keeps_inLF, keeps_resF, keeps_slF]
                refine staged_lit (by kernel_rfl) (facts [RowE wr.heap.size, Is (.slice A m c), RowR rs m wr.heap.size, Is (.slice A6 n6 c6), Is (avV ⟨x.code, x.vendor, false, x.prot, A8, x.n, c8, x.bs⟩), RowX ⟨x.code, x.vendor, false, x.prot, A8, x.n, c8, x.bs⟩ wr.heap.size, InLF (out.map AvB.pure ++ [AvB.pure ⟨x.code, x.vendor, false, x.prot, A8, x.n, c8, x.bs⟩]), ResF, ResF, Is (.int .i64 2001), SlF, Is (.int .i64 0), Is (.int .i64 2001), SlF, Is (.int .i64 0)]) (Stg [6] (fun k y => Out (fun q => blk? A6 = some q) wr y ∧ (k = 0 → Up wr y) ∧ Up w y)) 135 rfl (by decide +kernel) (by decide +kernel) (Stg.start ⟨Up.out (Up.drew wr) _, fun _ => Up.drew wr, Up.trans HUv.out (Up.drew wr)⟩) ?_ ?_
                · refine ⟨?_, ?_, ?_, ?_, ?_, ?_, ?_, ?_, ?_, ?_, ?_, ?_, ?_, ?_, ?_, trivial⟩
                  · refine opS_grow rfl rfl (fun k wx wy h hu => ⟨Out.trans h.1 (Up.out hu _) (Sub.refl _ _), fun e => Up.trans (h.2.1 e) hu, Up.trans h.2.2 hu⟩) (facts_keep HK) fun L ac wx hJ hl hc ho hd => ?_
                    obtain ⟨_, _, hWO, hWk, hWU⟩ := hJ
                    exact fine_run _ _ (x_bslice 28 0 _ rfl (v := .slice (some ⟨wx.heap.size, 0, none⟩) 0 0) (w' := wx.alloc (.cells #[] 40)) (by simpa using bslice0 wx)) (up_alloc _ _) ⟨wx.heap.size, rfl, World.ownsRow_made wx _ _ hWO.size (by unfold maxLen; omega) (by simp)⟩
                  · refine opS_same rfl rfl fun Lx ac w1 hJ hl hc ho hd => ?_
                    have s0 : ac.eval (.tmp 0) = .slice A m c := ho 0 rfl
                    exact ⟨_, x_move (.tmp 0) rfl s0, rfl⟩
                  · refine opS_grow rfl rfl (fun k wx wy h hu => ⟨Out.trans h.1 (Up.out hu _) (Sub.refl _ _), fun e => Up.trans (h.2.1 e) hu, Up.trans h.2.2 hu⟩) (facts_keep HK) fun L ac wx hJ hl hc ho hd => ?_
                    have d0 := hd 0 _ _ rfl rfl rfl
                    have d1 : ac.eval (.tmp 114) = .slice A m c := hd 1 _ _ rfl rfl rfl
                    obtain ⟨_, _, hWO, hWk, hWU⟩ := hJ
                    obtain ⟨q0, hv0, hown⟩ := d0
                    have dd : ac.eval (.tmp 113) = .slice (some ⟨q0, 0, none⟩) 0 0 := hv0
                    obtain ⟨A9, c9, w9', hrun, hup, hown2⟩ := append_new (ty := 28) Tryd.underlying28 info40 rfl (by decide) hown A m c (rowr rs) (by rw [rowr_length, HLr.out]) (H0.out.up hWU).cells (by omega) (by omega) hWO.size
                    exact fine_run _ _ (x_append (.tmp 113) (.tmp 114) 28 28 rfl dd d1 hrun) hup ⟨A9, c9, rfl, hown2⟩
                  · refine opS_same rfl rfl fun Lx ac w1 hJ hl hc ho hd => ?_
                    have s12 : ac.eval (.tmp 12) = .slice A6 n6 c6 := ho 12 rfl
                    exact ⟨_, x_move (.tmp 12) rfl s12, rfl⟩
                  · refine opS_same rfl rfl fun Lx ac w1 hJ hl hc ho hd => ?_
                    have s7 : ac.eval (.tmp 7) = .pointer (some ⟨pm, 0, none⟩) := ho 7 rfl
                    obtain ⟨_, _, hWO, hWk, hWU⟩ := hJ
                    exact ⟨_, x_load 38 (.tmp 7) rfl s7 (load38 (hWO.blk HQv.out (fun e => HPB.out _ e rfl))), rfl⟩
                  · refine opS_grow rfl rfl (fun k wx wy h hu => ⟨Out.trans h.1 (Up.out hu _) (Sub.refl _ _), fun e => Up.trans (h.2.1 e) hu, Up.trans h.2.2 hu⟩) (facts_keep HK) fun L ac wx hJ hl hc ho hd => ?_
                    have d4 : ac.eval (.tmp 117) = avV ⟨x.code, x.vendor, false, x.prot, A8, x.n, c8, x.bs⟩ := hd 4 _ _ rfl rfl rfl
                    obtain ⟨_, _, hWO, hWk, hWU⟩ := hJ
                    exact fine_run _ _ (x_bslice 29 1 _ rfl (by simp only [List.map_toArray, List.map_cons, List.map_nil, d4]; exact bslice1 _ _ _ _ _ _ _ _)) (up_alloc _ _) ⟨wx.heap.size, rfl, hWO.size, new_at _ _⟩
                  · refine opS_writeV (j := 0) rfl (by decide) rfl (fun y hy h0 => absurd h0 (by decide)) fun ac w1 hW ho hd => ?_
                    have d3 : ac.eval (.tmp 116) = .slice A6 n6 c6 := hd 3 _ _ rfl rfl rfl
                    have d5 := hd 5 _ _ rfl rfl rfl
                    obtain ⟨hWO, hWk, hWU⟩ := hW
                    obtain ⟨q5, hv5, hq5, hw5⟩ := d5
                    have dd5 : ac.eval (.tmp 118) = .slice (some ⟨q5, 0, none⟩) 1 1 := hv5
                    have hG1 := HGv.out.up (hWk rfl)
                    obtain ⟨A9, c9, w9', hrun, ho9, hrow9, hb9⟩ := append_G (ty := 29) Tryd.underlying29 info38 rfl (by decide) hG1.row (some ⟨q5, 0, none⟩) 1 1 (rowa [⟨x.code, x.vendor, false, x.prot, A8, x.n, c8, x.bs⟩]) (by simp [rowa, avc, avcL]) (fun _ => ⟨q5, 0, rfl, lt_of_blk hw5, fun j u hu => cell_of hw5 (by rw [Nat.zero_add]; simpa [rowa] using hu)⟩) (rowa_one _) (by omega) (by omega) (by have h1 := HV5s.out; have h2 := hWO.size; omega)
                    refine ⟨_, w9', x_append (.tmp 116) (.tmp 118) 29 29 rfl d3 dd5 hrun, ⟨Out.trans hWO ho9 (Sub.refl _ _), fun e => absurd e (by decide), Below.out hWU ho9 (fun t ht => by have h1 := (hG1.lt ht).1; have h2 := HWS.out; omega) hWU.size⟩, ⟨A9, n6 + 1, c9, out ++ [⟨x.code, x.vendor, false, x.prot, A8, x.n, c8, x.bs⟩], rfl, ⟨by rw [rowa_append]; exact row_cells hrow9, fun p hp => ?_, row_cap hrow9, by simp [hG1.len]⟩, by simp, by omega⟩, fun jj y hjj hf => ?_⟩
                    · rcases List.mem_append.1 hp with hp | hp
                      · exact ((hG1.av p hp).1.out ho9 (fun t ht e => (hG1.av p hp).2 t ht e)).avIn
                      · rw [List.mem_singleton.1 hp]
                        exact (((HXv.out.up (hWk rfl)).out ho9 (fun t ht e => by have h1 := (row_lt (HXv.out.up (hWk rfl)).own ht).1; have h2 := HGL.out t e; omega))).avIn
                    · match jj, hjj, hf with
                      | 0, _, ⟨q, h1, h2⟩ => exact ⟨q, h1, ho9.own h2 (fun t ht e => by have h3 := (row_lt h2 (by rwa [ownBlock_slice] at ht)).1; have h4 := HGS.out t e; omega)⟩
                      | 1, _, hf => exact hf
                      | 2, _, ⟨A2, c2, h1, h2⟩ => exact ⟨A2, c2, h1, ho9.own h2 (fun t ht e => by have h3 := (row_lt h2 (by rwa [ownBlock_slice] at ht)).1; have h4 := HGS.out t e; omega)⟩
                      | 3, _, hf => exact hf
                      | 4, _, hf => exact hf
                      | 5, _, ⟨q, h1, h2, h3⟩ => exact ⟨q, h1, h2, ho9.blk h3 (fun e => by have h4 := HGS.out q e; omega)⟩
                      | 6, hjj, _ => exact absurd rfl hjj
                      | 7, _, hf => exact hf
                      | 8, _, hf => exact hf
                      | 9, _, hf => exact hf
                      | 10, _, hf => exact hf
                      | 11, _, hf => exact hf
                      | 12, _, hf => exact hf
                      | 13, _, hf => exact hf
                      | 14, _, hf => exact hf
                      | jj + 15, _, _ => trivial
                  · refine opS_callUp rfl rfl (fun k wx wy h hu => ⟨Out.trans h.1 (Up.out hu _) (Sub.refl _ _), fun e => Up.trans (h.2.1 e) hu, Up.trans h.2.2 hu⟩) (facts_keep HK) fun L ac wx hJ hl hc ho hd => ?_
                    have d2 := hd 2 _ _ rfl rfl rfl
                    have d6 := hd 6 _ _ rfl rfl rfl
                    obtain ⟨_, _, hWO, hWk, hWU⟩ := hJ
                    obtain ⟨A2, c2, hv2, hown⟩ := d2
                    obtain ⟨A9, n9, c9, L9, hv6, hL9, hm9, hn9⟩ := d6
                    have dd2 : ac.eval (.tmp 115) = .slice A2 m c2 := hv2
                    have dd6 : ac.eval (.tmp 119) = .slice A9 n9 c9 := hv6
                    refine ⟨16, _, x_fcall 16 [.tmp 115, .tmp 119] _ rfl (by kernel_rfl), ?_⟩
                    simp only [List.map_cons, List.map_nil, dd2, dd6]
                    have hj := judge_any A2 m c2 rs A9 n9 c9 L9 wx (own_inR hown HLr.out HOr.out) hL9 (HT.out.up hWU) u0 (by omega)
                    rw [hm9, HJ.out] at hj
                    refine Calls.mono hj ?_
                    rintro e1 w2 ⟨At, nt, ct, outt, rfl, hGt, hMt, -, hUt⟩
                    obtain rfl : nt = 0 := map_len hMt.out hGt.out.len
                    exact ⟨_, rfl, hUt.out, At, ct, rfl⟩
                  · refine opS_same rfl rfl fun Lx ac w1 hJ hl hc ho hd => ?_
                    have d7 := hd 7 _ _ rfl rfl rfl
                    obtain ⟨At, ct, hv⟩ := d7
                    have dd : ac.eval (.tmp 120) = .tuple #[.int .i64 2001, .slice At 0 ct, .int .i64 0] := hv
                    exact ⟨_, x_move (.tmp 120) rfl dd, At, ct, rfl⟩
                  · refine opS_same rfl rfl fun Lx ac w1 hJ hl hc ho hd => ?_
                    have d8 := hd 8 _ _ rfl rfl rfl
                    obtain ⟨At, ct, hv⟩ := d8
                    have dd : ac.eval (.tmp 112) = .tuple #[.int .i64 2001, .slice At 0 ct, .int .i64 0] := hv
                    exact ⟨_, x_extract (.tmp 112) 0 rfl dd rfl, rfl⟩
                  · refine opS_same rfl rfl fun Lx ac w1 hJ hl hc ho hd => ?_
                    have d8 := hd 8 _ _ rfl rfl rfl
                    obtain ⟨At, ct, hv⟩ := d8
                    have dd : ac.eval (.tmp 112) = .tuple #[.int .i64 2001, .slice At 0 ct, .int .i64 0] := hv
                    exact ⟨_, x_extract (.tmp 112) 1 rfl dd rfl, At, ct, rfl⟩
                  · refine opS_same rfl rfl fun Lx ac w1 hJ hl hc ho hd => ?_
                    have d8 := hd 8 _ _ rfl rfl rfl
                    obtain ⟨At, ct, hv⟩ := d8
                    have dd : ac.eval (.tmp 112) = .tuple #[.int .i64 2001, .slice At 0 ct, .int .i64 0] := hv
                    exact ⟨_, x_extract (.tmp 112) 2 rfl dd rfl, rfl⟩
                  · refine opS_same rfl rfl fun Lx ac w1 hJ hl hc ho hd => ?_
                    have d9 : ac.eval (.tmp 121) = .int .i64 2001 := hd 9 _ _ rfl rfl rfl
                    exact ⟨_, x_assign (.tmp 121) rfl d9, rfl⟩
                  · refine opS_same rfl rfl fun Lx ac w1 hJ hl hc ho hd => ?_
                    have d10 := hd 10 _ _ rfl rfl rfl
                    obtain ⟨At, ct, hv⟩ := d10
                    have dd : ac.eval (.tmp 122) = .slice At 0 ct := hv
                    exact ⟨_, x_assign (.tmp 122) rfl dd, At, ct, rfl⟩
                  · refine opS_same rfl rfl fun Lx ac w1 hJ hl hc ho hd => ?_
                    have d11 : ac.eval (.tmp 123) = .int .i64 0 := hd 11 _ _ rfl rfl rfl
                    exact ⟨_, x_assign (.tmp 123) rfl d11, rfl⟩
                · intro L1 a1 wz hI hall
                  obtain ⟨_, _, _, _, hUF⟩ := hI.done hall (by simp)
                  have HUz := Lib.hid (show Up w wz from hUF)
                  obtain ⟨At, ct, l18⟩ := hI.facts 13 _ 18 rfl (hall 13 (by decide)) rfl
                  clear hUF
                  have l17 : a1.tmps.getD 17 undef = .int .i64 2001 := hI.get hall (i := 12) rfl rfl
                  have l19 : a1.tmps.getD 19 undef = .int .i64 0 := hI.get hall (i := 14) rfl rfl
                  have hde : a1.defers = [] := hI.defers
                  have hal := act_lit a1 135 hI.size
                  clear hI
                  simp only [List.range, List.range.loop, List.map_cons, List.map_nil] at hal
                  rw [l17, l18, l19, hde] at hal
                  generalize a1.tmps.getD 0 undef = t0 at hal
                  generalize a1.tmps.getD 1 undef = t1 at hal
                  generalize a1.tmps.getD 2 undef = t2 at hal
                  generalize a1.tmps.getD 3 undef = t3 at hal
                  generalize a1.tmps.getD 4 undef = t4 at hal
                  generalize a1.tmps.getD 5 undef = t5 at hal
                  generalize a1.tmps.getD 6 undef = t6 at hal
                  generalize a1.tmps.getD 7 undef = t7 at hal
                  generalize a1.tmps.getD 8 undef = t8 at hal
                  generalize a1.tmps.getD 9 undef = t9 at hal
                  generalize a1.tmps.getD 10 undef = t10 at hal
                  generalize a1.tmps.getD 11 undef = t11 at hal
                  generalize a1.tmps.getD 12 undef = t12 at hal
                  generalize a1.tmps.getD 13 undef = t13 at hal
                  generalize a1.tmps.getD 14 undef = t14 at hal
                  generalize a1.tmps.getD 15 undef = t15 at hal
                  generalize a1.tmps.getD 16 undef = t16 at hal
                  generalize a1.tmps.getD 20 undef = t20 at hal
                  generalize a1.tmps.getD 21 undef = t21 at hal
                  generalize a1.tmps.getD 22 undef = t22 at hal
                  generalize a1.tmps.getD 23 undef = t23 at hal
                  generalize a1.tmps.getD 24 undef = t24 at hal
                  generalize a1.tmps.getD 25 undef = t25 at hal
                  generalize a1.tmps.getD 26 undef = t26 at hal
                  generalize a1.tmps.getD 27 undef = t27 at hal
                  generalize a1.tmps.getD 28 undef = t28 at hal
                  generalize a1.tmps.getD 29 undef = t29 at hal
                  generalize a1.tmps.getD 30 undef = t30 at hal
                  generalize a1.tmps.getD 31 undef = t31 at hal
                  generalize a1.tmps.getD 32 undef = t32 at hal
                  generalize a1.tmps.getD 33 undef = t33 at hal
                  generalize a1.tmps.getD 34 undef = t34 at hal
                  generalize a1.tmps.getD 35 undef = t35 at hal
                  generalize a1.tmps.getD 36 undef = t36 at hal
                  generalize a1.tmps.getD 37 undef = t37 at hal
                  generalize a1.tmps.getD 38 undef = t38 at hal
                  generalize a1.tmps.getD 39 undef = t39 at hal
                  generalize a1.tmps.getD 40 undef = t40 at hal
                  generalize a1.tmps.getD 41 undef = t41 at hal
                  generalize a1.tmps.getD 42 undef = t42 at hal
                  generalize a1.tmps.getD 43 undef = t43 at hal
                  generalize a1.tmps.getD 44 undef = t44 at hal
                  generalize a1.tmps.getD 45 undef = t45 at hal
                  generalize a1.tmps.getD 46 undef = t46 at hal
                  generalize a1.tmps.getD 47 undef = t47 at hal
                  generalize a1.tmps.getD 48 undef = t48 at hal
                  generalize a1.tmps.getD 49 undef = t49 at hal
                  generalize a1.tmps.getD 50 undef = t50 at hal
                  generalize a1.tmps.getD 51 undef = t51 at hal
                  generalize a1.tmps.getD 52 undef = t52 at hal
                  generalize a1.tmps.getD 53 undef = t53 at hal
                  generalize a1.tmps.getD 54 undef = t54 at hal
                  generalize a1.tmps.getD 55 undef = t55 at hal
                  generalize a1.tmps.getD 56 undef = t56 at hal
                  generalize a1.tmps.getD 57 undef = t57 at hal
                  generalize a1.tmps.getD 58 undef = t58 at hal
                  generalize a1.tmps.getD 59 undef = t59 at hal
                  generalize a1.tmps.getD 60 undef = t60 at hal
                  generalize a1.tmps.getD 61 undef = t61 at hal
                  generalize a1.tmps.getD 62 undef = t62 at hal
                  generalize a1.tmps.getD 63 undef = t63 at hal
                  generalize a1.tmps.getD 64 undef = t64 at hal
                  generalize a1.tmps.getD 65 undef = t65 at hal
                  generalize a1.tmps.getD 66 undef = t66 at hal
                  generalize a1.tmps.getD 67 undef = t67 at hal
                  generalize a1.tmps.getD 68 undef = t68 at hal
                  generalize a1.tmps.getD 69 undef = t69 at hal
                  generalize a1.tmps.getD 70 undef = t70 at hal
                  generalize a1.tmps.getD 71 undef = t71 at hal
                  generalize a1.tmps.getD 72 undef = t72 at hal
                  generalize a1.tmps.getD 73 undef = t73 at hal
                  generalize a1.tmps.getD 74 undef = t74 at hal
                  generalize a1.tmps.getD 75 undef = t75 at hal
                  generalize a1.tmps.getD 76 undef = t76 at hal
                  generalize a1.tmps.getD 77 undef = t77 at hal
                  generalize a1.tmps.getD 78 undef = t78 at hal
                  generalize a1.tmps.getD 79 undef = t79 at hal
                  generalize a1.tmps.getD 80 undef = t80 at hal
                  generalize a1.tmps.getD 81 undef = t81 at hal
                  generalize a1.tmps.getD 82 undef = t82 at hal
                  generalize a1.tmps.getD 83 undef = t83 at hal
                  generalize a1.tmps.getD 84 undef = t84 at hal
                  generalize a1.tmps.getD 85 undef = t85 at hal
                  generalize a1.tmps.getD 86 undef = t86 at hal
                  generalize a1.tmps.getD 87 undef = t87 at hal
                  generalize a1.tmps.getD 88 undef = t88 at hal
                  generalize a1.tmps.getD 89 undef = t89 at hal
                  generalize a1.tmps.getD 90 undef = t90 at hal
                  generalize a1.tmps.getD 91 undef = t91 at hal
                  generalize a1.tmps.getD 92 undef = t92 at hal
                  generalize a1.tmps.getD 93 undef = t93 at hal
                  generalize a1.tmps.getD 94 undef = t94 at hal
                  generalize a1.tmps.getD 95 undef = t95 at hal
                  generalize a1.tmps.getD 96 undef = t96 at hal
                  generalize a1.tmps.getD 97 undef = t97 at hal
                  generalize a1.tmps.getD 98 undef = t98 at hal
                  generalize a1.tmps.getD 99 undef = t99 at hal
                  generalize a1.tmps.getD 100 undef = t100 at hal
                  generalize a1.tmps.getD 101 undef = t101 at hal
                  generalize a1.tmps.getD 102 undef = t102 at hal
                  generalize a1.tmps.getD 103 undef = t103 at hal
                  generalize a1.tmps.getD 104 undef = t104 at hal
                  generalize a1.tmps.getD 105 undef = t105 at hal
                  generalize a1.tmps.getD 106 undef = t106 at hal
                  generalize a1.tmps.getD 107 undef = t107 at hal
                  generalize a1.tmps.getD 108 undef = t108 at hal
                  generalize a1.tmps.getD 109 undef = t109 at hal
                  generalize a1.tmps.getD 110 undef = t110 at hal
                  generalize a1.tmps.getD 111 undef = t111 at hal
                  generalize a1.tmps.getD 112 undef = t112 at hal
                  generalize a1.tmps.getD 113 undef = t113 at hal
                  generalize a1.tmps.getD 114 undef = t114 at hal
                  generalize a1.tmps.getD 115 undef = t115 at hal
                  generalize a1.tmps.getD 116 undef = t116 at hal
                  generalize a1.tmps.getD 117 undef = t117 at hal
                  generalize a1.tmps.getD 118 undef = t118 at hal
                  generalize a1.tmps.getD 119 undef = t119 at hal
                  generalize a1.tmps.getD 120 undef = t120 at hal
                  generalize a1.tmps.getD 121 undef = t121 at hal
                  generalize a1.tmps.getD 122 undef = t122 at hal
                  generalize a1.tmps.getD 123 undef = t123 at hal
                  generalize a1.tmps.getD 124 undef = t124 at hal
                  generalize a1.tmps.getD 125 undef = t125 at hal
                  generalize a1.tmps.getD 126 undef = t126 at hal
                  generalize a1.tmps.getD 127 undef = t127 at hal
                  generalize a1.tmps.getD 128 undef = t128 at hal
                  generalize a1.tmps.getD 129 undef = t129 at hal
                  generalize a1.tmps.getD 130 undef = t130 at hal
                  generalize a1.tmps.getD 131 undef = t131 at hal
                  generalize a1.tmps.getD 132 undef = t132 at hal
                  generalize a1.tmps.getD 133 undef = t133 at hal
                  generalize a1.tmps.getD 134 undef = t134 at hal
                  clear l17 l18 l19 hde
                  subst hal
                  go_wp2_with fail
                  go_ret
                  exact ⟨rfl, HUz⟩
          · have d1 : decide ((j : Int) < (k : Int)) = false := decide_eq_false (by omega)
            go_upto_region 14 with (fail)
            have HUr := Lib.hid (show Up w wr from Up.trans HU5.out hV.out)
            have hxn := H3.out.n
            have HXL := Lib.hid H3.out.inb.len
            have z2 : wr.cell? ⟨pm, 2, none⟩ = some (.bool x.must) := cell_of hP.out rfl
            have y2 := frozen_at (j := 2) hP.out
            have hst2 := setCell_out wr pm 2 (.bool false)
            have HQ7 := Lib.hid (show (wr.setCell ⟨pm, 2, none⟩ (.bool false)).heap[pm]? = some (avO ⟨x.code, x.vendor, false, x.prot, x.A, x.n, x.c, x.bs⟩) from (setCell_at (j := 2) (.bool false) hP.out).trans rfl)
            have HU7 := Lib.hid (show Up w (wr.setCell ⟨pm, 2, none⟩ (.bool false)) from Below.out HUr.out hst2 (fun t ht => by have e2 : t = pm := ht; rw [e2]; exact HPW.out) HUr.out.size)
            have HSZ7 := Lib.hid (show w5.heap.size ≤ (wr.setCell ⟨pm, 2, none⟩ (.bool false)).heap.size from Nat.le_trans hV.out.size hst2.size)
            have HG7 := Lib.hid (hG.out.outP hst2 (fun t ht => by have e2 : t = pm := ht; rw [e2]; exact HPS.out))
            go_upto_region 15 with (fail)
            clear z2 y2 hst2
            generalize wr.setCell ⟨pm, 2, none⟩ (.bool false) = w7 at HQ7 HU7 HG7 HSZ7 ⊢
            clear HUr
            have HI7 := Lib.hid (H3.out.inb.up HU7.out)
            have z4a := cell_up (show w7.cell? ⟨pm, 4, none⟩ = some (.slice x.A x.n x.c) from cell_of HQ7.out (j := 4) rfl) (up_alloc w7 (.cells #[] 5))
            have HPL := Lib.hid (lt_of_blk HQ7.out)
            go_upto_region 16 with (at_builtin; refine wpList_appendI rfl (.tmp 83) (.tmp 85) 22 rfl .u8 w7.heap.size 5 1 Tryd.underlying22 info5 (some ⟨w7.heap.size, 0, none⟩) 0 0 [] rfl (ownI_new _ _ _) x.A x.n x.c x.bs rfl HI7.out.len (HI7.out.cells.alloc _) (by omega) (by omega) (by simp) ((Below.refl _ _).alloc (Nat.le_refl _) _) ?_; intro A8 N8 c8 w8 HN8 HW8 HB8 hsz8; have hc8 := (HB8.out.block _ HPL.out).trans HQ7.out; have z4 := cell_of hc8 (j := 4) rfl; have y4 := frozen_at (j := 4) hc8)
            have hN8 : N8 = x.n := by have := HN8.out; omega
            subst hN8
            have hst4 := setCell_out w8 pm 4 (.slice A8 x.n c8)
            have HQ9 := Lib.hid (show (w8.setCell ⟨pm, 4, none⟩ (.slice A8 x.n c8)).heap[pm]? = some (avO ⟨x.code, x.vendor, false, x.prot, A8, x.n, c8, x.bs⟩) from (setCell_at (j := 4) (.slice A8 x.n c8) hc8).trans rfl)
            have HO9 := Lib.hid (show OwnI .u8 5 w7.heap.size (w8.setCell ⟨pm, 4, none⟩ (.slice A8 x.n c8)) A8 x.n c8 x.bs from hst4.own (show OwnI .u8 5 w7.heap.size w8 A8 x.n c8 x.bs from by have h1 := HW8.out; rw [List.nil_append] at h1; exact h1) (fun t ht e => by have h1 := (row_lt (show OwnI .u8 5 w7.heap.size w8 A8 x.n c8 x.bs from by have h1 := HW8.out; rw [List.nil_append] at h1; exact h1) (by rwa [ownBlock_slice] at ht)).1; have h2 := HPL.out; have e2 : t = pm := e; omega))
            have HU9 := Lib.hid (show Up w (w8.setCell ⟨pm, 4, none⟩ (.slice A8 x.n c8)) from Below.out (Up.trans HU7.out HB8.out) hst4 (fun t ht => by have e2 : t = pm := ht; rw [e2]; exact HPW.out) (Up.trans HU7.out HB8.out).size)
            have HG9 := Lib.hid ((HG7.out.up HB8.out).outP hst4 (fun t ht => by have e2 : t = pm := ht; rw [e2]; exact HPS.out))
            have HSZ9 := Lib.hid (show w5.heap.size ≤ (w8.setCell ⟨pm, 4, none⟩ (.slice A8 x.n c8)).heap.size from Nat.le_trans HSZ7.out (Nat.le_trans HB8.out.size hst4.size))
            have HGL := Lib.hid (show ∀ t, blk? A6 = some t → t < w7.heap.size from fun t ht => (HG7.out.lt ht).2)
            clear z4a z4 y4 hc8 hst4 HW8 HB8 hsz8 HN8 HI7 HG7 HU7 HQ7
            generalize w8.setCell ⟨pm, 4, none⟩ (.slice A8 x.n c8) = w9 at HQ9 HO9 HU9 HG9 HSZ9 ⊢
            have HXO := Lib.hid (show OwnA w7.heap.size w9 ⟨x.code, x.vendor, false, x.prot, A8, x.n, c8, x.bs⟩ from ⟨HO9.out, ⟨H3.out.ok.code, H3.out.ok.vendor, H3.out.ok.byt⟩, hxn⟩)
            clear HO9
            go_wp2_with fail
            go_loopw [16] (fun i wr => ∃ t : Nat, t ≤ m ∧ i = .int .i64 (t : Int) ∧ Hid (has (rs.take t) (nmA x.pure) = false) ∧ Hid (Up w9 wr)) (fun i _ => m - (intOf i).toNat)
            case atStart => exact ⟨0, Nat.zero_le _, rfl, Lib.hid (by simp [has]), Lib.hid (Up.refl _)⟩
            case round =>
              obtain ⟨t, ht, rfl, hN, hW⟩ := hrel
              by_cases htm : t < m
              · have f0 : decide ((t : Int) < (m : Int)) = true := decide_eq_true (by omega)
                have htz : (t : Int) < (m : Int) := by omega
                obtain ⟨r, g', o', hr, rfl, ⟨k0, k1, -, -, -, -⟩, -⟩ := (H0.out.up (Up.trans HU9.out hW.out)).at_ htm
                have HR := Lib.hid hr
                clear hr
                have z0 := cell_up (cell_of HQ9.out (j := 0) rfl) hW.out
                have z1 := cell_up (cell_of HQ9.out (j := 1) rfl) hW.out
                simp only at z0 z1
                go_upto_region 19 with (fail)
                by_cases e1 : r.code = x.code
                · have f1 : (r.code == x.code) = true := by simp [e1]
                  by_cases e2 : r.vendor = x.vendor
                  · have f2 : (r.vendor == x.vendor) = true := by simp [e2]
                    clear e1 e2
                    go_big_quiet_o (fail)
                    have HX := Lib.hid (Up.trans (Up.trans HU9.out hW.out) (up_drewN _ nq))
                    generalize wr.drewN nq = wq at HX ⊢
                    go_wp2_with fail
                    go_ret
                    exact ⟨rfl, HX⟩
                  · have f2 : (r.vendor == x.vendor) = false := by simp [e2]
                    have HN2 := Lib.hid (has_take HR.out hN.out (fun e => e2 (congrArg Prod.snd e)))
                    clear e1 e2
                    go_big_quiet_o (fail)
                    have HX := Lib.hid (Up.trans hW.out (up_drewN _ nq))
                    generalize wr.drewN nq = wq at HX ⊢
                    go_wp2_with fail
                    go_roundw
                    case rel => exact ⟨t + 1, by omega, by go_num, HN2, HX⟩
                    case measure => simp [intOf]; omega
                · have f1 : (r.code == x.code) = false := by simp [e1]
                  have HN2 := Lib.hid (has_take HR.out hN.out (fun e => e1 (congrArg Prod.fst e)))
                  clear e1
                  go_big_quiet_o (fail)
                  have HX := Lib.hid (Up.trans hW.out (up_drewN _ nq))
                  generalize wr.drewN nq = wq at HX ⊢
                  go_wp2_with fail
                  go_roundw
                  case rel => exact ⟨t + 1, by omega, by go_num, HN2, HX⟩
                  case measure => simp [intOf]; omega
              · have f0 : decide ((t : Int) < (m : Int)) = false := decide_eq_false (by omega)
                have HFN := Lib.hid (find_has (rs := rs) (n := nmA x.pure) (by have h1 := hN.out; rw [List.take_of_length_le (by rw [HLr.out]; omega)] at h1; exact h1))
                have HUv := Lib.hid (show Up w wr from Up.trans HU9.out hW.out)
                have HGv := Lib.hid (HG9.out.up hW.out)
                have HXv := Lib.hid (HXO.out.up hW.out)
                have HQv := Lib.hid (blk_up HQ9.out hW.out)
                have HGS := Lib.hid (show ∀ t, blk? A6 = some t → t < wr.heap.size from fun t ht => (HGv.out.lt ht).2)
                have HWS := Lib.hid (show w.heap.size ≤ w5.heap.size from HU5.out.size)
                have HPB := Lib.hid (show ∀ t, blk? A6 = some t → t ≠ pm from fun t ht e => by have h1 := (HGv.out.lt ht).1; have h2 := HPS.out; omega)
                have HJ := Lib.hid (judge_perm (m := AvB.pure ⟨x.code, x.vendor, false, x.prot, A8, x.n, c8, x.bs⟩) HC.out hM.out rfl HFN.out)
                have HWsz := Lib.hid hW.out.size
                clear hN hW HG9 HXO HQ9 HU9
                go_upto_region 21 with (fail)
                have HV5s := Lib.hid (show w5.heap.size ≤ wr.heap.size from Nat.le_trans HSZ9.out HWsz.out)
                have HK : ∀ φ ∈ [RowE wr.heap.size, Is (.slice A m c), RowR rs m wr.heap.size, Is (.slice A6 n6 c6), Is (avV ⟨x.code, x.vendor, false, x.prot, A8, x.n, c8, x.bs⟩), RowX ⟨x.code, x.vendor, false, x.prot, A8, x.n, c8, x.bs⟩ wr.heap.size, InLF (out.map AvB.pure ++ [AvB.pure ⟨x.code, x.vendor, false, x.prot, A8, x.n, c8, x.bs⟩]), ResF, ResF, Is (.int .i64 2001), SlF, Is (.int .i64 0), Is (.int .i64 2001), SlF, Is (.int .i64 0)], Keeps φ := by
                  simp [keeps_is, keeps_rowX, keeps_rowE, keeps_rowR, keeps_inLF, keeps_resF, keeps_slF]
                refine staged_lit (by kernel_rfl) (facts [RowE wr.heap.size, Is (.slice A m c), RowR rs m wr.heap.size, Is (.slice A6 n6 c6), Is (avV ⟨x.code, x.vendor, false, x.prot, A8, x.n, c8, x.bs⟩), RowX ⟨x.code, x.vendor, false, x.prot, A8, x.n, c8, x.bs⟩ wr.heap.size, InLF (out.map AvB.pure ++ [AvB.pure ⟨x.code, x.vendor, false, x.prot, A8, x.n, c8, x.bs⟩]), ResF, ResF, Is (.int .i64 2001), SlF, Is (.int .i64 0), Is (.int .i64 2001), SlF, Is (.int .i64 0)]) (Stg [6] (fun k y => Out (fun q => blk? A6 = some q) wr y ∧ (k = 0 → Up wr y) ∧ Up w y)) 135 rfl (by decide +kernel) (by decide +kernel) (Stg.start ⟨Up.out (Up.drew wr) _, fun _ => Up.drew wr, Up.trans HUv.out (Up.drew wr)⟩) ?_ ?_
                · refine ⟨?_, ?_, ?_, ?_, ?_, ?_, ?_, ?_, ?_, ?_, ?_, ?_, ?_, ?_, ?_, trivial⟩
                  · refine opS_grow rfl rfl (fun k wx wy h hu => ⟨Out.trans h.1 (Up.out hu _) (Sub.refl _ _), fun e => Up.trans (h.2.1 e) hu, Up.trans h.2.2 hu⟩) (facts_keep HK) fun L ac wx hJ hl hc ho hd => ?_
                    obtain ⟨_, _, hWO, hWk, hWU⟩ := hJ
                    exact fine_run _ _ (x_bslice 28 0 _ rfl (v := .slice (some ⟨wx.heap.size, 0, none⟩) 0 0) (w' := wx.alloc (.cells #[] 40)) (by simpa using bslice0 wx)) (up_alloc _ _) ⟨wx.heap.size, rfl, World.ownsRow_made wx _ _ hWO.size (by unfold maxLen; omega) (by simp)⟩
                  · refine opS_same rfl rfl fun Lx ac w1 hJ hl hc ho hd => ?_
                    have s0 : ac.eval (.tmp 0) = .slice A m c := ho 0 rfl
                    exact ⟨_, x_move (.tmp 0) rfl s0, rfl⟩
                  · refine opS_grow rfl rfl (fun k wx wy h hu => ⟨Out.trans h.1 (Up.out hu _) (Sub.refl _ _), fun e => Up.trans (h.2.1 e) hu, Up.trans h.2.2 hu⟩) (facts_keep HK) fun L ac wx hJ hl hc ho hd => ?_
                    have d0 := hd 0 _ _ rfl rfl rfl
                    have d1 : ac.eval (.tmp 114) = .slice A m c := hd 1 _ _ rfl rfl rfl
                    obtain ⟨_, _, hWO, hWk, hWU⟩ := hJ
                    obtain ⟨q0, hv0, hown⟩ := d0
                    have dd : ac.eval (.tmp 113) = .slice (some ⟨q0, 0, none⟩) 0 0 := hv0
                    obtain ⟨A9, c9, w9', hrun, hup, hown2⟩ := append_new (ty := 28) Tryd.underlying28 info40 rfl (by decide) hown A m c (rowr rs) (by rw [rowr_length, HLr.out]) (H0.out.up hWU).cells (by omega) (by omega) hWO.size
                    exact fine_run _ _ (x_append (.tmp 113) (.tmp 114) 28 28 rfl dd d1 hrun) hup ⟨A9, c9, rfl, hown2⟩
                  · refine opS_same rfl rfl fun Lx ac w1 hJ hl hc ho hd => ?_
                    have s12 : ac.eval (.tmp 12) = .slice A6 n6 c6 := ho 12 rfl
                    exact ⟨_, x_move (.tmp 12) rfl s12, rfl⟩
                  · refine opS_same rfl rfl fun Lx ac w1 hJ hl hc ho hd => ?_
                    have s7 : ac.eval (.tmp 7) = .pointer (some ⟨pm, 0, none⟩) := ho 7 rfl
                    obtain ⟨_, _, hWO, hWk, hWU⟩ := hJ
                    exact ⟨_, x_load 38 (.tmp 7) rfl s7 (load38 (hWO.blk HQv.out (fun e => HPB.out _ e rfl))), rfl⟩
                  · refine opS_grow rfl rfl (fun k wx wy h hu => ⟨Out.trans h.1 (Up.out hu _) (Sub.refl _ _), fun e => Up.trans (h.2.1 e) hu, Up.trans h.2.2 hu⟩) (facts_keep HK) fun L ac wx hJ hl hc ho hd => ?_
                    have d4 : ac.eval (.tmp 117) = avV ⟨x.code, x.vendor, false, x.prot, A8, x.n, c8, x.bs⟩ := hd 4 _ _ rfl rfl rfl
                    obtain ⟨_, _, hWO, hWk, hWU⟩ := hJ
                    exact fine_run _ _ (x_bslice 29 1 _ rfl (by simp only [List.map_toArray, List.map_cons, List.map_nil, d4]; exact bslice1 _ _ _ _ _ _ _ _)) (up_alloc _ _) ⟨wx.heap.size, rfl, hWO.size, new_at _ _⟩
                  · refine opS_writeV (j := 0) rfl (by decide) rfl (fun y hy h0 => absurd h0 (by decide)) fun ac w1 hW ho hd => ?_
                    have d3 : ac.eval (.tmp 116) = .slice A6 n6 c6 := hd 3 _ _ rfl rfl rfl
                    have d5 := hd 5 _ _ rfl rfl rfl
                    obtain ⟨hWO, hWk, hWU⟩ := hW
                    obtain ⟨q5, hv5, hq5, hw5⟩ := d5
                    have dd5 : ac.eval (.tmp 118) = .slice (some ⟨q5, 0, none⟩) 1 1 := hv5
                    have hG1 := HGv.out.up (hWk rfl)
                    obtain ⟨A9, c9, w9', hrun, ho9, hrow9, hb9⟩ := append_G (ty := 29) Tryd.underlying29 info38 rfl (by decide) hG1.row (some ⟨q5, 0, none⟩) 1 1 (rowa [⟨x.code, x.vendor, false, x.prot, A8, x.n, c8, x.bs⟩]) (by simp [rowa, avc, avcL]) (fun _ => ⟨q5, 0, rfl, lt_of_blk hw5, fun j u hu => cell_of hw5 (by rw [Nat.zero_add]; simpa [rowa] using hu)⟩) (rowa_one _) (by omega) (by omega) (by have h1 := HV5s.out; have h2 := hWO.size; omega)
                    refine ⟨_, w9', x_append (.tmp 116) (.tmp 118) 29 29 rfl d3 dd5 hrun, ⟨Out.trans hWO ho9 (Sub.refl _ _), fun e => absurd e (by decide), Below.out hWU ho9 (fun t ht => by have h1 := (hG1.lt ht).1; have h2 := HWS.out; omega) hWU.size⟩, ⟨A9, n6 + 1, c9, out ++ [⟨x.code, x.vendor, false, x.prot, A8, x.n, c8, x.bs⟩], rfl, ⟨by rw [rowa_append]; exact row_cells hrow9, fun p hp => ?_, row_cap hrow9, by simp [hG1.len]⟩, by simp, by omega⟩, fun jj y hjj hf => ?_⟩
                    · rcases List.mem_append.1 hp with hp | hp
                      · exact ((hG1.av p hp).1.out ho9 (fun t ht e => (hG1.av p hp).2 t ht e)).avIn
                      · rw [List.mem_singleton.1 hp]
                        exact (((HXv.out.up (hWk rfl)).out ho9 (fun t ht e => by have h1 := (row_lt (HXv.out.up (hWk rfl)).own ht).1; have h2 := HGL.out t e; omega))).avIn
                    · match jj, hjj, hf with
                      | 0, _, ⟨q, h1, h2⟩ => exact ⟨q, h1, ho9.own h2 (fun t ht e => by have h3 := (row_lt h2 (by rwa [ownBlock_slice] at ht)).1; have h4 := HGS.out t e; omega)⟩
                      | 1, _, hf => exact hf
                      | 2, _, ⟨A2, c2, h1, h2⟩ => exact ⟨A2, c2, h1, ho9.own h2 (fun t ht e => by have h3 := (row_lt h2 (by rwa [ownBlock_slice] at ht)).1; have h4 := HGS.out t e; omega)⟩
                      | 3, _, hf => exact hf
                      | 4, _, hf => exact hf
                      | 5, _, ⟨q, h1, h2, h3⟩ => exact ⟨q, h1, h2, ho9.blk h3 (fun e => by have h4 := HGS.out q e; omega)⟩
                      | 6, hjj, _ => exact absurd rfl hjj
                      | 7, _, hf => exact hf
                      | 8, _, hf => exact hf
                      | 9, _, hf => exact hf
                      | 10, _, hf => exact hf
                      | 11, _, hf => exact hf
                      | 12, _, hf => exact hf
                      | 13, _, hf => exact hf
                      | 14, _, hf => exact hf
                      | jj + 15, _, _ => trivial
                  · refine opS_callUp rfl rfl (fun k wx wy h hu => ⟨Out.trans h.1 (Up.out hu _) (Sub.refl _ _), fun e => Up.trans (h.2.1 e) hu, Up.trans h.2.2 hu⟩) (facts_keep HK) fun L ac wx hJ hl hc ho hd => ?_
                    have d2 := hd 2 _ _ rfl rfl rfl
                    have d6 := hd 6 _ _ rfl rfl rfl
                    obtain ⟨_, _, hWO, hWk, hWU⟩ := hJ
                    obtain ⟨A2, c2, hv2, hown⟩ := d2
                    obtain ⟨A9, n9, c9, L9, hv6, hL9, hm9, hn9⟩ := d6
                    have dd2 : ac.eval (.tmp 115) = .slice A2 m c2 := hv2
                    have dd6 : ac.eval (.tmp 119) = .slice A9 n9 c9 := hv6
                    refine ⟨16, _, x_fcall 16 [.tmp 115, .tmp 119] _ rfl (by kernel_rfl), ?_⟩
                    simp only [List.map_cons, List.map_nil, dd2, dd6]
                    have hj := judge_any A2 m c2 rs A9 n9 c9 L9 wx (own_inR hown HLr.out HOr.out) hL9 (HT.out.up hWU) u0 (by omega)
                    rw [hm9, HJ.out] at hj
                    refine Calls.mono hj ?_
                    rintro e1 w2 ⟨At, nt, ct, outt, rfl, hGt, hMt, -, hUt⟩
                    obtain rfl : nt = 0 := map_len hMt.out hGt.out.len
                    exact ⟨_, rfl, hUt.out, At, ct, rfl⟩
                  · refine opS_same rfl rfl fun Lx ac w1 hJ hl hc ho hd => ?_
                    have d7 := hd 7 _ _ rfl rfl rfl
                    obtain ⟨At, ct, hv⟩ := d7
                    have dd : ac.eval (.tmp 120) = .tuple #[.int .i64 2001, .slice At 0 ct, .int .i64 0] := hv
                    exact ⟨_, x_move (.tmp 120) rfl dd, At, ct, rfl⟩
                  · refine opS_same rfl rfl fun Lx ac w1 hJ hl hc ho hd => ?_
                    have d8 := hd 8 _ _ rfl rfl rfl
                    obtain ⟨At, ct, hv⟩ := d8
                    have dd : ac.eval (.tmp 112) = .tuple #[.int .i64 2001, .slice At 0 ct, .int .i64 0] := hv
                    exact ⟨_, x_extract (.tmp 112) 0 rfl dd rfl, rfl⟩
                  · refine opS_same rfl rfl fun Lx ac w1 hJ hl hc ho hd => ?_
                    have d8 := hd 8 _ _ rfl rfl rfl
                    obtain ⟨At, ct, hv⟩ := d8
                    have dd : ac.eval (.tmp 112) = .tuple #[.int .i64 2001, .slice At 0 ct, .int .i64 0] := hv
                    exact ⟨_, x_extract (.tmp 112) 1 rfl dd rfl, At, ct, rfl⟩
                  · refine opS_same rfl rfl fun Lx ac w1 hJ hl hc ho hd => ?_
                    have d8 := hd 8 _ _ rfl rfl rfl
                    obtain ⟨At, ct, hv⟩ := d8
                    have dd : ac.eval (.tmp 112) = .tuple #[.int .i64 2001, .slice At 0 ct, .int .i64 0] := hv
                    exact ⟨_, x_extract (.tmp 112) 2 rfl dd rfl, rfl⟩
                  · refine opS_same rfl rfl fun Lx ac w1 hJ hl hc ho hd => ?_
                    have d9 : ac.eval (.tmp 121) = .int .i64 2001 := hd 9 _ _ rfl rfl rfl
                    exact ⟨_, x_assign (.tmp 121) rfl d9, rfl⟩
                  · refine opS_same rfl rfl fun Lx ac w1 hJ hl hc ho hd => ?_
                    have d10 := hd 10 _ _ rfl rfl rfl
                    obtain ⟨At, ct, hv⟩ := d10
                    have dd : ac.eval (.tmp 122) = .slice At 0 ct := hv
                    exact ⟨_, x_assign (.tmp 122) rfl dd, At, ct, rfl⟩
                  · refine opS_same rfl rfl fun Lx ac w1 hJ hl hc ho hd => ?_
                    have d11 : ac.eval (.tmp 123) = .int .i64 0 := hd 11 _ _ rfl rfl rfl
                    exact ⟨_, x_assign (.tmp 123) rfl d11, rfl⟩
                · intro L1 a1 wz hI hall
                  obtain ⟨_, _, _, _, hUF⟩ := hI.done hall (by simp)
                  have HUz := Lib.hid (show Up w wz from hUF)
                  obtain ⟨At, ct, l18⟩ := hI.facts 13 _ 18 rfl (hall 13 (by decide)) rfl
                  clear hUF
                  have l17 : a1.tmps.getD 17 undef = .int .i64 2001 := hI.get hall (i := 12) rfl rfl
                  have l19 : a1.tmps.getD 19 undef = .int .i64 0 := hI.get hall (i := 14) rfl rfl
                  have hde : a1.defers = [] := hI.defers
                  have hal := act_lit a1 135 hI.size
                  clear hI
                  simp only [List.range, List.range.loop, List.map_cons, List.map_nil] at hal
                  rw [l17, l18, l19, hde] at hal
                  generalize a1.tmps.getD 0 undef = t0 at hal
                  generalize a1.tmps.getD 1 undef = t1 at hal
                  generalize a1.tmps.getD 2 undef = t2 at hal
                  generalize a1.tmps.getD 3 undef = t3 at hal
                  generalize a1.tmps.getD 4 undef = t4 at hal
                  generalize a1.tmps.getD 5 undef = t5 at hal
                  generalize a1.tmps.getD 6 undef = t6 at hal
                  generalize a1.tmps.getD 7 undef = t7 at hal
                  generalize a1.tmps.getD 8 undef = t8 at hal
                  generalize a1.tmps.getD 9 undef = t9 at hal
                  generalize a1.tmps.getD 10 undef = t10 at hal
                  generalize a1.tmps.getD 11 undef = t11 at hal
                  generalize a1.tmps.getD 12 undef = t12 at hal
                  generalize a1.tmps.getD 13 undef = t13 at hal
                  generalize a1.tmps.getD 14 undef = t14 at hal
                  generalize a1.tmps.getD 15 undef = t15 at hal
                  generalize a1.tmps.getD 16 undef = t16 at hal
                  generalize a1.tmps.getD 20 undef = t20 at hal
                  generalize a1.tmps.getD 21 undef = t21 at hal
                  generalize a1.tmps.getD 22 undef = t22 at hal
                  generalize a1.tmps.getD 23 undef = t23 at hal
                  generalize a1.tmps.getD 24 undef = t24 at hal
                  generalize a1.tmps.getD 25 undef = t25 at hal
                  generalize a1.tmps.getD 26 undef = t26 at hal
                  generalize a1.tmps.getD 27 undef = t27 at hal
                  generalize a1.tmps.getD 28 undef = t28 at hal
                  generalize a1.tmps.getD 29 undef = t29 at hal
                  generalize a1.tmps.getD 30 undef = t30 at hal
                  generalize a1.tmps.getD 31 undef = t31 at hal
                  generalize a1.tmps.getD 32 undef = t32 at hal
                  generalize a1.tmps.getD 33 undef = t33 at hal
                  generalize a1.tmps.getD 34 undef = t34 at hal
                  generalize a1.tmps.getD 35 undef = t35 at hal
                  generalize a1.tmps.getD 36 undef = t36 at hal
                  generalize a1.tmps.getD 37 undef = t37 at hal
                  generalize a1.tmps.getD 38 undef = t38 at hal
                  generalize a1.tmps.getD 39 undef = t39 at hal
                  generalize a1.tmps.getD 40 undef = t40 at hal
                  generalize a1.tmps.getD 41 undef = t41 at hal
                  generalize a1.tmps.getD 42 undef = t42 at hal
                  generalize a1.tmps.getD 43 undef = t43 at hal
                  generalize a1.tmps.getD 44 undef = t44 at hal
                  generalize a1.tmps.getD 45 undef = t45 at hal
                  generalize a1.tmps.getD 46 undef = t46 at hal
                  generalize a1.tmps.getD 47 undef = t47 at hal
                  generalize a1.tmps.getD 48 undef = t48 at hal
                  generalize a1.tmps.getD 49 undef = t49 at hal
                  generalize a1.tmps.getD 50 undef = t50 at hal
                  generalize a1.tmps.getD 51 undef = t51 at hal
                  generalize a1.tmps.getD 52 undef = t52 at hal
                  generalize a1.tmps.getD 53 undef = t53 at hal
                  generalize a1.tmps.getD 54 undef = t54 at hal
                  generalize a1.tmps.getD 55 undef = t55 at hal
                  generalize a1.tmps.getD 56 undef = t56 at hal
                  generalize a1.tmps.getD 57 undef = t57 at hal
                  generalize a1.tmps.getD 58 undef = t58 at hal
                  generalize a1.tmps.getD 59 undef = t59 at hal
                  generalize a1.tmps.getD 60 undef = t60 at hal
                  generalize a1.tmps.getD 61 undef = t61 at hal
                  generalize a1.tmps.getD 62 undef = t62 at hal
                  generalize a1.tmps.getD 63 undef = t63 at hal
                  generalize a1.tmps.getD 64 undef = t64 at hal
                  generalize a1.tmps.getD 65 undef = t65 at hal
                  generalize a1.tmps.getD 66 undef = t66 at hal
                  generalize a1.tmps.getD 67 undef = t67 at hal
                  generalize a1.tmps.getD 68 undef = t68 at hal
                  generalize a1.tmps.getD 69 undef = t69 at hal
                  generalize a1.tmps.getD 70 undef = t70 at hal
                  generalize a1.tmps.getD 71 undef = t71 at hal
                  generalize a1.tmps.getD 72 undef = t72 at hal
                  generalize a1.tmps.getD 73 undef = t73 at hal
                  generalize a1.tmps.getD 74 undef = t74 at hal
                  generalize a1.tmps.getD 75 undef = t75 at hal
                  generalize a1.tmps.getD 76 undef = t76 at hal
                  generalize a1.tmps.getD 77 undef = t77 at hal
                  generalize a1.tmps.getD 78 undef = t78 at hal
                  generalize a1.tmps.getD 79 undef = t79 at hal
                  generalize a1.tmps.getD 80 undef = t80 at hal
                  generalize a1.tmps.getD 81 undef = t81 at hal
                  generalize a1.tmps.getD 82 undef = t82 at hal
                  generalize a1.tmps.getD 83 undef = t83 at hal
                  generalize a1.tmps.getD 84 undef = t84 at hal
                  generalize a1.tmps.getD 85 undef = t85 at hal
                  generalize a1.tmps.getD 86 undef = t86 at hal
                  generalize a1.tmps.getD 87 undef = t87 at hal
                  generalize a1.tmps.getD 88 undef = t88 at hal
                  generalize a1.tmps.getD 89 undef = t89 at hal
                  generalize a1.tmps.getD 90 undef = t90 at hal
                  generalize a1.tmps.getD 91 undef = t91 at hal
                  generalize a1.tmps.getD 92 undef = t92 at hal
                  generalize a1.tmps.getD 93 undef = t93 at hal
                  generalize a1.tmps.getD 94 undef = t94 at hal
                  generalize a1.tmps.getD 95 undef = t95 at hal
                  generalize a1.tmps.getD 96 undef = t96 at hal
                  generalize a1.tmps.getD 97 undef = t97 at hal
                  generalize a1.tmps.getD 98 undef = t98 at hal
                  generalize a1.tmps.getD 99 undef = t99 at hal
                  generalize a1.tmps.getD 100 undef = t100 at hal
                  generalize a1.tmps.getD 101 undef = t101 at hal
                  generalize a1.tmps.getD 102 undef = t102 at hal
                  generalize a1.tmps.getD 103 undef = t103 at hal
                  generalize a1.tmps.getD 104 undef = t104 at hal
                  generalize a1.tmps.getD 105 undef = t105 at hal
                  generalize a1.tmps.getD 106 undef = t106 at hal
                  generalize a1.tmps.getD 107 undef = t107 at hal
                  generalize a1.tmps.getD 108 undef = t108 at hal
                  generalize a1.tmps.getD 109 undef = t109 at hal
                  generalize a1.tmps.getD 110 undef = t110 at hal
                  generalize a1.tmps.getD 111 undef = t111 at hal
                  generalize a1.tmps.getD 112 undef = t112 at hal
                  generalize a1.tmps.getD 113 undef = t113 at hal
                  generalize a1.tmps.getD 114 undef = t114 at hal
                  generalize a1.tmps.getD 115 undef = t115 at hal
                  generalize a1.tmps.getD 116 undef = t116 at hal
                  generalize a1.tmps.getD 117 undef = t117 at hal
                  generalize a1.tmps.getD 118 undef = t118 at hal
                  generalize a1.tmps.getD 119 undef = t119 at hal
                  generalize a1.tmps.getD 120 undef = t120 at hal
                  generalize a1.tmps.getD 121 undef = t121 at hal
                  generalize a1.tmps.getD 122 undef = t122 at hal
                  generalize a1.tmps.getD 123 undef = t123 at hal
                  generalize a1.tmps.getD 124 undef = t124 at hal
                  generalize a1.tmps.getD 125 undef = t125 at hal
                  generalize a1.tmps.getD 126 undef = t126 at hal
                  generalize a1.tmps.getD 127 undef = t127 at hal
                  generalize a1.tmps.getD 128 undef = t128 at hal
                  generalize a1.tmps.getD 129 undef = t129 at hal
                  generalize a1.tmps.getD 130 undef = t130 at hal
                  generalize a1.tmps.getD 131 undef = t131 at hal
                  generalize a1.tmps.getD 132 undef = t132 at hal
                  generalize a1.tmps.getD 133 undef = t133 at hal
                  generalize a1.tmps.getD 134 undef = t134 at hal
                  clear l17 l18 l19 hde
                  subst hal
                  go_wp2_with fail
                  go_ret
                  exact ⟨rfl, HUz⟩
    · have HCF := Lib.hid (show ((judge rs (l.map AvB.pure)).1 != 2001) = true from by rw [bne_iff_ne]; exact hc)
      have hcf := HCF.out
      generalize (judge rs (l.map AvB.pure)).1 = J1 at hcf ⊢
      generalize (judge rs (l.map AvB.pure)).2.2 = J2
      go_wp2_with fail
      go_ret
      exact ⟨rfl, HU5⟩
  · rw [decide_eq_false hli]
    go_wp2_with fail
    refine (answers_any w1 (HT.out.up HU1.out)).mono ?_
    rintro e1 w2 ⟨rfl, hu⟩
    have HU2 := Lib.hid (HU1.out.trans hu)
    clear hu
    go_wp2_with fail
    go_ret
    exact ⟨rfl, HU2⟩
end Go.Proofs.YtghldkjbmfbdfaaDoor

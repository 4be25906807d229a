import Derived.Test.YtgikgcepeniekaaCk46
import Derived.Test.YtgikgcepeniekaaCk47
namespace Go.Proofs.Ytgikgcepeniekaa
open Go Go.RowKit
set_option linter.unusedVariables false
set_option linter.unusedSimpArgs false
/-! The law ChunkHellos. -/
theorem chk_ok_res {h : Ck.Hel} {ack : Bool} {h' : Ck.Hel} {k : Int} (hk : Ck.chkH h ack = 0) (ho : Ck.HelOk h) (hb : Byt h.ck) (hr : HelRes (if ack then 2 else 1) 0 (encH h ack) h' k) : h' = h ∧ k = 0 :=
  helRes_inj hr (.inl ⟨rfl, ack, rfl, rfl, hk, ho, hb, rfl⟩)
set_option maxRecDepth 1000000 in
set_option maxHeartbeats 8000000 in
theorem law_hellos (h : Ck.Hel) (A : Option Addr) (m c : Nat) (ack : Bool) (x : ChB) (w : World) (hin : InB w A m c h.ck) (ho : Ck.HelOk h) (hm : m ≤ 140737488351232) (hx : ChIn w x) : Calls Try.prog 6 #[helV h (.slice A m c), .bool ack, chV x.ty x.fl (.slice x.A x.n x.c)] w (RetB true w) := by
  obtain ⟨W, hW⟩ : ∃ W, W = (w.alloc (.cells #[.int .u32 h.tag, .int .u32 h.win, .int .u16 h.out, .int .u16 h.inn, .int .u32 h.tsn, .slice A m c] 39)).alloc (.cells #[.int .u8 x.ty, .int .u8 x.fl, .slice x.A x.n x.c] 41) := ⟨_, rfl⟩
  have u1 := up_alloc w (.cells #[.int .u32 h.tag, .int .u32 h.win, .int .u16 h.out, .int .u16 h.inn, .int .u32 h.tsn, .slice A m c] 39)
  have a1 := new_at w (.cells #[.int .u32 h.tag, .int .u32 h.win, .int .u16 h.out, .int .u16 h.inn, .int .u32 h.tsn, .slice A m c] 39)
  have u2 := up_alloc (w.alloc (.cells #[.int .u32 h.tag, .int .u32 h.win, .int .u16 h.out, .int .u16 h.inn, .int .u32 h.tsn, .slice A m c] 39)) (.cells #[.int .u8 x.ty, .int .u8 x.fl, .slice x.A x.n x.c] 41)
  have a2 := new_at (w.alloc (.cells #[.int .u32 h.tag, .int .u32 h.win, .int .u16 h.out, .int .u16 h.inn, .int .u32 h.tsn, .slice A m c] 39)) (.cells #[.int .u8 x.ty, .int .u8 x.fl, .slice x.A x.n x.c] 41)
  have b1 := (u2.block _ (lt_of_blk a1)).trans a1
  have s1 : (w.alloc (.cells #[.int .u32 h.tag, .int .u32 h.win, .int .u16 h.out, .int .u16 h.inn, .int .u32 h.tsn, .slice A m c] 39)).heap.size = w.heap.size + 1 := by simp
  rw [s1] at a2
  have HS := Lib.hid (show ((w.alloc (.cells #[.int .u32 h.tag, .int .u32 h.win, .int .u16 h.out, .int .u16 h.inn, .int .u32 h.tsn, .slice A m c] 39)).alloc (.cells #[.int .u8 x.ty, .int .u8 x.fl, .slice x.A x.n x.c] 41)).heap.size = w.heap.size + 1 + 1 by simp)
  have HU := Lib.hid (u1.trans u2)
  rw [← hW] at a2 b1 HU HS
  have HW := Lib.hid hW
  have HQ := Lib.hid a2
  have HB := Lib.hid b1
  have c0 := cell_of b1 (j := 0) rfl
  have c1 := cell_of b1 (j := 1) rfl
  have c2 := cell_of b1 (j := 2) rfl
  have c3 := cell_of b1 (j := 3) rfl
  have c4 := cell_of b1 (j := 4) rfl
  have c5 := cell_of b1 (j := 5) rfl
  clear u1 a1 u2 a2 b1 s1 hW
  have HI := Lib.hid hin
  have HO := Lib.hid ho
  have HX := Lib.hid hx
  clear hin ho hx
  unfold helV chV
  go_enter Try.func6, Try.ntmps6
  go_upto_region 2 with (fail)
  rw [← HW.out]
  have hal := up_alloc W (.cells #[.int .u32 h.tag, .int .u32 h.win, .int .u16 h.out, .int .u16 h.inn, .int .u32 h.tsn, .slice A m c] 39)
  have UA := Lib.hid hal
  have BI := Lib.hid (new_at W (.cells #[.int .u32 h.tag, .int .u32 h.win, .int .u16 h.out, .int .u16 h.inn, .int .u32 h.tsn, .slice A m c] 39))
  have BHA := Lib.hid ((hal.block _ (lt_of_blk HB.out)).trans HB.out)
  have HIN := Lib.hid (HI.out.up (HU.out.trans hal))
  clear hal c0 c1 c2 c3 c4 c5
  rw [HS.out] at BI
  have hpw0 := Lib.hid (show w.heap.size + 1 + 1 < (W.alloc (.cells #[.int .u32 h.tag, .int .u32 h.win, .int .u16 h.out, .int .u16 h.inn, .int .u32 h.tsn, .slice A m c] 39)).heap.size by have := HS.out; simp; omega)
  generalize W.alloc (.cells #[.int .u32 h.tag, .int .u32 h.win, .int .u16 h.out, .int .u16 h.inn, .int .u32 h.tsn, .slice A m c] 39) = wa at UA BI BHA HIN hpw0 ⊢
  have hpw : w.heap.size + 1 + 1 < wa.heap.size := hpw0.out
  have hpw2 : w.heap.size < wa.heap.size := by omega
  have z5 := cell_of BHA.out (j := 5) rfl
  go_upto_region 3 with (at_builtin; refine wpList_appendI rfl (.tmp 19) (.tmp 21) 23 rfl .u8 wa.heap.size 5 1 Try.underlying23 info5 (some ⟨wa.heap.size, 0, none⟩) 0 0 [] rfl (ownI_new _ _ _) A m c h.ck rfl HIN.out.len (HIN.out.cells.alloc _) (by omega) (by omega) (by simp) ((Below.refl _ _).alloc (Nat.le_refl _) _) ?_; intro A6 N6 c6 w6 HN6 HW6 HB6 hsz6; have hc6 := (HB6.out.block _ hpw).trans BI.out; have z6 := cell_of hc6 (j := 5) rfl; have y6 := frozen_at (j := 5) hc6)
  have hst := setCell_out w6 (w.heap.size + 1 + 1) 5 (.slice A6 N6 c6)
  have BI7 := Lib.hid (show (w6.setCell ⟨w.heap.size + 1 + 1, 5, none⟩ (.slice A6 N6 c6)).heap[w.heap.size + 1 + 1]? = some (.cells #[.int .u32 h.tag, .int .u32 h.win, .int .u16 h.out, .int .u16 h.inn, .int .u32 h.tsn, .slice A6 N6 c6] 39 (0, 0)) from (setCell_at (j := 5) (.slice A6 N6 c6) hc6).trans rfl)
  have HO6 := Lib.hid (show OwnI .u8 5 wa.heap.size w6 A6 N6 c6 h.ck by have := HW6.out; rw [List.nil_append] at this; exact this)
  have HO7 := Lib.hid (show OwnI .u8 5 wa.heap.size (w6.setCell ⟨w.heap.size + 1 + 1, 5, none⟩ (.slice A6 N6 c6)) A6 N6 c6 h.ck from hst.own HO6.out (fun q hq e => by have h1 := (row_lt HO6.out (by rwa [ownBlock_slice] at hq)).1; have e1 : q = w.heap.size + 1 + 1 := e; omega))
  have U7 := Lib.hid (show Up W (w6.setCell ⟨w.heap.size + 1 + 1, 5, none⟩ (.slice A6 N6 c6)) from Below.out (UA.out.trans HB6.out) hst (fun q hq => by rw [hq, HS.out]; exact Nat.le_refl _) (UA.out.trans HB6.out).size)
  clear z5 z6 y6 hc6 HW6 HB6 hsz6 HN6 BI BHA UA HIN hpw hpw2 hpw0 HO6
  generalize w6.setCell ⟨w.heap.size + 1 + 1, 5, none⟩ (.slice A6 N6 c6) = w7 at hst BI7 HO7 U7 ⊢
  clear hst
  have HI7 := Lib.hid (own_inB HO7.out HI.out.byt)
  have BH7 := Lib.hid ((U7.out.block _ (lt_of_blk HB.out)).trans HB.out)
  have BC7 := Lib.hid ((U7.out.block _ (lt_of_blk HQ.out)).trans HQ.out)
  have V7 := Lib.hid (HU.out.trans U7.out)
  clear HO7
  have m0 := cell_of BI7.out (j := 0) rfl
  have m1 := cell_of BI7.out (j := 1) rfl
  have m2 := cell_of BI7.out (j := 2) rfl
  have m3 := cell_of BI7.out (j := 3) rfl
  have m4 := cell_of BI7.out (j := 4) rfl
  have m5 := cell_of BI7.out (j := 5) rfl
  by_cases hk : Ck.chkH h ack = 0
  · have HK := Lib.hid hk
    clear hk
    go_wp2_with fail
    refine (fromH_ok h A6 N6 c6 ack w7 HI7.out HK.out HO.out).mono ?_
    rintro e s1 ⟨A8, N8, c8, rfl, hN8, hO8, hu8⟩
    have U8 := Lib.hid (V7.out.trans hu8.out)
    have BH8 := Lib.hid ((hu8.out.block _ (lt_of_blk BH7.out)).trans BH7.out)
    have BC8 := Lib.hid ((hu8.out.block _ (lt_of_blk BC7.out)).trans BC7.out)
    have HI8 := Lib.hid (own_inB hO8.out (byt_encH HI.out.byt))
    obtain ⟨tt, htt⟩ : ∃ tt : Int, tt = (if ack then 2 else 1) := ⟨_, rfl⟩
    rw [← htt]
    have HTT := Lib.hid htt
    clear m0 m1 m2 m3 m4 m5 hu8 hO8 BH7 BC7 V7 HI7 BI7 hN8 htt
    unfold chV
    go_upto_region 4 with (fail)
    have hal := up_alloc s1 (.cells #[.int .u8 tt, .int .u8 0, .slice A8 N8 c8] 41)
    have U9 := Lib.hid (U8.out.trans hal)
    have BH9 := Lib.hid ((hal.block _ (lt_of_blk BH8.out)).trans BH8.out)
    have BC9 := Lib.hid ((hal.block _ (lt_of_blk BC8.out)).trans BC8.out)
    have BX9 := Lib.hid (new_at s1 (.cells #[.int .u8 tt, .int .u8 0, .slice A8 N8 c8] 41))
    have HI9 := Lib.hid (HI8.out.up hal)
    clear hal
    generalize s1.alloc (.cells #[.int .u8 tt, .int .u8 0, .slice A8 N8 c8] 41) = s2 at U9 BH9 BC9 BX9 HI9 ⊢
    generalize s1.heap.size = px at BX9 ⊢
    clear U8 BH8 BC8 HI8
    have m0 := cell_of BH9.out (j := 0) rfl
    have m1 := cell_of BH9.out (j := 1) rfl
    have m2 := cell_of BH9.out (j := 2) rfl
    have m3 := cell_of BH9.out (j := 3) rfl
    have m4 := cell_of BH9.out (j := 4) rfl
    have m5 := cell_of BH9.out (j := 5) rfl
    go_wp2_with fail
    refine (rfromH_ok h A m c ack s2 (HI.out.up U9.out) HK.out HO.out).mono ?_
    rintro e s3 ⟨Aa, Na, ca, rfl, hNa, hOa, hua⟩
    have Ua := Lib.hid (U9.out.trans hua.out)
    have BHa := Lib.hid ((hua.out.block _ (lt_of_blk BH9.out)).trans BH9.out)
    have BCa := Lib.hid ((hua.out.block _ (lt_of_blk BC9.out)).trans BC9.out)
    have BXa := Lib.hid ((hua.out.block _ (lt_of_blk BX9.out)).trans BX9.out)
    have HIa := Lib.hid (HI9.out.up hua.out)
    have HIA := Lib.hid (own_inB hOa.out (byt_encH HI.out.byt))
    rw [← HTT.out]
    clear m0 m1 m2 m3 m4 m5 hua hOa hNa U9 BH9 BC9 BX9 HI9
    unfold chV
    go_upto_region 5 with (fail)
    have hal := up_alloc s3 (.cells #[.int .u8 tt, .int .u8 0, .slice Aa Na ca] 41)
    have Ub := Lib.hid (Ua.out.trans hal)
    have BHb := Lib.hid ((hal.block _ (lt_of_blk BHa.out)).trans BHa.out)
    have BCb := Lib.hid ((hal.block _ (lt_of_blk BCa.out)).trans BCa.out)
    have BXb := Lib.hid ((hal.block _ (lt_of_blk BXa.out)).trans BXa.out)
    have BYb := Lib.hid (new_at s3 (.cells #[.int .u8 tt, .int .u8 0, .slice Aa Na ca] 41))
    have HIb := Lib.hid (HIa.out.up hal)
    have HIB := Lib.hid (HIA.out.up hal)
    clear hal
    generalize s3.alloc (.cells #[.int .u8 tt, .int .u8 0, .slice Aa Na ca] 41) = s4 at Ub BHb BCb BXb BYb HIb HIB ⊢
    generalize s3.heap.size = py at BYb ⊢
    clear Ua BHa BCa BXa HIa HIA
    go_wp2_with fail
    refine (answers_ok s4).mono ?_
    rintro e s5 ⟨rfl, huc⟩
    have Uc := Lib.hid (Ub.out.trans huc.out)
    have BHc := Lib.hid ((huc.out.block _ (lt_of_blk BHb.out)).trans BHb.out)
    have BCc := Lib.hid ((huc.out.block _ (lt_of_blk BCb.out)).trans BCb.out)
    have BXc := Lib.hid ((huc.out.block _ (lt_of_blk BXb.out)).trans BXb.out)
    have BYc := Lib.hid ((huc.out.block _ (lt_of_blk BYb.out)).trans BYb.out)
    have HIc := Lib.hid (HIb.out.up huc.out)
    have HIC := Lib.hid (HIB.out.up huc.out)
    clear huc Ub BHb BCb BXb BYb HIb HIB
    have m0 := cell_of BXc.out (j := 0) rfl
    have m1 := cell_of BXc.out (j := 1) rfl
    have m2 := cell_of BXc.out (j := 2) rfl
    have j0 := cell_of BYc.out (j := 0) rfl
    have j1 := cell_of BYc.out (j := 1) rfl
    have j2 := cell_of BYc.out (j := 2) rfl
    go_wp2_with fail
    refine (sameC ⟨tt, 0, encH h ack⟩ ⟨tt, 0, encH h ack⟩ A8 Aa N8 Na c8 ca s5 HIc.out HIC.out).mono ?_
    rintro e s6 ⟨rfl, hud⟩
    rw [decide_eq_true (rfl : (⟨tt, 0, encH h ack⟩ : Ck.Chk) = ⟨tt, 0, encH h ack⟩)]
    have Ud := Lib.hid (Uc.out.trans hud.out)
    have BHd := Lib.hid ((hud.out.block _ (lt_of_blk BHc.out)).trans BHc.out)
    have BCd := Lib.hid ((hud.out.block _ (lt_of_blk BCc.out)).trans BCc.out)
    have BXd := Lib.hid ((hud.out.block _ (lt_of_blk BXc.out)).trans BXc.out)
    have HId := Lib.hid (HIc.out.up hud.out)
    clear m0 m1 m2 j0 j1 j2 hud Uc BHc BCc BXc BYc HIc HIC
    have m0 := cell_of BXd.out (j := 0) rfl
    have m1 := cell_of BXd.out (j := 1) rfl
    have m2 := cell_of BXd.out (j := 2) rfl
    have hN8 : N8 ≤ 140737488351232 := by
      have h1 := HId.out.len
      have h2 := (chkH_len HK.out).1
      have h3 : (encH h ack).length ≤ 300 := by unfold encH encH0; split <;> simp [be_length, padL_length] <;> (have := padN_lt h.ck.length; omega)
      omega
    go_wp2_with fail
    refine (toH_any A8 N8 c8 tt 0 (encH h ack) s6 HId.out hN8).mono ?_
    rintro e s7 ⟨h', k', Ae, Ne, ce, rfl, hre, hle, hoe, hbe, -, hue⟩
    obtain ⟨rfl, rfl⟩ := chk_ok_res HK.out HO.out HI.out.byt (by rw [← HTT.out]; exact hre.out)
    have Ue := Lib.hid (Ud.out.trans hue.out)
    have BHe := Lib.hid ((hue.out.block _ (lt_of_blk BHd.out)).trans BHd.out)
    have BCe := Lib.hid ((hue.out.block _ (lt_of_blk BCd.out)).trans BCd.out)
    have HIe := Lib.hid (own_inB hoe.out hbe.out)
    clear m0 m1 m2 hue hoe hle hre Ud BHd BCd BXd HId hN8
    unfold helV
    go_upto_region 9 with (fail)
    have hal := up_alloc s7 (.cells #[.int .u32 h'.tag, .int .u32 h'.win, .int .u16 h'.out, .int .u16 h'.inn, .int .u32 h'.tsn, .slice Ae Ne ce] 39)
    have Uf := Lib.hid (Ue.out.trans hal)
    have BHf := Lib.hid ((hal.block _ (lt_of_blk BHe.out)).trans BHe.out)
    have BCf := Lib.hid ((hal.block _ (lt_of_blk BCe.out)).trans BCe.out)
    have BBf := Lib.hid (new_at s7 (.cells #[.int .u32 h'.tag, .int .u32 h'.win, .int .u16 h'.out, .int .u16 h'.inn, .int .u32 h'.tsn, .slice Ae Ne ce] 39))
    have HIf := Lib.hid (HIe.out.up hal)
    clear hal
    generalize s7.alloc (.cells #[.int .u32 h'.tag, .int .u32 h'.win, .int .u16 h'.out, .int .u16 h'.inn, .int .u32 h'.tsn, .slice Ae Ne ce] 39) = s8 at Uf BHf BCf BBf HIf ⊢
    generalize s7.heap.size = pz at BBf ⊢
    clear Ue BHe BCe HIe
    have m0 := cell_of BHf.out (j := 0) rfl
    have m1 := cell_of BHf.out (j := 1) rfl
    have m2 := cell_of BHf.out (j := 2) rfl
    have m3 := cell_of BHf.out (j := 3) rfl
    have m4 := cell_of BHf.out (j := 4) rfl
    have m5 := cell_of BHf.out (j := 5) rfl
    have j0 := cell_of BBf.out (j := 0) rfl
    have j1 := cell_of BBf.out (j := 1) rfl
    have j2 := cell_of BBf.out (j := 2) rfl
    have j3 := cell_of BBf.out (j := 3) rfl
    have j4 := cell_of BBf.out (j := 4) rfl
    have j5 := cell_of BBf.out (j := 5) rfl
    go_wp2_with fail
    refine (sameH h' h' Ae A Ne m ce c s8 HIf.out (HI.out.up Uf.out)).mono ?_
    rintro e s9 ⟨rfl, hug⟩
    rw [decide_eq_true (rfl : h' = h')]
    have UV := Lib.hid (Uf.out.trans hug.out)
    have BC := Lib.hid ((hug.out.block _ (lt_of_blk BCf.out)).trans BCf.out)
    clear m0 m1 m2 m3 m4 m5 j0 j1 j2 j3 j4 j5 hug Uf BHf BCf BBf HIf
    have m0 := cell_of BC.out (j := 0) rfl
    have m1 := cell_of BC.out (j := 1) rfl
    have m2 := cell_of BC.out (j := 2) rfl
    have hn := new_at s9 (.cells #[.int .u8 x.ty, .int .u8 x.fl, .slice x.A x.n x.c] 41)
    have hua := up_alloc s9 (.cells #[.int .u8 x.ty, .int .u8 x.fl, .slice x.A x.n x.c] 41)
    have HN := Lib.hid hn
    have HUA := Lib.hid hua
    clear hn hua
    go_wp2_with fail
    refine (own1 x s9.heap.size _ (HX.out.up (UV.out.trans HUA.out)) HN.out).mono ?_
    rintro e r1 ⟨q1, c1', A1, n1, c1, rfl, hcs, hib, hnn, huo⟩
    have j0 := hcs.out.1
    have j1 := hcs.out.2.1
    have j2 := hcs.out.2.2
    have U1 := Lib.hid ((UV.out.trans HUA.out).trans huo.out)
    have BC1 := Lib.hid (((HUA.out.trans huo.out).block _ (lt_of_blk BC.out)).trans BC.out)
    clear m0 m1 m2 HN HUA huo hcs
    go_wp2_with fail
    refine (toH_any A1 n1 c1 x.ty x.fl x.bs r1 hib.out hnn.out).mono ?_
    rintro e r2 ⟨g1, k1, B1, l1, d1, rfl, hr1, hl1, ho1, hb1, -, huz⟩
    have HIB1 := Lib.hid (own_inB ho1.out hb1.out)
    have U2 := Lib.hid (U1.out.trans huz.out)
    have BC2 := Lib.hid ((huz.out.block _ (lt_of_blk BC1.out)).trans BC1.out)
    clear j0 j1 j2 huz hib hnn ho1 hl1
    unfold helV
    go_upto_region 12 with (fail)
    have hal := up_alloc r2 (.cells #[.int .u32 g1.tag, .int .u32 g1.win, .int .u16 g1.out, .int .u16 g1.inn, .int .u32 g1.tsn, .slice B1 l1 d1] 39)
    have U3 := Lib.hid (U2.out.trans hal)
    have BC3 := Lib.hid ((hal.block _ (lt_of_blk BC2.out)).trans BC2.out)
    have BG3 := Lib.hid (new_at r2 (.cells #[.int .u32 g1.tag, .int .u32 g1.win, .int .u16 g1.out, .int .u16 g1.inn, .int .u32 g1.tsn, .slice B1 l1 d1] 39))
    have HIB3 := Lib.hid (HIB1.out.up hal)
    clear hal
    generalize r2.alloc (.cells #[.int .u32 g1.tag, .int .u32 g1.win, .int .u16 g1.out, .int .u16 g1.inn, .int .u32 g1.tsn, .slice B1 l1 d1] 39) = r3 at U3 BC3 BG3 HIB3 ⊢
    generalize r2.heap.size = pg at BG3 ⊢
    clear U1 U2 BC1 BC2 HIB1
    have m0 := cell_of BC3.out (j := 0) rfl
    have m1 := cell_of BC3.out (j := 1) rfl
    have m2 := cell_of BC3.out (j := 2) rfl
    go_wp2_with fail
    refine (rtoH_any x.A x.n x.c x.ty x.fl x.bs r3 (HX.out.inb.up U3.out) HX.out.n).mono ?_
    rintro e r4 ⟨g2, k2, B2, l2, d2, rfl, hr2, hl2, ho2, hb2, -, huz⟩
    obtain ⟨rfl, rfl⟩ := helRes_inj hr1.out hr2.out
    have HIB4 := Lib.hid (own_inB ho2.out hb2.out)
    have U4 := Lib.hid (U3.out.trans huz.out)
    have BG4 := Lib.hid ((huz.out.block _ (lt_of_blk BG3.out)).trans BG3.out)
    have HIB3' := Lib.hid (HIB3.out.up huz.out)
    clear m0 m1 m2 huz ho2 hl2 hr1 hr2 HIB3 U3 BC3 BG3
    unfold helV
    go_upto_region 13 with (fail)
    have hal := up_alloc r4 (.cells #[.int .u32 g1.tag, .int .u32 g1.win, .int .u16 g1.out, .int .u16 g1.inn, .int .u32 g1.tsn, .slice B2 l2 d2] 39)
    have U5 := Lib.hid (U4.out.trans hal)
    have BG5 := Lib.hid ((hal.block _ (lt_of_blk BG4.out)).trans BG4.out)
    have BK5 := Lib.hid (new_at r4 (.cells #[.int .u32 g1.tag, .int .u32 g1.win, .int .u16 g1.out, .int .u16 g1.inn, .int .u32 g1.tsn, .slice B2 l2 d2] 39))
    have HIB5 := Lib.hid (HIB3'.out.up hal)
    have HIB6 := Lib.hid (HIB4.out.up hal)
    clear hal
    generalize r4.alloc (.cells #[.int .u32 g1.tag, .int .u32 g1.win, .int .u16 g1.out, .int .u16 g1.inn, .int .u32 g1.tsn, .slice B2 l2 d2] 39) = r5 at U5 BG5 BK5 HIB5 HIB6 ⊢
    generalize r4.heap.size = pk at BK5 ⊢
    clear U4 BG4 HIB3' HIB4
    have m0 := cell_of BG5.out (j := 0) rfl
    have m1 := cell_of BG5.out (j := 1) rfl
    have m2 := cell_of BG5.out (j := 2) rfl
    have m3 := cell_of BG5.out (j := 3) rfl
    have m4 := cell_of BG5.out (j := 4) rfl
    have m5 := cell_of BG5.out (j := 5) rfl
    have j0 := cell_of BK5.out (j := 0) rfl
    have j1 := cell_of BK5.out (j := 1) rfl
    have j2 := cell_of BK5.out (j := 2) rfl
    have j3 := cell_of BK5.out (j := 3) rfl
    have j4 := cell_of BK5.out (j := 4) rfl
    have j5 := cell_of BK5.out (j := 5) rfl
    go_wp2_with fail
    refine (sameH g1 g1 B1 B2 l1 l2 d1 d2 r5 HIB5.out HIB6.out).mono ?_
    rintro e r6 ⟨rfl, hu6⟩
    rw [decide_eq_true (rfl : g1 = g1)]
    have U6 := Lib.hid (U5.out.trans hu6.out)
    clear m0 m1 m2 m3 m4 m5 j0 j1 j2 j3 j4 j5
    go_wp2_with fail
    go_ret
    exact ⟨by simp, U6⟩
  · have HK := Lib.hid hk
    have hkv := (chkH_val h ack).resolve_left hk
    obtain ⟨kk, hkk⟩ : ∃ kk, kk = Ck.chkH h ack := ⟨_, rfl⟩
    have HKK := Lib.hid hkk
    have hkb : (kk == 0) = false := by rw [beq_eq_false_iff_ne, hkk]; exact hk
    have HKV := Lib.hid (show kk = 2 ∨ kk = 4 by rw [hkk]; exact hkv)
    clear hk hkv hkk
    go_wp2_with fail
    refine (fromH_err h A6 N6 c6 ack kk w7 HI7.out.len.symm HKK.out.symm HKV.out).mono ?_
    rintro e s1 ⟨rfl, hu8⟩
    have U8 := Lib.hid (V7.out.trans hu8.out)
    have BH8 := Lib.hid ((hu8.out.block _ (lt_of_blk BH7.out)).trans BH7.out)
    have BC8 := Lib.hid ((hu8.out.block _ (lt_of_blk BC7.out)).trans BC7.out)
    clear m0 m1 m2 m3 m4 m5 hu8 BH7 BC7 V7 HI7 BI7
    unfold chV
    go_upto_region 4 with (fail)
    have hal := up_alloc s1 (.cells #[.int .u8 0, .int .u8 0, .slice none 0 0] 41)
    have U9 := Lib.hid (U8.out.trans hal)
    have BH9 := Lib.hid ((hal.block _ (lt_of_blk BH8.out)).trans BH8.out)
    have BC9 := Lib.hid ((hal.block _ (lt_of_blk BC8.out)).trans BC8.out)
    have BX9 := Lib.hid (new_at s1 (.cells #[.int .u8 0, .int .u8 0, .slice none 0 0] 41))
    clear hal
    generalize s1.alloc (.cells #[.int .u8 0, .int .u8 0, .slice none 0 0] 41) = s2 at U9 BH9 BC9 BX9 ⊢
    generalize s1.heap.size = px at BX9 ⊢
    clear U8 BH8 BC8
    have m0 := cell_of BH9.out (j := 0) rfl
    have m1 := cell_of BH9.out (j := 1) rfl
    have m2 := cell_of BH9.out (j := 2) rfl
    have m3 := cell_of BH9.out (j := 3) rfl
    have m4 := cell_of BH9.out (j := 4) rfl
    have m5 := cell_of BH9.out (j := 5) rfl
    go_wp2_with fail
    refine (rfromH_err h A m c ack kk s2 HI.out.len.symm HKK.out.symm HKV.out).mono ?_
    rintro e s3 ⟨rfl, hua⟩
    have Ua := Lib.hid (U9.out.trans hua.out)
    have BCa := Lib.hid ((hua.out.block _ (lt_of_blk BC9.out)).trans BC9.out)
    have BXa := Lib.hid ((hua.out.block _ (lt_of_blk BX9.out)).trans BX9.out)
    clear m0 m1 m2 m3 m4 m5 hua U9 BH9 BC9 BX9
    unfold chV
    go_upto_region 5 with (fail)
    have hal := up_alloc s3 (.cells #[.int .u8 0, .int .u8 0, .slice none 0 0] 41)
    have Ub := Lib.hid (Ua.out.trans hal)
    have BCb := Lib.hid ((hal.block _ (lt_of_blk BCa.out)).trans BCa.out)
    have BXb := Lib.hid ((hal.block _ (lt_of_blk BXa.out)).trans BXa.out)
    have BYb := Lib.hid (new_at s3 (.cells #[.int .u8 0, .int .u8 0, .slice none 0 0] 41))
    clear hal
    generalize s3.alloc (.cells #[.int .u8 0, .int .u8 0, .slice none 0 0] 41) = s4 at Ub BCb BXb BYb ⊢
    generalize s3.heap.size = py at BYb ⊢
    clear Ua BCa BXa
    go_wp2_with fail
    refine (answers_ok s4).mono ?_
    rintro e s5 ⟨rfl, huc⟩
    have Uc := Lib.hid (Ub.out.trans huc.out)
    have BCc := Lib.hid ((huc.out.block _ (lt_of_blk BCb.out)).trans BCb.out)
    have BXc := Lib.hid ((huc.out.block _ (lt_of_blk BXb.out)).trans BXb.out)
    have BYc := Lib.hid ((huc.out.block _ (lt_of_blk BYb.out)).trans BYb.out)
    clear huc Ub BCb BXb BYb
    have m0 := cell_of BXc.out (j := 0) rfl
    have m1 := cell_of BXc.out (j := 1) rfl
    have m2 := cell_of BXc.out (j := 2) rfl
    have j0 := cell_of BYc.out (j := 0) rfl
    have j1 := cell_of BYc.out (j := 1) rfl
    have j2 := cell_of BYc.out (j := 2) rfl
    go_wp2_with fail
    refine (sameC ⟨0, 0, []⟩ ⟨0, 0, []⟩ none none 0 0 0 0 s5 (inB_nil _) (inB_nil _)).mono ?_
    rintro e s6 ⟨rfl, hud⟩
    rw [decide_eq_true (rfl : (⟨0, 0, []⟩ : Ck.Chk) = ⟨0, 0, []⟩)]
    have UV := Lib.hid (Uc.out.trans hud.out)
    have BC := Lib.hid ((hud.out.block _ (lt_of_blk BCc.out)).trans BCc.out)
    clear m0 m1 m2 j0 j1 j2 hud Uc BCc BXc BYc
    go_upto_region 11 with (fail)
    have m0 := cell_of BC.out (j := 0) rfl
    have m1 := cell_of BC.out (j := 1) rfl
    have m2 := cell_of BC.out (j := 2) rfl
    have hn := new_at s6 (.cells #[.int .u8 x.ty, .int .u8 x.fl, .slice x.A x.n x.c] 41)
    have hua := up_alloc s6 (.cells #[.int .u8 x.ty, .int .u8 x.fl, .slice x.A x.n x.c] 41)
    have HN := Lib.hid hn
    have HUA := Lib.hid hua
    clear hn hua
    go_wp2_with fail
    refine (own1 x s6.heap.size _ (HX.out.up (UV.out.trans HUA.out)) HN.out).mono ?_
    rintro e r1 ⟨q1, c1', A1, n1, c1, rfl, hcs, hib, hnn, huo⟩
    have j0 := hcs.out.1
    have j1 := hcs.out.2.1
    have j2 := hcs.out.2.2
    have U1 := Lib.hid ((UV.out.trans HUA.out).trans huo.out)
    have BC1 := Lib.hid (((HUA.out.trans huo.out).block _ (lt_of_blk BC.out)).trans BC.out)
    clear m0 m1 m2 HN HUA huo hcs
    go_wp2_with fail
    refine (toH_any A1 n1 c1 x.ty x.fl x.bs r1 hib.out hnn.out).mono ?_
    rintro e r2 ⟨g1, k1, B1, l1, d1, rfl, hr1, hl1, ho1, hb1, -, huz⟩
    have HIB1 := Lib.hid (own_inB ho1.out hb1.out)
    have U2 := Lib.hid (U1.out.trans huz.out)
    have BC2 := Lib.hid ((huz.out.block _ (lt_of_blk BC1.out)).trans BC1.out)
    clear j0 j1 j2 huz hib hnn ho1 hl1
    unfold helV
    go_upto_region 12 with (fail)
    have hal := up_alloc r2 (.cells #[.int .u32 g1.tag, .int .u32 g1.win, .int .u16 g1.out, .int .u16 g1.inn, .int .u32 g1.tsn, .slice B1 l1 d1] 39)
    have U3 := Lib.hid (U2.out.trans hal)
    have BC3 := Lib.hid ((hal.block _ (lt_of_blk BC2.out)).trans BC2.out)
    have BG3 := Lib.hid (new_at r2 (.cells #[.int .u32 g1.tag, .int .u32 g1.win, .int .u16 g1.out, .int .u16 g1.inn, .int .u32 g1.tsn, .slice B1 l1 d1] 39))
    have HIB3 := Lib.hid (HIB1.out.up hal)
    clear hal
    generalize r2.alloc (.cells #[.int .u32 g1.tag, .int .u32 g1.win, .int .u16 g1.out, .int .u16 g1.inn, .int .u32 g1.tsn, .slice B1 l1 d1] 39) = r3 at U3 BC3 BG3 HIB3 ⊢
    generalize r2.heap.size = pg at BG3 ⊢
    clear U1 U2 BC1 BC2 HIB1
    have m0 := cell_of BC3.out (j := 0) rfl
    have m1 := cell_of BC3.out (j := 1) rfl
    have m2 := cell_of BC3.out (j := 2) rfl
    go_wp2_with fail
    refine (rtoH_any x.A x.n x.c x.ty x.fl x.bs r3 (HX.out.inb.up U3.out) HX.out.n).mono ?_
    rintro e r4 ⟨g2, k2, B2, l2, d2, rfl, hr2, hl2, ho2, hb2, -, huz⟩
    obtain ⟨rfl, rfl⟩ := helRes_inj hr1.out hr2.out
    have HIB4 := Lib.hid (own_inB ho2.out hb2.out)
    have U4 := Lib.hid (U3.out.trans huz.out)
    have BG4 := Lib.hid ((huz.out.block _ (lt_of_blk BG3.out)).trans BG3.out)
    have HIB3' := Lib.hid (HIB3.out.up huz.out)
    clear m0 m1 m2 huz ho2 hl2 hr1 hr2 HIB3 U3 BC3 BG3
    unfold helV
    go_upto_region 13 with (fail)
    have hal := up_alloc r4 (.cells #[.int .u32 g1.tag, .int .u32 g1.win, .int .u16 g1.out, .int .u16 g1.inn, .int .u32 g1.tsn, .slice B2 l2 d2] 39)
    have U5 := Lib.hid (U4.out.trans hal)
    have BG5 := Lib.hid ((hal.block _ (lt_of_blk BG4.out)).trans BG4.out)
    have BK5 := Lib.hid (new_at r4 (.cells #[.int .u32 g1.tag, .int .u32 g1.win, .int .u16 g1.out, .int .u16 g1.inn, .int .u32 g1.tsn, .slice B2 l2 d2] 39))
    have HIB5 := Lib.hid (HIB3'.out.up hal)
    have HIB6 := Lib.hid (HIB4.out.up hal)
    clear hal
    generalize r4.alloc (.cells #[.int .u32 g1.tag, .int .u32 g1.win, .int .u16 g1.out, .int .u16 g1.inn, .int .u32 g1.tsn, .slice B2 l2 d2] 39) = r5 at U5 BG5 BK5 HIB5 HIB6 ⊢
    generalize r4.heap.size = pk at BK5 ⊢
    clear U4 BG4 HIB3' HIB4
    have m0 := cell_of BG5.out (j := 0) rfl
    have m1 := cell_of BG5.out (j := 1) rfl
    have m2 := cell_of BG5.out (j := 2) rfl
    have m3 := cell_of BG5.out (j := 3) rfl
    have m4 := cell_of BG5.out (j := 4) rfl
    have m5 := cell_of BG5.out (j := 5) rfl
    have j0 := cell_of BK5.out (j := 0) rfl
    have j1 := cell_of BK5.out (j := 1) rfl
    have j2 := cell_of BK5.out (j := 2) rfl
    have j3 := cell_of BK5.out (j := 3) rfl
    have j4 := cell_of BK5.out (j := 4) rfl
    have j5 := cell_of BK5.out (j := 5) rfl
    go_wp2_with fail
    refine (sameH g1 g1 B1 B2 l1 l2 d1 d2 r5 HIB5.out HIB6.out).mono ?_
    rintro e r6 ⟨rfl, hu6⟩
    rw [decide_eq_true (rfl : g1 = g1)]
    have U6 := Lib.hid (U5.out.trans hu6.out)
    clear m0 m1 m2 m3 m4 m5 j0 j1 j2 j3 j4 j5
    go_wp2_with fail
    go_ret
    exact ⟨by simp, U6⟩
end Go.Proofs.Ytgikgcepeniekaa

import Derived.Test.YtgikgcepeniekaaCk46
import Derived.Test.YtgikgcepeniekaaCk47
import Derived.Test.YtgikgcepeniekaaCk57
namespace Go.Proofs.Ytgikgcepeniekaa
open Go Go.RowKit
set_option linter.unusedVariables false
set_option linter.unusedSimpArgs false
/-! The law ChunkHeards. -/
theorem hrd_ok_res {h : Ck.Hrd} {h' : Ck.Hrd} {k : Int} (hk : Ck.chkD h = 0) (ho : Ck.HrdOk h) (hr : HdRes 3 0 (encD h) h' k) : h' = h ∧ k = 0 :=
  hdRes_inj hr (.inl ⟨rfl, rfl, rfl, hk, ho, rfl⟩)
theorem hdRes_len {ty fl : Int} {xs : List Int} {h : Ck.Hrd} {k : Int} {n m : Nat} (hr : HdRes ty fl xs h k) (hn : h.gaps.length = n) (hm : h.dups.length = m) : n ≤ 140737488351232 ∧ m ≤ 140737488351232 := by
  rcases hr with ⟨-, -, -, h3, -, -⟩ | ⟨-, h2, -⟩
  · have := chkD_zero h3; omega
  · rw [h2] at hn hm; have h1 : n = 0 := hn.symm; have h2 : m = 0 := hm.symm; omega
theorem encD_len (h : Ck.Hrd) : (encD h).length = 12 + 4 * h.gaps.length + 4 * h.dups.length := by
  have el : ∀ (gs : List (Int × Int)), (encG gs).length = 4 * gs.length := fun gs => by
    induction gs with
    | nil => rfl
    | cons g gs ih => simp only [encG, List.flatMap_cons, List.length_append, be_length, List.length_cons] at ih ⊢; omega
  have ed : ∀ (ds : List Int), (encDs ds).length = 4 * ds.length := fun ds => by
    induction ds with
    | nil => rfl
    | cons g gs ih => simp only [encDs, List.flatMap_cons, List.length_append, be_length, List.length_cons] at ih ⊢; omega
  simp only [encD, List.length_append, be_length, el, ed]
theorem up_of_new {w w6 : World} {o : Obj} (HX : Out (fun k => blk? (some ⟨w.heap.size, 0, none⟩) = some k) (w.alloc o) w6) : Up w w6 := Below.out (up_alloc w o) HX (fun q hq => by
  have e : w.heap.size = q := by simpa [blk?] using hq
  omega) (by simp)
/-- A row without elements. -/
theorem own_new (E : TypeId) (s : Nat) (w : World) (B : Nat) (hB : B ≤ w.heap.size) : (w.alloc (.cells #[] E)).ownsRow B E s (.slice (some ⟨w.heap.size, 0, none⟩) 0 0) 0 [] :=
  ⟨by simp, .inr ⟨w.heap.size, 0, #[], rfl, hB, heap_alloc_new w _, Nat.le_refl _, Nat.zero_le _, by simp, by simp⟩⟩
set_option maxRecDepth 1000000 in
set_option maxHeartbeats 8000000 in
theorem law_heards (h : Ck.Hrd) (A B : Option Addr) (n c m d : Nat) (x : ChB) (w : World) (hg : InG w A n c h.gaps) (hd : InD w B m d h.dups) (ho : Ck.HrdOk h) (hn : n * 4 ≤ 140737488351232) (hm : m * 4 ≤ 140737488351232) (hx : ChIn w x) : Calls Try.prog 8 #[heV h (.slice A n c) (.slice B m d), chV x.ty x.fl (.slice x.A x.n x.c)] w (RetB true w) := by
  obtain ⟨W, hW⟩ : ∃ W, W = (w.alloc (.cells #[.int .u32 h.cum, .int .u32 h.win, .slice A n c, .slice B m d] 59)).alloc (.cells #[.int .u8 x.ty, .int .u8 x.fl, .slice x.A x.n x.c] 41) := ⟨_, rfl⟩
  have u1 := up_alloc w (.cells #[.int .u32 h.cum, .int .u32 h.win, .slice A n c, .slice B m d] 59)
  have a1 := new_at w (.cells #[.int .u32 h.cum, .int .u32 h.win, .slice A n c, .slice B m d] 59)
  have u2 := up_alloc (w.alloc (.cells #[.int .u32 h.cum, .int .u32 h.win, .slice A n c, .slice B m d] 59)) (.cells #[.int .u8 x.ty, .int .u8 x.fl, .slice x.A x.n x.c] 41)
  have a2 := new_at (w.alloc (.cells #[.int .u32 h.cum, .int .u32 h.win, .slice A n c, .slice B m d] 59)) (.cells #[.int .u8 x.ty, .int .u8 x.fl, .slice x.A x.n x.c] 41)
  have b1 := (u2.block _ (lt_of_blk a1)).trans a1
  have s1 : (w.alloc (.cells #[.int .u32 h.cum, .int .u32 h.win, .slice A n c, .slice B m d] 59)).heap.size = w.heap.size + 1 := by simp
  rw [s1] at a2
  have HS := Lib.hid (show ((w.alloc (.cells #[.int .u32 h.cum, .int .u32 h.win, .slice A n c, .slice B m d] 59)).alloc (.cells #[.int .u8 x.ty, .int .u8 x.fl, .slice x.A x.n x.c] 41)).heap.size = w.heap.size + 1 + 1 by simp)
  have HU := Lib.hid (u1.trans u2)
  rw [← hW] at a2 b1 HU HS
  have HW := Lib.hid hW
  have HQ := Lib.hid a2
  have HB := Lib.hid b1
  have c0 := cell_of b1 (j := 0) rfl
  have c1 := cell_of b1 (j := 1) rfl
  have c2 := cell_of b1 (j := 2) rfl
  have c3 := cell_of b1 (j := 3) rfl
  clear u1 a1 u2 a2 b1 s1 hW
  have HG := Lib.hid hg
  have HD := Lib.hid hd
  have HO := Lib.hid ho
  have HX := Lib.hid hx
  clear hg hd ho hx
  unfold heV chV
  go_enter Try.func8, Try.ntmps8
  go_upto_region 2 with (fail)
  rw [← HW.out]
  have hal := up_alloc W (.cells #[.int .u32 h.cum, .int .u32 h.win, .slice A n c, .slice B m d] 59)
  have UA := Lib.hid hal
  have BI := Lib.hid (new_at W (.cells #[.int .u32 h.cum, .int .u32 h.win, .slice A n c, .slice B m d] 59))
  have BHA := Lib.hid ((hal.block _ (lt_of_blk HB.out)).trans HB.out)
  have HGN := Lib.hid (HG.out.up (HU.out.trans hal))
  have HDN := Lib.hid (HD.out.up (HU.out.trans hal))
  clear hal c0 c1 c2 c3
  rw [HS.out] at BI
  have hpw0 := Lib.hid (show w.heap.size + 1 + 1 < (W.alloc (.cells #[.int .u32 h.cum, .int .u32 h.win, .slice A n c, .slice B m d] 59)).heap.size by have := HS.out; simp; omega)
  generalize W.alloc (.cells #[.int .u32 h.cum, .int .u32 h.win, .slice A n c, .slice B m d] 59) = wa at UA BI BHA HGN HDN hpw0 ⊢
  have hpw : w.heap.size + 1 + 1 < wa.heap.size := hpw0.out
  have hpw2 : w.heap.size < wa.heap.size := by omega
  have HPWA := Lib.hid hpw
  have z5 := cell_of BHA.out (j := 2) rfl
  go_upto_region 3 with (at_builtin; refine wpList_appendG rfl (.tmp 17) (.tmp 19) 56 rfl wa.heap.size 93 (.agg #[.int .u16 0, .int .u16 0]) 2 4 Try.underlying56 info93 rfl (by decide) (some ⟨wa.heap.size, 0, none⟩) 0 0 [] rfl (own_new 93 2 wa _ (Nat.le_refl _)) A n c (gapc h.gaps) rfl (by rw [gapc_length, HGN.out.len]) (HGN.out.cells.up (up_alloc _ _)) (gapc_one _) (by omega) (by omega) (by simp) ?_; intro A6 N6 c6 w6 HN6 HW6 HX6 HK6; have HB6 := Lib.hid (up_of_new HX6.out); have hc6 := (HB6.out.block _ hpw).trans BI.out; have z6 := cell_of hc6 (j := 2) rfl; have y6 := frozen_at (j := 2) hc6)
  have hst := setCell_out w6 (w.heap.size + 1 + 1) 2 (.slice A6 N6 c6)
  have BI7 := Lib.hid (show (w6.setCell ⟨w.heap.size + 1 + 1, 2, none⟩ (.slice A6 N6 c6)).heap[w.heap.size + 1 + 1]? = some (.cells #[.int .u32 h.cum, .int .u32 h.win, .slice A6 N6 c6, .slice B m d] 59 (0, 0)) from (setCell_at (j := 2) (.slice A6 N6 c6) hc6).trans rfl)
  have HRB := Lib.hid (show ∀ q, blk? A6 = some q → wa.heap.size ≤ q from fun q hq => (row_lt HW6.out hq).1)
  have HC7 := Lib.hid (show Cells (w6.setCell ⟨w.heap.size + 1 + 1, 2, none⟩ (.slice A6 N6 c6)) A6 (gapc h.gaps) by
    have h0 := row_cells HW6.out
    rw [List.nil_append] at h0
    exact h0.outS hst (fun q hq e => by have h1 := HRB.out q hq; have e1 : q = w.heap.size + 1 + 1 := e; omega))
  have U7 := Lib.hid (show Up W (w6.setCell ⟨w.heap.size + 1 + 1, 2, none⟩ (.slice A6 N6 c6)) from Below.out (UA.out.trans HB6.out) hst (fun q hq => by rw [hq, HS.out]; exact Nat.le_refl _) (UA.out.trans HB6.out).size)
  have HCAP := Lib.hid (row_cap HW6.out)
  have HN7 := Lib.hid (show N6 = n by have := HN6.out; omega)
  have hpx0 : w.heap.size + 1 + 1 < (w6.setCell ⟨w.heap.size + 1 + 1, 2, none⟩ (.slice A6 N6 c6)).heap.size := Nat.lt_of_lt_of_le hpw (Nat.le_trans HB6.out.size hst.size)
  have HDN7 := Lib.hid (show InD (w6.setCell ⟨w.heap.size + 1 + 1, 2, none⟩ (.slice A6 N6 c6)) B m d h.dups from HD.out.up (HU.out.trans U7.out))
  have BHB := Lib.hid ((U7.out.block _ (lt_of_blk HB.out)).trans HB.out)
  clear z5 z6 y6 hc6 HW6 HX6 HK6 HB6 HN6 BI BHA UA HGN HDN hpw hpw2 hpw0
  generalize w6.setCell ⟨w.heap.size + 1 + 1, 2, none⟩ (.slice A6 N6 c6) = wb at hst BI7 HC7 U7 hpx0 HDN7 BHB ⊢
  clear hst
  have hpx := hpx0
  have hpx2 : w.heap.size < wb.heap.size := by omega
  have z5 := cell_of BHB.out (j := 3) rfl
  go_upto_region 4 with (at_builtin; refine wpList_appendG rfl (.tmp 22) (.tmp 24) 57 rfl wb.heap.size 36 (.int .u32 0) 1 4 Try.underlying57 info36 rfl (by decide) (some ⟨wb.heap.size, 0, none⟩) 0 0 [] rfl (own_new 36 1 wb _ (Nat.le_refl _)) B m d (ints .u32 h.dups) rfl (by rw [ints_length, HDN7.out.len, Nat.mul_one]) (HDN7.out.cells.up (up_alloc _ _)) (ints_one .u32 _) (by omega) (by omega) (by simp) ?_; intro B6 M6 d6 w8 HN6 HW6 HX6 HK6; have HB6 := Lib.hid (up_of_new HX6.out); have hc6 := (HB6.out.block _ hpx).trans BI7.out; have z6 := cell_of hc6 (j := 3) rfl; have y6 := frozen_at (j := 3) hc6)
  have hst := setCell_out w8 (w.heap.size + 1 + 1) 3 (.slice B6 M6 d6)
  have BI8 := Lib.hid (show (w8.setCell ⟨w.heap.size + 1 + 1, 3, none⟩ (.slice B6 M6 d6)).heap[w.heap.size + 1 + 1]? = some (.cells #[.int .u32 h.cum, .int .u32 h.win, .slice A6 N6 c6, .slice B6 M6 d6] 59 (0, 0)) from (setCell_at (j := 3) (.slice B6 M6 d6) hc6).trans rfl)
  have HRB2 := Lib.hid (show ∀ q, blk? B6 = some q → wb.heap.size ≤ q from fun q hq => (row_lt HW6.out hq).1)
  have HC8 := Lib.hid (show Cells (w8.setCell ⟨w.heap.size + 1 + 1, 3, none⟩ (.slice B6 M6 d6)) B6 (ints .u32 h.dups) by
    have h0 := row_cells HW6.out
    rw [List.nil_append] at h0
    exact h0.outS hst (fun q hq e => by have h1 := HRB2.out q hq; have e1 : q = w.heap.size + 1 + 1 := e; omega))
  have HC7' := Lib.hid (show Cells (w8.setCell ⟨w.heap.size + 1 + 1, 3, none⟩ (.slice B6 M6 d6)) A6 (gapc h.gaps) from ((HC7.out.up HB6.out).outS hst (fun q hq e => by have h1 := HRB.out q hq; have e1 : q = w.heap.size + 1 + 1 := e; have := HPWA.out; omega)))
  have U8 := Lib.hid (show Up W (w8.setCell ⟨w.heap.size + 1 + 1, 3, none⟩ (.slice B6 M6 d6)) from Below.out (U7.out.trans HB6.out) hst (fun q hq => by rw [hq, HS.out]; exact Nat.le_refl _) (U7.out.trans HB6.out).size)
  have HCAP2 := Lib.hid (row_cap HW6.out)
  have HM7 := Lib.hid (show M6 = m by have := HN6.out; omega)
  clear z5 z6 y6 hc6 HW6 HX6 HK6 HB6 HN6 BI7 HC7 BHB HDN7 hpx hpx2 hpx0
  generalize w8.setCell ⟨w.heap.size + 1 + 1, 3, none⟩ (.slice B6 M6 d6) = w7 at hst BI8 HC8 HC7' U8 ⊢
  clear hst U7
  have U7 := U8
  have BI7 := BI8
  have HG7 := Lib.hid (show InG w7 A6 N6 c6 h.gaps from ⟨HC7'.out, HG.out.ok, HCAP.out, by rw [HN7.out]; exact HG.out.len⟩)
  have HD7 := Lib.hid (show InD w7 B6 M6 d6 h.dups from ⟨HC8.out, HD.out.ok, HCAP2.out, by rw [HM7.out]; exact HD.out.len⟩)
  have hN6 := Lib.hid (show N6 ≤ 140737488351232 by rw [HN7.out]; omega)
  have hM6 := Lib.hid (show M6 ≤ 140737488351232 by rw [HM7.out]; omega)
  have BH7 := Lib.hid ((U7.out.block _ (lt_of_blk HB.out)).trans HB.out)
  have BC7 := Lib.hid ((U7.out.block _ (lt_of_blk HQ.out)).trans HQ.out)
  have V7 := Lib.hid (HU.out.trans U7.out)
  clear HCAP HCAP2 HN7 HM7 HRB HRB2 HC8 HC7' BI8 U8 HPWA
  have m0 := cell_of BI7.out (j := 0) rfl
  have m1 := cell_of BI7.out (j := 1) rfl
  have m2 := cell_of BI7.out (j := 2) rfl
  have m3 := cell_of BI7.out (j := 3) rfl
  by_cases hk : Ck.chkD h = 0
  · have HK := Lib.hid hk
    clear hk
    go_wp2_with fail
    refine (fromD_ok h A6 B6 N6 c6 M6 d6 w7 HG7.out HD7.out HK.out HO.out).mono ?_
    rintro e s1 ⟨A8, N8, c8, rfl, hN8, hO8, hu8⟩
    have U8 := Lib.hid (V7.out.trans hu8.out)
    have BH8 := Lib.hid ((hu8.out.block _ (lt_of_blk BH7.out)).trans BH7.out)
    have BC8 := Lib.hid ((hu8.out.block _ (lt_of_blk BC7.out)).trans BC7.out)
    have HI8 := Lib.hid (own_inB hO8.out (byt_encD h))
    clear m0 m1 m2 m3 hu8 hO8 BH7 BC7 V7 HG7 HD7 BI7 hN8
    unfold chV
    go_upto_region 5 with (fail)
    have hal := up_alloc s1 (.cells #[.int .u8 3, .int .u8 0, .slice A8 N8 c8] 41)
    have U9 := Lib.hid (U8.out.trans hal)
    have BH9 := Lib.hid ((hal.block _ (lt_of_blk BH8.out)).trans BH8.out)
    have BC9 := Lib.hid ((hal.block _ (lt_of_blk BC8.out)).trans BC8.out)
    have BX9 := Lib.hid (new_at s1 (.cells #[.int .u8 3, .int .u8 0, .slice A8 N8 c8] 41))
    have HI9 := Lib.hid (HI8.out.up hal)
    clear hal
    generalize s1.alloc (.cells #[.int .u8 3, .int .u8 0, .slice A8 N8 c8] 41) = s2 at U9 BH9 BC9 BX9 HI9 ⊢
    generalize s1.heap.size = px at BX9 ⊢
    clear U8 BH8 BC8 HI8
    have m0 := cell_of BH9.out (j := 0) rfl
    have m1 := cell_of BH9.out (j := 1) rfl
    have m2 := cell_of BH9.out (j := 2) rfl
    have m3 := cell_of BH9.out (j := 3) rfl
    go_wp2_with fail
    refine (rfromD_ok h A B n c m d s2 (HG.out.up U9.out) (HD.out.up U9.out) HK.out HO.out).mono ?_
    rintro e s3 ⟨Aa, Na, ca, rfl, hNa, hOa, hua⟩
    have Ua := Lib.hid (U9.out.trans hua.out)
    have BHa := Lib.hid ((hua.out.block _ (lt_of_blk BH9.out)).trans BH9.out)
    have BCa := Lib.hid ((hua.out.block _ (lt_of_blk BC9.out)).trans BC9.out)
    have BXa := Lib.hid ((hua.out.block _ (lt_of_blk BX9.out)).trans BX9.out)
    have HIa := Lib.hid (HI9.out.up hua.out)
    have HIA := Lib.hid (own_inB hOa.out (byt_encD h))
    clear m0 m1 m2 m3 hua hOa hNa U9 BH9 BC9 BX9 HI9
    unfold chV
    go_upto_region 6 with (fail)
    have hal := up_alloc s3 (.cells #[.int .u8 3, .int .u8 0, .slice Aa Na ca] 41)
    have Ub := Lib.hid (Ua.out.trans hal)
    have BHb := Lib.hid ((hal.block _ (lt_of_blk BHa.out)).trans BHa.out)
    have BCb := Lib.hid ((hal.block _ (lt_of_blk BCa.out)).trans BCa.out)
    have BXb := Lib.hid ((hal.block _ (lt_of_blk BXa.out)).trans BXa.out)
    have BYb := Lib.hid (new_at s3 (.cells #[.int .u8 3, .int .u8 0, .slice Aa Na ca] 41))
    have HIb := Lib.hid (HIa.out.up hal)
    have HIB := Lib.hid (HIA.out.up hal)
    clear hal
    generalize s3.alloc (.cells #[.int .u8 3, .int .u8 0, .slice Aa Na ca] 41) = s4 at Ub BHb BCb BXb BYb HIb HIB ⊢
    generalize s3.heap.size = py at BYb ⊢
    clear Ua BHa BCa BXa HIa HIA
    go_wp2_with fail
    refine (answers_ok s4).mono ?_
    rintro e s5 ⟨rfl, huc⟩
    have Uc := Lib.hid (Ub.out.trans huc.out)
    have BHc := Lib.hid ((huc.out.block _ (lt_of_blk BHb.out)).trans BHb.out)
    have BCc := Lib.hid ((huc.out.block _ (lt_of_blk BCb.out)).trans BCb.out)
    have BXc := Lib.hid ((huc.out.block _ (lt_of_blk BXb.out)).trans BXb.out)
    have BYc := Lib.hid ((huc.out.block _ (lt_of_blk BYb.out)).trans BYb.out)
    have HIc := Lib.hid (HIb.out.up huc.out)
    have HIC := Lib.hid (HIB.out.up huc.out)
    clear huc Ub BHb BCb BXb BYb HIb HIB
    have m0 := cell_of BXc.out (j := 0) rfl
    have m1 := cell_of BXc.out (j := 1) rfl
    have m2 := cell_of BXc.out (j := 2) rfl
    have j0 := cell_of BYc.out (j := 0) rfl
    have j1 := cell_of BYc.out (j := 1) rfl
    have j2 := cell_of BYc.out (j := 2) rfl
    go_wp2_with fail
    refine (sameC ⟨3, 0, encD h⟩ ⟨3, 0, encD h⟩ A8 Aa N8 Na c8 ca s5 HIc.out HIC.out).mono ?_
    rintro e s6 ⟨rfl, hud⟩
    rw [decide_eq_true (rfl : (⟨3, 0, encD h⟩ : Ck.Chk) = ⟨3, 0, encD h⟩)]
    have Ud := Lib.hid (Uc.out.trans hud.out)
    have BHd := Lib.hid ((hud.out.block _ (lt_of_blk BHc.out)).trans BHc.out)
    have BCd := Lib.hid ((hud.out.block _ (lt_of_blk BCc.out)).trans BCc.out)
    have BXd := Lib.hid ((hud.out.block _ (lt_of_blk BXc.out)).trans BXc.out)
    have HId := Lib.hid (HIc.out.up hud.out)
    clear m0 m1 m2 j0 j1 j2 hud Uc BHc BCc BXc BYc HIc HIC
    have m0 := cell_of BXd.out (j := 0) rfl
    have m1 := cell_of BXd.out (j := 1) rfl
    have m2 := cell_of BXd.out (j := 2) rfl
    have hN8 : N8 ≤ 140737488351232 := by
      have h1 := HId.out.len
      have h3 : (encD h).length ≤ 1000 := by have h2 := chkD_zero HK.out; have h4 := encD_len h; omega
      omega
    go_wp2_with fail
    refine (toD_any A8 N8 c8 3 0 (encD h) s6 HId.out hN8).mono ?_
    rintro e s7 ⟨h', k', Ae, Ne, ce, Be, Me, de, rfl, hre, hoe, hbe, -, -, hue⟩
    have hQ5 := Lib.hid (hdRes_len hre.out hoe.out.len hbe.out.len)
    obtain ⟨rfl, rfl⟩ := hrd_ok_res HK.out HO.out hre.out
    have Ue := Lib.hid (Ud.out.trans hue.out)
    have BHe := Lib.hid ((hue.out.block _ (lt_of_blk BHd.out)).trans BHd.out)
    have BCe := Lib.hid ((hue.out.block _ (lt_of_blk BCd.out)).trans BCd.out)
    have HIe := Lib.hid (And.intro hoe.out hbe.out)
    clear m0 m1 m2 hue hoe hbe hre Ud BHd BCd BXd HId hN8
    unfold heV
    go_upto_region 10 with (fail)
    have hal := up_alloc s7 (.cells #[.int .u32 h'.cum, .int .u32 h'.win, .slice Ae Ne ce, .slice Be Me de] 59)
    have Uf := Lib.hid (Ue.out.trans hal)
    have BHf := Lib.hid ((hal.block _ (lt_of_blk BHe.out)).trans BHe.out)
    have BCf := Lib.hid ((hal.block _ (lt_of_blk BCe.out)).trans BCe.out)
    have BBf := Lib.hid (new_at s7 (.cells #[.int .u32 h'.cum, .int .u32 h'.win, .slice Ae Ne ce, .slice Be Me de] 59))
    have HIf := Lib.hid (And.intro (HIe.out.1.up hal) (HIe.out.2.up hal))
    clear hal
    generalize s7.alloc (.cells #[.int .u32 h'.cum, .int .u32 h'.win, .slice Ae Ne ce, .slice Be Me de] 59) = s8 at Uf BHf BCf BBf HIf ⊢
    generalize s7.heap.size = pz at BBf ⊢
    clear Ue BHe BCe HIe
    have m0 := cell_of BHf.out (j := 0) rfl
    have m1 := cell_of BHf.out (j := 1) rfl
    have m2 := cell_of BHf.out (j := 2) rfl
    have m3 := cell_of BHf.out (j := 3) rfl
    have j0 := cell_of BBf.out (j := 0) rfl
    have j1 := cell_of BBf.out (j := 1) rfl
    have j2 := cell_of BBf.out (j := 2) rfl
    have j3 := cell_of BBf.out (j := 3) rfl
    go_wp2_with fail
    refine (sameD h' h' Ae Be A B Ne ce Me de n c m d s8 HIf.out.1 HIf.out.2 (HG.out.up Uf.out) (HD.out.up Uf.out) hQ5.out.1 hQ5.out.2 (by omega) (by omega)).mono ?_
    rintro e s9 ⟨rfl, hug⟩
    rw [decide_eq_true (rfl : h' = h')]
    have UV := Lib.hid (Uf.out.trans hug.out)
    have BC := Lib.hid ((hug.out.block _ (lt_of_blk BCf.out)).trans BCf.out)
    clear m0 m1 m2 m3 j0 j1 j2 j3 hug Uf BHf BCf BBf HIf
    have m0 := cell_of BC.out (j := 0) rfl
    have m1 := cell_of BC.out (j := 1) rfl
    have m2 := cell_of BC.out (j := 2) rfl
    have hn := new_at s9 (.cells #[.int .u8 x.ty, .int .u8 x.fl, .slice x.A x.n x.c] 41)
    have hua := up_alloc s9 (.cells #[.int .u8 x.ty, .int .u8 x.fl, .slice x.A x.n x.c] 41)
    have HN := Lib.hid hn
    have HUA := Lib.hid hua
    clear hn hua
    go_wp2_with fail
    refine (own1 x s9.heap.size _ (HX.out.up (UV.out.trans HUA.out)) HN.out).mono ?_
    rintro e r1 ⟨q1, c1', A1, n1, c1, rfl, hcs, hib, hnn, huo⟩
    have j0 := hcs.out.1
    have j1 := hcs.out.2.1
    have j2 := hcs.out.2.2
    have U1 := Lib.hid ((UV.out.trans HUA.out).trans huo.out)
    have BC1 := Lib.hid (((HUA.out.trans huo.out).block _ (lt_of_blk BC.out)).trans BC.out)
    clear m0 m1 m2 HN HUA huo hcs
    go_wp2_with fail
    refine (toD_any A1 n1 c1 x.ty x.fl x.bs r1 hib.out hnn.out).mono ?_
    rintro e r2 ⟨g1, k1, B1, l1, d1, E1, p1, f1, rfl, hr1, ho1, hb1, -, -, huz⟩
    have ho1L := Lib.hid ho1.out.len
    have hb1L := Lib.hid hb1.out.len
    have HIB1 := Lib.hid (And.intro ho1.out hb1.out)
    have U2 := Lib.hid (U1.out.trans huz.out)
    have BC2 := Lib.hid ((huz.out.block _ (lt_of_blk BC1.out)).trans BC1.out)
    clear j0 j1 j2 huz hib hnn ho1 hb1
    unfold heV
    go_upto_region 13 with (fail)
    have hal := up_alloc r2 (.cells #[.int .u32 g1.cum, .int .u32 g1.win, .slice B1 l1 d1, .slice E1 p1 f1] 59)
    have U3 := Lib.hid (U2.out.trans hal)
    have BC3 := Lib.hid ((hal.block _ (lt_of_blk BC2.out)).trans BC2.out)
    have BG3 := Lib.hid (new_at r2 (.cells #[.int .u32 g1.cum, .int .u32 g1.win, .slice B1 l1 d1, .slice E1 p1 f1] 59))
    have HIB3 := Lib.hid (And.intro (HIB1.out.1.up hal) (HIB1.out.2.up hal))
    clear hal
    generalize r2.alloc (.cells #[.int .u32 g1.cum, .int .u32 g1.win, .slice B1 l1 d1, .slice E1 p1 f1] 59) = r3 at U3 BC3 BG3 HIB3 ⊢
    generalize r2.heap.size = pg at BG3 ⊢
    clear U1 U2 BC1 BC2 HIB1
    have m0 := cell_of BC3.out (j := 0) rfl
    have m1 := cell_of BC3.out (j := 1) rfl
    have m2 := cell_of BC3.out (j := 2) rfl
    go_wp2_with fail
    refine (rtoD_any x.A x.n x.c x.ty x.fl x.bs r3 (HX.out.inb.up U3.out) HX.out.n).mono ?_
    rintro e r4 ⟨g2, k2, B2, l2, d2, E2, p2, f2, rfl, hr2, ho2, hb2, -, -, huz⟩
    have hQ1 := Lib.hid (hdRes_len hr1.out ho1L.out hb1L.out).1
    have hQ2 := Lib.hid (hdRes_len hr1.out ho1L.out hb1L.out).2
    have hQ3 := Lib.hid (hdRes_len hr2.out ho2.out.len hb2.out.len).1
    have hQ4 := Lib.hid (hdRes_len hr2.out ho2.out.len hb2.out.len).2
    obtain ⟨rfl, rfl⟩ := hdRes_inj hr1.out hr2.out
    have HIB4 := Lib.hid (And.intro ho2.out hb2.out)
    have U4 := Lib.hid (U3.out.trans huz.out)
    have BG4 := Lib.hid ((huz.out.block _ (lt_of_blk BG3.out)).trans BG3.out)
    have HIB3' := Lib.hid (And.intro (HIB3.out.1.up huz.out) (HIB3.out.2.up huz.out))
    clear m0 m1 m2 huz ho2 hb2 hr1 hr2 HIB3 U3 BC3 BG3
    unfold heV
    go_upto_region 14 with (fail)
    have hal := up_alloc r4 (.cells #[.int .u32 g1.cum, .int .u32 g1.win, .slice B2 l2 d2, .slice E2 p2 f2] 59)
    have U5 := Lib.hid (U4.out.trans hal)
    have BG5 := Lib.hid ((hal.block _ (lt_of_blk BG4.out)).trans BG4.out)
    have BK5 := Lib.hid (new_at r4 (.cells #[.int .u32 g1.cum, .int .u32 g1.win, .slice B2 l2 d2, .slice E2 p2 f2] 59))
    have HIB5 := Lib.hid (And.intro (HIB3'.out.1.up hal) (HIB3'.out.2.up hal))
    have HIB6 := Lib.hid (And.intro (HIB4.out.1.up hal) (HIB4.out.2.up hal))
    clear hal
    generalize r4.alloc (.cells #[.int .u32 g1.cum, .int .u32 g1.win, .slice B2 l2 d2, .slice E2 p2 f2] 59) = r5 at U5 BG5 BK5 HIB5 HIB6 ⊢
    generalize r4.heap.size = pk at BK5 ⊢
    clear U4 BG4 HIB3' HIB4
    have m0 := cell_of BG5.out (j := 0) rfl
    have m1 := cell_of BG5.out (j := 1) rfl
    have m2 := cell_of BG5.out (j := 2) rfl
    have m3 := cell_of BG5.out (j := 3) rfl
    have j0 := cell_of BK5.out (j := 0) rfl
    have j1 := cell_of BK5.out (j := 1) rfl
    have j2 := cell_of BK5.out (j := 2) rfl
    have j3 := cell_of BK5.out (j := 3) rfl
    go_wp2_with fail
    refine (sameD g1 g1 B1 E1 B2 E2 l1 d1 p1 f1 l2 d2 p2 f2 r5 HIB5.out.1 HIB5.out.2 HIB6.out.1 HIB6.out.2 hQ1.out hQ2.out hQ3.out hQ4.out).mono ?_
    rintro e r6 ⟨rfl, hu6⟩
    rw [decide_eq_true (rfl : g1 = g1)]
    have U6 := Lib.hid (U5.out.trans hu6.out)
    clear m0 m1 m2 m3 j0 j1 j2 j3
    go_wp2_with fail
    go_ret
    exact ⟨by simp, U6⟩
  · have HK := Lib.hid hk
    have hkv := (chkD_val h).resolve_left hk
    obtain ⟨kk, hkk⟩ : ∃ kk, kk = Ck.chkD h := ⟨_, rfl⟩
    have HKK := Lib.hid hkk
    have hkb : (kk == 0) = false := by rw [beq_eq_false_iff_ne, hkk]; exact hk
    have HKV := Lib.hid (show kk = 2 ∨ kk = 4 by rw [hkk]; exact hkv)
    clear hk hkv hkk
    go_wp2_with fail
    refine (fromD_err h A6 B6 N6 c6 M6 d6 kk w7 HG7.out hN6.out HD7.out.len.symm hM6.out HKK.out.symm HKV.out).mono ?_
    rintro e s1 ⟨rfl, hu8⟩
    have U8 := Lib.hid (V7.out.trans hu8.out)
    have BH8 := Lib.hid ((hu8.out.block _ (lt_of_blk BH7.out)).trans BH7.out)
    have BC8 := Lib.hid ((hu8.out.block _ (lt_of_blk BC7.out)).trans BC7.out)
    clear m0 m1 m2 m3 hu8 BH7 BC7 V7 HG7 HD7 BI7
    unfold chV
    go_upto_region 5 with (fail)
    have hal := up_alloc s1 (.cells #[.int .u8 0, .int .u8 0, .slice none 0 0] 41)
    have U9 := Lib.hid (U8.out.trans hal)
    have BH9 := Lib.hid ((hal.block _ (lt_of_blk BH8.out)).trans BH8.out)
    have BC9 := Lib.hid ((hal.block _ (lt_of_blk BC8.out)).trans BC8.out)
    have BX9 := Lib.hid (new_at s1 (.cells #[.int .u8 0, .int .u8 0, .slice none 0 0] 41))
    clear hal
    generalize s1.alloc (.cells #[.int .u8 0, .int .u8 0, .slice none 0 0] 41) = s2 at U9 BH9 BC9 BX9 ⊢
    generalize s1.heap.size = px at BX9 ⊢
    clear U8 BH8 BC8
    have m0 := cell_of BH9.out (j := 0) rfl
    have m1 := cell_of BH9.out (j := 1) rfl
    have m2 := cell_of BH9.out (j := 2) rfl
    have m3 := cell_of BH9.out (j := 3) rfl
    go_wp2_with fail
    refine (rfromD_err h A B n c m d kk s2 (HG.out.up U9.out) (by omega) HD.out.len.symm (by omega) HKK.out.symm HKV.out).mono ?_
    rintro e s3 ⟨rfl, hua⟩
    have Ua := Lib.hid (U9.out.trans hua.out)
    have BCa := Lib.hid ((hua.out.block _ (lt_of_blk BC9.out)).trans BC9.out)
    have BXa := Lib.hid ((hua.out.block _ (lt_of_blk BX9.out)).trans BX9.out)
    clear m0 m1 m2 m3 hua U9 BH9 BC9 BX9
    unfold chV
    go_upto_region 6 with (fail)
    have hal := up_alloc s3 (.cells #[.int .u8 0, .int .u8 0, .slice none 0 0] 41)
    have Ub := Lib.hid (Ua.out.trans hal)
    have BCb := Lib.hid ((hal.block _ (lt_of_blk BCa.out)).trans BCa.out)
    have BXb := Lib.hid ((hal.block _ (lt_of_blk BXa.out)).trans BXa.out)
    have BYb := Lib.hid (new_at s3 (.cells #[.int .u8 0, .int .u8 0, .slice none 0 0] 41))
    clear hal
    generalize s3.alloc (.cells #[.int .u8 0, .int .u8 0, .slice none 0 0] 41) = s4 at Ub BCb BXb BYb ⊢
    generalize s3.heap.size = py at BYb ⊢
    clear Ua BCa BXa
    go_wp2_with fail
    refine (answers_ok s4).mono ?_
    rintro e s5 ⟨rfl, huc⟩
    have Uc := Lib.hid (Ub.out.trans huc.out)
    have BCc := Lib.hid ((huc.out.block _ (lt_of_blk BCb.out)).trans BCb.out)
    have BXc := Lib.hid ((huc.out.block _ (lt_of_blk BXb.out)).trans BXb.out)
    have BYc := Lib.hid ((huc.out.block _ (lt_of_blk BYb.out)).trans BYb.out)
    clear huc Ub BCb BXb BYb
    have m0 := cell_of BXc.out (j := 0) rfl
    have m1 := cell_of BXc.out (j := 1) rfl
    have m2 := cell_of BXc.out (j := 2) rfl
    have j0 := cell_of BYc.out (j := 0) rfl
    have j1 := cell_of BYc.out (j := 1) rfl
    have j2 := cell_of BYc.out (j := 2) rfl
    go_wp2_with fail
    refine (sameC ⟨0, 0, []⟩ ⟨0, 0, []⟩ none none 0 0 0 0 s5 (inB_nil _) (inB_nil _)).mono ?_
    rintro e s6 ⟨rfl, hud⟩
    rw [decide_eq_true (rfl : (⟨0, 0, []⟩ : Ck.Chk) = ⟨0, 0, []⟩)]
    have UV := Lib.hid (Uc.out.trans hud.out)
    have BC := Lib.hid ((hud.out.block _ (lt_of_blk BCc.out)).trans BCc.out)
    clear m0 m1 m2 j0 j1 j2 hud Uc BCc BXc BYc
    go_upto_region 12 with (fail)
    have m0 := cell_of BC.out (j := 0) rfl
    have m1 := cell_of BC.out (j := 1) rfl
    have m2 := cell_of BC.out (j := 2) rfl
    have hn := new_at s6 (.cells #[.int .u8 x.ty, .int .u8 x.fl, .slice x.A x.n x.c] 41)
    have hua := up_alloc s6 (.cells #[.int .u8 x.ty, .int .u8 x.fl, .slice x.A x.n x.c] 41)
    have HN := Lib.hid hn
    have HUA := Lib.hid hua
    clear hn hua
    go_wp2_with fail
    refine (own1 x s6.heap.size _ (HX.out.up (UV.out.trans HUA.out)) HN.out).mono ?_
    rintro e r1 ⟨q1, c1', A1, n1, c1, rfl, hcs, hib, hnn, huo⟩
    have j0 := hcs.out.1
    have j1 := hcs.out.2.1
    have j2 := hcs.out.2.2
    have U1 := Lib.hid ((UV.out.trans HUA.out).trans huo.out)
    have BC1 := Lib.hid (((HUA.out.trans huo.out).block _ (lt_of_blk BC.out)).trans BC.out)
    clear m0 m1 m2 HN HUA huo hcs
    go_wp2_with fail
    refine (toD_any A1 n1 c1 x.ty x.fl x.bs r1 hib.out hnn.out).mono ?_
    rintro e r2 ⟨g1, k1, B1, l1, d1, E1, p1, f1, rfl, hr1, ho1, hb1, -, -, huz⟩
    have ho1L := Lib.hid ho1.out.len
    have hb1L := Lib.hid hb1.out.len
    have HIB1 := Lib.hid (And.intro ho1.out hb1.out)
    have U2 := Lib.hid (U1.out.trans huz.out)
    have BC2 := Lib.hid ((huz.out.block _ (lt_of_blk BC1.out)).trans BC1.out)
    clear j0 j1 j2 huz hib hnn ho1 hb1
    unfold heV
    go_upto_region 13 with (fail)
    have hal := up_alloc r2 (.cells #[.int .u32 g1.cum, .int .u32 g1.win, .slice B1 l1 d1, .slice E1 p1 f1] 59)
    have U3 := Lib.hid (U2.out.trans hal)
    have BC3 := Lib.hid ((hal.block _ (lt_of_blk BC2.out)).trans BC2.out)
    have BG3 := Lib.hid (new_at r2 (.cells #[.int .u32 g1.cum, .int .u32 g1.win, .slice B1 l1 d1, .slice E1 p1 f1] 59))
    have HIB3 := Lib.hid (And.intro (HIB1.out.1.up hal) (HIB1.out.2.up hal))
    clear hal
    generalize r2.alloc (.cells #[.int .u32 g1.cum, .int .u32 g1.win, .slice B1 l1 d1, .slice E1 p1 f1] 59) = r3 at U3 BC3 BG3 HIB3 ⊢
    generalize r2.heap.size = pg at BG3 ⊢
    clear U1 U2 BC1 BC2 HIB1
    have m0 := cell_of BC3.out (j := 0) rfl
    have m1 := cell_of BC3.out (j := 1) rfl
    have m2 := cell_of BC3.out (j := 2) rfl
    go_wp2_with fail
    refine (rtoD_any x.A x.n x.c x.ty x.fl x.bs r3 (HX.out.inb.up U3.out) HX.out.n).mono ?_
    rintro e r4 ⟨g2, k2, B2, l2, d2, E2, p2, f2, rfl, hr2, ho2, hb2, -, -, huz⟩
    have hQ1 := Lib.hid (hdRes_len hr1.out ho1L.out hb1L.out).1
    have hQ2 := Lib.hid (hdRes_len hr1.out ho1L.out hb1L.out).2
    have hQ3 := Lib.hid (hdRes_len hr2.out ho2.out.len hb2.out.len).1
    have hQ4 := Lib.hid (hdRes_len hr2.out ho2.out.len hb2.out.len).2
    obtain ⟨rfl, rfl⟩ := hdRes_inj hr1.out hr2.out
    have HIB4 := Lib.hid (And.intro ho2.out hb2.out)
    have U4 := Lib.hid (U3.out.trans huz.out)
    have BG4 := Lib.hid ((huz.out.block _ (lt_of_blk BG3.out)).trans BG3.out)
    have HIB3' := Lib.hid (And.intro (HIB3.out.1.up huz.out) (HIB3.out.2.up huz.out))
    clear m0 m1 m2 huz ho2 hb2 hr1 hr2 HIB3 U3 BC3 BG3
    unfold heV
    go_upto_region 14 with (fail)
    have hal := up_alloc r4 (.cells #[.int .u32 g1.cum, .int .u32 g1.win, .slice B2 l2 d2, .slice E2 p2 f2] 59)
    have U5 := Lib.hid (U4.out.trans hal)
    have BG5 := Lib.hid ((hal.block _ (lt_of_blk BG4.out)).trans BG4.out)
    have BK5 := Lib.hid (new_at r4 (.cells #[.int .u32 g1.cum, .int .u32 g1.win, .slice B2 l2 d2, .slice E2 p2 f2] 59))
    have HIB5 := Lib.hid (And.intro (HIB3'.out.1.up hal) (HIB3'.out.2.up hal))
    have HIB6 := Lib.hid (And.intro (HIB4.out.1.up hal) (HIB4.out.2.up hal))
    clear hal
    generalize r4.alloc (.cells #[.int .u32 g1.cum, .int .u32 g1.win, .slice B2 l2 d2, .slice E2 p2 f2] 59) = r5 at U5 BG5 BK5 HIB5 HIB6 ⊢
    generalize r4.heap.size = pk at BK5 ⊢
    clear U4 BG4 HIB3' HIB4
    have m0 := cell_of BG5.out (j := 0) rfl
    have m1 := cell_of BG5.out (j := 1) rfl
    have m2 := cell_of BG5.out (j := 2) rfl
    have m3 := cell_of BG5.out (j := 3) rfl
    have j0 := cell_of BK5.out (j := 0) rfl
    have j1 := cell_of BK5.out (j := 1) rfl
    have j2 := cell_of BK5.out (j := 2) rfl
    have j3 := cell_of BK5.out (j := 3) rfl
    go_wp2_with fail
    refine (sameD g1 g1 B1 E1 B2 E2 l1 d1 p1 f1 l2 d2 p2 f2 r5 HIB5.out.1 HIB5.out.2 HIB6.out.1 HIB6.out.2 hQ1.out hQ2.out hQ3.out hQ4.out).mono ?_
    rintro e r6 ⟨rfl, hu6⟩
    rw [decide_eq_true (rfl : g1 = g1)]
    have U6 := Lib.hid (U5.out.trans hu6.out)
    clear m0 m1 m2 m3 j0 j1 j2 j3
    go_wp2_with fail
    go_ret
    exact ⟨by simp, U6⟩
end Go.Proofs.Ytgikgcepeniekaa

import Derived.Test.YthncpkjnalmpkaaMgR
import Derived.Deep.CutRange
namespace Go.Proofs.Ythncpkjnalmpkaa
open Go Go.RowKit Mg
set_option linter.unusedVariables false
set_option linter.unusedSimpArgs false
/-! The reference's PutMsg. -/
def MPost (m : Msg) (w : World) (e : Ending) (w' : World) : Prop := ∃ ys k A N c, e = .returned (.tuple #[.slice A N c, .int .i64 k]) ∧ Hid (putM m = (ys, k)) ∧ Hid (N = ys.length) ∧ Hid (OwnI .u8 5 w.heap.size w' A N c ys) ∧ Hid (Up w w')
theorem mPost_no {m : Msg} {w w' : World} {e : Ending} {k : Int} (h : e = .returned (.tuple #[.slice none 0 0, .int .i64 k])) (hn : putM m = ([], k)) (hu : Up w w') : MPost m w e w' :=
  ⟨[], k, none, 0, 0, h, Lib.hid hn, Lib.hid rfl, Lib.hid (ownI_nil _ _ _ _), Lib.hid hu⟩
set_option maxRecDepth 100000 in
set_option maxHeartbeats 40000000 in
theorem rputmsg_any (x : MsB) (w : World) (h : MsIn w x) : Calls Try.prog 12 #[msV x] w (MPost x.pure w) := by
  have H := Lib.hid h
  have hc := h.ok.code
  have ha := h.ok.app
  have hh := h.ok.hop
  have he := h.ok.end_
  have hn := h.n
  clear h
  have HP := Lib.hid (show putM x.pure = (if 16777215 < x.code then ([], 11) else if mixM x.pure = true then ([], 2) else if ¬ ((x.avps.map AvB.pure).length ≤ 64 ∧ (encAs (x.avps.map AvB.pure)).length ≤ 4096) then ([], 4) else if 4096 < (encAs (x.avps.map AvB.pure)).length + 20 then ([], 4) else (encM x.pure, 0)) from rfl)
  have hc1 := hc.1; have hc2 := hc.2; have ha1 := ha.1; have ha2 := ha.2; have hh1 := hh.1; have hh2 := hh.2; have he1 := he.1; have he2 := he.2
  change 0 ≤ x.code at hc1; change x.code < _ at hc2; change 0 ≤ x.app at ha1; change x.app < _ at ha2
  change 0 ≤ x.hop at hh1; change x.hop < _ at hh2; change 0 ≤ x.end_ at he1; change x.end_ < _ at he2
  clear hc ha hh he
  have HU := Lib.hid (up_alloc w (msO x))
  have HC := Lib.hid (new_at w (msO x))
  unfold msV
  go_enter Try.func12, Try.ntmps12
  go_upto_region 1 with (fail)
  change Code.wp _ _ _ _ (w.alloc (msO x))
  generalize w.alloc (msO x) = wa at HC HU ⊢
  generalize w.heap.size = pb at HC ⊢
  have HI := Lib.hid (H.out.avs.up HU.out)
  have z4 : wa.cell? ⟨pb, 4, none⟩ = some (.int .u32 x.code) := cell_of HC.out (j := 4) rfl
  by_cases hbig : 16777215 < x.code
  · have e1 : decide (16777215 < x.code) = true := by simp; omega
    go_wp2_with fail
    go_ret2
    exact mPost_no rfl (by rw [HP.out, if_pos hbig]) HU.out
  have e1 : decide (16777215 < x.code) = false := by simp; omega
  have HP := Lib.hid (show putM x.pure = (if mixM x.pure = true then ([], 2) else if ¬ ((x.avps.map AvB.pure).length ≤ 64 ∧ (encAs (x.avps.map AvB.pure)).length ≤ 4096) then ([], 4) else if 4096 < (encAs (x.avps.map AvB.pure)).length + 20 then ([], 4) else (encM x.pure, 0)) by rw [HP.out, if_neg (by omega)])
  go_upto_region 3 with (fail)
  have z0 : wa.cell? ⟨pb, 0, none⟩ = some (.bool x.req) := cell_of HC.out (j := 0) rfl
  have z1 : wa.cell? ⟨pb, 1, none⟩ = some (.bool x.prox) := cell_of HC.out (j := 1) rfl
  have z2 : wa.cell? ⟨pb, 2, none⟩ = some (.bool x.fail) := cell_of HC.out (j := 2) rfl
  have z3 : wa.cell? ⟨pb, 3, none⟩ = some (.bool x.again) := cell_of HC.out (j := 3) rfl
  have z5 : wa.cell? ⟨pb, 5, none⟩ = some (.int .u32 x.app) := cell_of HC.out (j := 5) rfl
  have z6 : wa.cell? ⟨pb, 6, none⟩ = some (.int .u32 x.hop) := cell_of HC.out (j := 6) rfl
  have z7 : wa.cell? ⟨pb, 7, none⟩ = some (.int .u32 x.end_) := cell_of HC.out (j := 7) rfl
  have z8 : wa.cell? ⟨pb, 8, none⟩ = some (.slice x.A x.n x.c) := cell_of HC.out (j := 8) rfl
  cases hmx : mixM x.pure
  case true =>
    go_wp2_with (go_at_call 32; refine (rmixed_any x _).mono ?_; rintro e wb ⟨rfl, hub⟩; rw [hmx])
    go_ret2
    exact mPost_no rfl (by rw [HP.out, if_pos hmx]) (Up.trans HU.out hub)
  case false =>
  have HMX := Lib.hid hmx
  clear hmx
  go_upto_region 5 with (go_at_call 32; refine (rmixed_any x _).mono ?_; rintro e wb ⟨rfl, hub⟩; rw [HMX.out])
  have HCb := Lib.hid (blk_up HC.out hub)
  have HIb := Lib.hid (HI.out.up hub)
  have HUb := Lib.hid (Up.trans HU.out hub)
  have HPb := Lib.hid (lt_of_blk HCb.out)
  clear z0 z1 z2 z3 z4 z5 z6 z7 z8 hub HC HI HU
  have z8 : wb.cell? ⟨pb, 8, none⟩ = some (.slice x.A x.n x.c) := cell_of HCb.out (j := 8) rfl
  go_upto_region 6 with (go_at_call 33; refine (rput_any' x.A x.n x.c x.avps wb HIb.out hn).mono ?_; rintro e wc ⟨ys, k, A1, N1, c1, rfl, hPR, hN, hO, hup⟩)
  have HUc := Lib.hid (Up.trans HUb.out hup.out)
  have HCc := Lib.hid (blk_up HCb.out hup.out)
  have HPc := Lib.hid (Nat.lt_of_lt_of_le HPb.out hup.out.size)
  clear z8
  rcases hPR.out with ⟨rfl, hys, hl64, h4096⟩ | ⟨rfl, hys, hno⟩
  case inr =>
    go_wp2_with fail
    go_ret2
    exact mPost_no rfl (by rw [HP.out, HMX.out, if_neg (by decide), if_pos hno]) HUc.out
  case inl =>
  clear hPR
  subst hys
  have HFIT := Lib.hid (show (List.map AvB.pure x.avps).length ≤ 64 ∧ (encAs (List.map AvB.pure x.avps)).length ≤ 4096 from ⟨hl64, h4096⟩)
  rw [← hN.out] at h4096
  clear hl64
  by_cases hlg : 4096 < N1 + 20
  · have e2 : decide (4096 < ((N1 : Int) + 20)) = true := decide_eq_true (by omega)
    go_wp2_with fail
    go_ret2
    exact mPost_no rfl (by rw [HP.out, HMX.out, if_neg (by decide), if_neg (fun h => h HFIT.out), if_pos (by rw [← hN.out]; omega)]) HUc.out
  have e2 : decide (4096 < ((N1 : Int) + 20)) = false := decide_eq_false (by omega)
  have hN20 : N1 + 20 ≤ 4096 := by omega
  have HV := Lib.hid (show putM x.pure = (encM x.pure, 0) by rw [HP.out, HMX.out, if_neg (by decide), if_neg (fun h => h HFIT.out), if_neg (by rw [← hN.out]; omega)])
  clear HFIT hlg HP
  have z0 : wc.cell? ⟨pb, 0, none⟩ = some (.bool x.req) := cell_of HCc.out (j := 0) rfl
  have z1 : wc.cell? ⟨pb, 1, none⟩ = some (.bool x.prox) := cell_of HCc.out (j := 1) rfl
  have z2 : wc.cell? ⟨pb, 2, none⟩ = some (.bool x.fail) := cell_of HCc.out (j := 2) rfl
  have z3 : wc.cell? ⟨pb, 3, none⟩ = some (.bool x.again) := cell_of HCc.out (j := 3) rfl
  clear hbig
  have HMF := Lib.hid (show msFl x.pure = (if x.req = true then 128 else 0) + (if x.prox = true then 64 else 0) + (if x.fail = true then 32 else 0) + (if x.again = true then 16 else 0) from rfl)
  obtain ⟨b1, HB1⟩ : ∃ b, Hid (x.req = b) := ⟨_, Lib.hid rfl⟩
  obtain ⟨b2, HB2⟩ : ∃ b, Hid (x.prox = b) := ⟨_, Lib.hid rfl⟩
  obtain ⟨b3, HB3⟩ : ∃ b, Hid (x.fail = b) := ⟨_, Lib.hid rfl⟩
  obtain ⟨b4, HB4⟩ : ∃ b, Hid (x.again = b) := ⟨_, Lib.hid rfl⟩
  rw [HB1.out] at z0
  rw [HB2.out] at z1
  rw [HB3.out] at z2
  rw [HB4.out] at z3
  rw [HB1.out, HB2.out, HB3.out, HB4.out] at HMF
  go_upto_if 27 with (fail)
  go_cut [6] (fun v wx => v = .int .i64 ((if b1 = true then (128 : Int) else 0)) ∧ wx = wc)
  case first =>
    cases b1
    all_goals
      go_wp2_with fail
      go_meet
      exact ⟨by simp, rfl⟩
  case rest =>
  obtain ⟨rfl, hw⟩ := hcut
  obtain rfl := hw.symm
  obtain ⟨F1, HF1⟩ : ∃ F : Int, Hid (F = (if b1 = true then (128 : Int) else 0)) := ⟨_, Lib.hid rfl⟩
  rw [← HF1.out]
  have q1 : 0 ≤ F1 ∧ F1 ≤ 128 := by have := HF1.out; cases b1 <;> simp at this <;> omega
  go_upto_if 31 with (fail)
  go_cut [6] (fun v wx => v = .int .i64 (F1 + (if b2 = true then (64 : Int) else 0)) ∧ wx = wc)
  case first =>
    cases b2
    all_goals
      go_wp2_with fail
      go_meet
      exact ⟨by simp, rfl⟩
  case rest =>
  obtain ⟨rfl, hw⟩ := hcut
  obtain rfl := hw.symm
  obtain ⟨F2, HF2⟩ : ∃ F : Int, Hid (F = F1 + (if b2 = true then (64 : Int) else 0)) := ⟨_, Lib.hid rfl⟩
  rw [← HF2.out]
  have q2 : 0 ≤ F2 ∧ F2 ≤ 192 := by have := HF2.out; cases b2 <;> simp at this <;> omega
  go_upto_if 35 with (fail)
  go_cut [6] (fun v wx => v = .int .i64 (F2 + (if b3 = true then (32 : Int) else 0)) ∧ wx = wc)
  case first =>
    cases b3
    all_goals
      go_wp2_with fail
      go_meet
      exact ⟨by simp, rfl⟩
  case rest =>
  obtain ⟨rfl, hw⟩ := hcut
  obtain rfl := hw.symm
  obtain ⟨F3, HF3⟩ : ∃ F : Int, Hid (F = F2 + (if b3 = true then (32 : Int) else 0)) := ⟨_, Lib.hid rfl⟩
  rw [← HF3.out]
  have q3 : 0 ≤ F3 ∧ F3 ≤ 224 := by have := HF3.out; cases b3 <;> simp at this <;> omega
  go_upto_if 39 with (fail)
  go_cut [6] (fun v wx => v = .int .i64 (F3 + (if b4 = true then (16 : Int) else 0)) ∧ wx = wc)
  case first =>
    cases b4
    all_goals
      go_wp2_with fail
      go_meet
      exact ⟨by simp, rfl⟩
  case rest =>
  obtain ⟨rfl, hw⟩ := hcut
  obtain rfl := hw.symm
  obtain ⟨F4, HF4⟩ : ∃ F : Int, Hid (F = F3 + (if b4 = true then (16 : Int) else 0)) := ⟨_, Lib.hid rfl⟩
  rw [← HF4.out]
  have q4 : 0 ≤ F4 ∧ F4 ≤ 240 := by have := HF4.out; cases b4 <;> simp at this <;> omega
  have HFM := Lib.hid (show F4 = msFl x.pure by rw [HMF.out, HF4.out, HF3.out, HF2.out, HF1.out])
  clear HMF HF1 HF2 HF3 HF4 q1 q2 q3 HB1 HB2 HB3 HB4 z0 z1 z2 z3
  obtain ⟨q0, q1⟩ := q4
  have HRB := Lib.hid (show Byt (encAs (List.map AvB.pure x.avps)) from byt_encAs H.out.avs.ok)
  have HR := Lib.hid (own_inB hO.out HRB.out)
  have HSc := Lib.hid HUc.out.size
  have I1 := Lib.hid (show InB (wc.alloc (.cells #[.int .u8 1] 5)) (some ⟨wc.heap.size, 0, none⟩) 1 1 [1] from ⟨cells_one wc 1, by intro y hy; rw [List.mem_singleton] at hy; omega, Nat.le_refl _, rfl⟩)
  clear hO HRB HCb HIb HUb HPb hup h4096 e1 e2
  go_wp2_with fail
  refine (rput (some ⟨wc.heap.size, 0, none⟩) 1 1 3 [1] ((N1 : Int) + 20) _ I1.out (by omega) (by omega) (by omega)).mono ?_
  rintro e wd ⟨A2, N2, c2, rfl, hN2, hO2', hu2⟩
  have HN2 := Lib.hid (show N2 = 4 by rw [hN2, List.length_append, be_length]; rfl)
  have hud : Up wc wd := Up.trans (up_alloc wc _) hu2
  have HUd := Lib.hid (Up.trans HUc.out hud)
  have HSd := Lib.hid HUd.out.size
  have HA2 := Lib.hid (show ∀ k, blk? A2 = some k → wc.heap.size ≤ k from fun k hk => Nat.le_trans (up_alloc wc _).size (row_lt hO2' hk).1)
  have HO2 := Lib.hid (hO2'.base (B' := w.heap.size) (Nat.le_trans HSc.out (up_alloc wc _).size))
  have HCd := Lib.hid (blk_up HCc.out hud)
  have HRd := Lib.hid (HR.out.up hud)
  have hN2' : N2 ≤ 4 := by have := HN2.out; omega
  have HI2 := Lib.hid (own_inB HO2.out (by refine Byt.append I1.out.byt ?_; exact (be_byt _ _)))
  clear hN2 hO2' hu2 hud
  go_upto_region 21 with (at_builtin; refine wpList_appendO rfl (.tmp 48) (.tmp 51) 26 rfl .u8 w.heap.size 5 1 Try.underlying26 info5 A2 N2 c2 _ rfl (own_up HO2.out (up_alloc wd _)) (some ⟨wd.heap.size, 0, none⟩) 1 1 [_] rfl rfl (cells_one wd _) (by omega) (by omega) (up_alloc wd _ |>.size |> Nat.le_trans HSd.out) ?_; intro A3 N3 c3 w3 HN3 HW3 HO3 HB3; have HU3 := Lib.hid (up_alloc wd _ |>.out (fun k => blk? A2 = some k) |>.trans HO3.out (Sub.refl _ _)))
  have HN3' := Lib.hid (show N3 = 5 by have := HN3.out; have := HN2.out; omega)
  have hN3 : N3 ≤ 5 := by have := HN3'.out; omega
  have HP2 := Lib.hid (show ¬ (blk? A2 = some pb) from fun e => by have h1 := HA2.out pb e; have h2 := HPc.out; omega)
  have HC3 := Lib.hid (HU3.out.blk HCd.out HP2.out)
  have HR3 := Lib.hid (HRd.out.outS' HU3.out (fun hne k hk e => by have h1 := HA2.out k e; have h2 := HR.out.lt hne hk; omega))
  have U3 := Lib.hid (show Below w.heap.size w w3 from Below.out HUd.out HU3.out (fun k hk => by have h1 := HA2.out k hk; have h2 := HSc.out; omega) HSd.out)
  have I3 := Lib.hid (own_inB HW3.out (by refine Byt.append HI2.out.byt ?_; intro y hy; rw [List.mem_singleton] at hy; omega))
  clear HO3 HB3 HU3 HP2 HA2
  have x4 : w3.cell? ⟨pb, 4, none⟩ = some (.int .u32 x.code) := cell_of HC3.out (j := 4) rfl
  go_wp2_with fail
  refine (rput A3 N3 c3 3 _ x.code w3 I3.out (by omega) (by omega) (by omega)).mono ?_
  rintro e w4 ⟨A4, N4, c4, rfl, hM4, hQ4, hu4⟩
  have HN4 := Lib.hid (show N4 = 8 by rw [hM4, List.length_append, be_length, OwnI.len HW3.out]; have := HN3'.out; omega)
  have hN4 : N4 ≤ 8 := by have := HN4.out; omega
  have HW4 := Lib.hid (hQ4.base (B' := w.heap.size) U3.out.size)
  have HA4 := Lib.hid (show ∀ k, blk? A4 = some k → w3.heap.size ≤ k from fun k hk => (row_lt hQ4 hk).1)
  have U4 := Lib.hid (show Below w.heap.size w w4 from Up.trans (show Up w w3 from U3.out) hu4)
  have HC4 := Lib.hid (blk_up HC3.out hu4)
  have HR4 := Lib.hid (HR3.out.up hu4)
  have I4 := Lib.hid (own_inB HW4.out (by refine Byt.append I3.out.byt ?_; exact (be_byt _ _)))
  clear hM4 hQ4 hu4 x4
  have x5 : w4.cell? ⟨pb, 5, none⟩ = some (.int .u32 x.app) := cell_of HC4.out (j := 5) rfl
  go_wp2_with fail
  refine (rput A4 N4 c4 4 _ x.app w4 I4.out (by omega) (by omega) (by omega)).mono ?_
  rintro e w5 ⟨A5, N5, c5, rfl, hM5, hQ5, hu5⟩
  have HN5 := Lib.hid (show N5 = 12 by rw [hM5, List.length_append, be_length, OwnI.len HW4.out]; have := HN4.out; omega)
  have hN5 : N5 ≤ 12 := by have := HN5.out; omega
  have HW5 := Lib.hid (hQ5.base (B' := w.heap.size) U4.out.size)
  have HA5 := Lib.hid (show ∀ k, blk? A5 = some k → w4.heap.size ≤ k from fun k hk => (row_lt hQ5 hk).1)
  have U5 := Lib.hid (show Below w.heap.size w w5 from Up.trans (show Up w w4 from U4.out) hu5)
  have HC5 := Lib.hid (blk_up HC4.out hu5)
  have HR5 := Lib.hid (HR4.out.up hu5)
  have I5 := Lib.hid (own_inB HW5.out (by refine Byt.append I4.out.byt ?_; exact (be_byt _ _)))
  clear hM5 hQ5 hu5 x5
  have x6 : w5.cell? ⟨pb, 6, none⟩ = some (.int .u32 x.hop) := cell_of HC5.out (j := 6) rfl
  go_wp2_with fail
  refine (rput A5 N5 c5 4 _ x.hop w5 I5.out (by omega) (by omega) (by omega)).mono ?_
  rintro e w6 ⟨A6, N6, c6, rfl, hM6, hQ6, hu6⟩
  have HN6 := Lib.hid (show N6 = 16 by rw [hM6, List.length_append, be_length, OwnI.len HW5.out]; have := HN5.out; omega)
  have hN6 : N6 ≤ 16 := by have := HN6.out; omega
  have HW6 := Lib.hid (hQ6.base (B' := w.heap.size) U5.out.size)
  have HA6 := Lib.hid (show ∀ k, blk? A6 = some k → w5.heap.size ≤ k from fun k hk => (row_lt hQ6 hk).1)
  have U6 := Lib.hid (show Below w.heap.size w w6 from Up.trans (show Up w w5 from U5.out) hu6)
  have HC6 := Lib.hid (blk_up HC5.out hu6)
  have HR6 := Lib.hid (HR5.out.up hu6)
  have I6 := Lib.hid (own_inB HW6.out (by refine Byt.append I5.out.byt ?_; exact (be_byt _ _)))
  clear hM6 hQ6 hu6 x6
  have x7 : w6.cell? ⟨pb, 7, none⟩ = some (.int .u32 x.end_) := cell_of HC6.out (j := 7) rfl
  go_wp2_with fail
  refine (rput A6 N6 c6 4 _ x.end_ w6 I6.out (by omega) (by omega) (by omega)).mono ?_
  rintro e w7 ⟨A7, N7, c7, rfl, hM7, hQ7, hu7⟩
  have HN7 := Lib.hid (show N7 = 20 by rw [hM7, List.length_append, be_length, OwnI.len HW6.out]; have := HN6.out; omega)
  have hN7 : N7 ≤ 20 := by have := HN7.out; omega
  have HW7 := Lib.hid (hQ7.base (B' := w.heap.size) U6.out.size)
  have HA7 := Lib.hid (show ∀ k, blk? A7 = some k → w6.heap.size ≤ k from fun k hk => (row_lt hQ7 hk).1)
  have U7 := Lib.hid (show Below w.heap.size w w7 from Up.trans (show Up w w6 from U6.out) hu7)
  have HC7 := Lib.hid (blk_up HC6.out hu7)
  have HR7 := Lib.hid (HR6.out.up hu7)
  have I7 := Lib.hid (own_inB HW7.out (by refine Byt.append I6.out.byt ?_; exact (be_byt _ _)))
  clear hM7 hQ7 hu7 x7
  have HS7 := Lib.hid U7.out.size
  go_wp2_with (at_builtin; refine wpList_appendO rfl (.tmp 73) (.tmp 74) 26 rfl .u8 w.heap.size 5 1 Try.underlying26 info5 A7 N7 c7 _ rfl HW7.out A1 N1 c1 _ rfl HR7.out.len HR7.out.cells (by omega) (by omega) HS7.out ?_; intro A8 N8 c8 w8 HN8 HW8 HO8 HB8)
  go_ret2
  have U8 : Up w w8 := show Below w.heap.size w w8 from Below.out U7.out HO8.out (fun k hk => by have h1 := HA7.out k hk; have h2 := U6.out.size; omega) HS7.out
  refine ⟨encM x.pure, 0, A8, N8, c8, rfl, HV, Lib.hid ?_, Lib.hid ?_, Lib.hid U8⟩
  · rw [encM_length, HN8.out, hN.out]
    show _ = (encAs (List.map AvB.pure x.avps)).length + 20
    have := HN7.out; omega
  · have h8 := HW8.out
    rw [HFM.out, hN.out] at h8
    have e : encM x.pure = ((((((([1] ++ be (((encAs (List.map AvB.pure x.avps)).length : Nat) + 20 : Int) 3) ++ [msFl x.pure]) ++ be x.code 3) ++ be x.app 4) ++ be x.hop 4) ++ be x.end_ 4) ++ encAs (List.map AvB.pure x.avps)) := by
      unfold encM
      simp [MsB.pure, List.append_assoc]
    rw [e]
    exact h8
end Go.Proofs.Ythncpkjnalmpkaa

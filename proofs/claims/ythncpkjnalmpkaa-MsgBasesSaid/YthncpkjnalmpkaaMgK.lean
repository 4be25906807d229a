import Derived.Test.YthncpkjnalmpkaaMgJ
import Derived.Test.YthncpkjnalmpkaaMgP
import Derived.Test.YthncpkjnalmpkaaAvP3
namespace Go.Proofs.Ythncpkjnalmpkaa
open Go Go.RowKit Mg
set_option linter.unusedVariables false
set_option linter.unusedSimpArgs false
/-! Put. -/
theorem putPost_cases {l : List Av.Avp} {ys : List Int} {k : Int} (h : PutRes l ys k) : (k = 0 ∧ ys = encAs l ∧ l.length ≤ 64 ∧ (encAs l).length ≤ 4096) ∨ (k = 4 ∧ ys = [] ∧ ¬ (l.length ≤ 64 ∧ (encAs l).length ≤ 4096)) := by
  rcases h with ⟨a, b, c, d⟩ | ⟨a, b, c⟩
  · exact .inl ⟨a, b, c, d⟩
  · exact .inr ⟨a, b, c⟩
set_option maxRecDepth 100000 in
set_option maxHeartbeats 8000000 in
theorem mput_any (x : MsB) (w : World) (h : MsIn w x) : Calls Try.prog 10 #[msV x] w (MPost x.pure w) := by
  have H := Lib.hid h
  have hc1 := h.ok.code.1; have hc2 := h.ok.code.2
  have hn := h.n
  clear h
  have HP := Lib.hid (show putM x.pure = (if 16777215 < x.code then ([], 11) else if mixM x.pure = true then ([], 2) else if ¬ ((x.avps.map AvB.pure).length ≤ 64 ∧ (encAs (x.avps.map AvB.pure)).length ≤ 4096) then ([], 4) else if 4096 < (encAs (x.avps.map AvB.pure)).length + 20 then ([], 4) else (encM x.pure, 0)) from rfl)
  change 0 ≤ x.code at hc1; change x.code < _ at hc2
  have HU := Lib.hid (up_alloc w (msO x))
  have HC := Lib.hid (new_at w (msO x))
  obtain ⟨B, HB⟩ : ∃ B, Hid (w.heap.size = B) := ⟨_, Lib.hid rfl⟩
  rw [HB.out] at HC
  unfold msV
  go_enter Try.func10, Try.ntmps10
  go_upto_region 1 with (fail)
  change Code.wp _ _ _ _ (w.alloc (msO x))
  rw [HB.out]
  generalize w.alloc (msO x) = wa at HC HU ⊢
  have z0 : wa.cell? ⟨B, 0, none⟩ = some (.bool x.req) := cell_of HC.out (j := 0) rfl
  have z1 : wa.cell? ⟨B, 1, none⟩ = some (.bool x.prox) := cell_of HC.out (j := 1) rfl
  have z2 : wa.cell? ⟨B, 2, none⟩ = some (.bool x.fail) := cell_of HC.out (j := 2) rfl
  have z3 : wa.cell? ⟨B, 3, none⟩ = some (.bool x.again) := cell_of HC.out (j := 3) rfl
  have z4 : wa.cell? ⟨B, 4, none⟩ = some (.int .u32 x.code) := cell_of HC.out (j := 4) rfl
  have z5 : wa.cell? ⟨B, 5, none⟩ = some (.int .u32 x.app) := cell_of HC.out (j := 5) rfl
  have z6 : wa.cell? ⟨B, 6, none⟩ = some (.int .u32 x.hop) := cell_of HC.out (j := 6) rfl
  have z7 : wa.cell? ⟨B, 7, none⟩ = some (.int .u32 x.end_) := cell_of HC.out (j := 7) rfl
  have z8 : wa.cell? ⟨B, 8, none⟩ = some (.slice x.A x.n x.c) := cell_of HC.out (j := 8) rfl
  have HI := Lib.hid (H.out.up HU.out)
  by_cases hbig : 16777215 < x.code
  · have e1 : decide (16777215 < x.code) = true := decide_eq_true hbig
    go_wp2_with fail
    go_ret2
    exact mPost_no rfl (by rw [HP.out, if_pos hbig]) HU.out
  have e1 : decide (16777215 < x.code) = false := decide_eq_false hbig
  have HP := Lib.hid (show putM x.pure = (if mixM x.pure = true then ([], 2) else if ¬ ((x.avps.map AvB.pure).length ≤ 64 ∧ (encAs (x.avps.map AvB.pure)).length ≤ 4096) then ([], 4) else if 4096 < (encAs (x.avps.map AvB.pure)).length + 20 then ([], 4) else (encM x.pure, 0)) by rw [HP.out, if_neg hbig])
  have hcode : x.code ≤ 16777215 := by omega
  clear hbig
  cases hmx : mixM x.pure
  case true =>
    go_wp2_with (go_at_call 29; refine (agree_any x _).mono ?_; rintro e wb ⟨rfl, hub⟩; rw [hmx])
    go_ret2
    exact mPost_no rfl (by rw [HP.out, if_pos hmx]) (Up.trans HU.out hub)
  case false =>
  have HMX := Lib.hid hmx
  clear hmx
  go_upto_region 5 with (go_at_call 29; refine (agree_any x _).mono ?_; rintro e wb ⟨rfl, hub⟩; rw [HMX.out])
  have HCb := Lib.hid (blk_up HC.out hub)
  have HIb := Lib.hid (HI.out.up hub)
  have HUb := Lib.hid (Up.trans HU.out hub)
  clear z0 z1 z2 z3 z4 z5 z6 z7 z8
  clear hub HC HI HU
  have z8 : wb.cell? ⟨B, 8, none⟩ = some (.slice x.A x.n x.c) := cell_of HCb.out (j := 8) rfl
  go_upto_region 6 with (go_at_call 30; refine (put_any' x.A x.n x.c x.avps wb HIb.out.avs hn).mono ?_; rintro e wc ⟨ys, k, A1, N1, c1, rfl, hPR, hN, hO, hup⟩)
  have HUc := Lib.hid (Up.trans HUb.out hup.out)
  have HCc := Lib.hid (blk_up HCb.out hup.out)
  clear z8
  rcases putPost_cases hPR.out with ⟨rfl, hys, hl64, h4096⟩ | ⟨rfl, hys, hno⟩
  case inr =>
    go_wp2_with fail
    go_ret2
    exact mPost_no rfl (by rw [HP.out, HMX.out, if_neg (by decide), if_pos hno]) HUc.out
  case inl =>
  clear hPR
  subst hys
  have HFIT := Lib.hid (show (List.map AvB.pure x.avps).length ≤ 64 ∧ (encAs (List.map AvB.pure x.avps)).length ≤ 4096 from ⟨hl64, h4096⟩)
  rw [← hN.out] at h4096
  clear hl64
  by_cases hlg : 4096 < N1 + 20
  · have e2 : decide (4096 < (20 + (N1 : Int))) = true := decide_eq_true (by omega)
    go_wp2_with fail
    go_ret2
    exact mPost_no rfl (by rw [HP.out, HMX.out, if_neg (by decide), if_neg (fun h => h HFIT.out), if_pos (by rw [← hN.out]; omega)]) HUc.out
  have e2 : decide (4096 < (20 + (N1 : Int))) = false := decide_eq_false (by omega)
  have hN20 : N1 + 20 ≤ 4096 := by omega
  have HV := Lib.hid (show putM x.pure = (encM x.pure, 0) by rw [HP.out, HMX.out, if_neg (by decide), if_neg (fun h => h HFIT.out), if_neg (by rw [← hN.out]; omega)])
  clear HFIT hlg HP
  have z0 : wc.cell? ⟨B, 0, none⟩ = some (.bool x.req) := cell_of HCc.out (j := 0) rfl
  have z1 : wc.cell? ⟨B, 1, none⟩ = some (.bool x.prox) := cell_of HCc.out (j := 1) rfl
  have z2 : wc.cell? ⟨B, 2, none⟩ = some (.bool x.fail) := cell_of HCc.out (j := 2) rfl
  have z3 : wc.cell? ⟨B, 3, none⟩ = some (.bool x.again) := cell_of HCc.out (j := 3) rfl
  have z4 : wc.cell? ⟨B, 4, none⟩ = some (.int .u32 x.code) := cell_of HCc.out (j := 4) rfl
  have z5 : wc.cell? ⟨B, 5, none⟩ = some (.int .u32 x.app) := cell_of HCc.out (j := 5) rfl
  have z6 : wc.cell? ⟨B, 6, none⟩ = some (.int .u32 x.hop) := cell_of HCc.out (j := 6) rfl
  have z7 : wc.cell? ⟨B, 7, none⟩ = some (.int .u32 x.end_) := cell_of HCc.out (j := 7) rfl
  have z8 : wc.cell? ⟨B, 8, none⟩ = some (.slice x.A x.n x.c) := cell_of HCc.out (j := 8) rfl
  have HR := Lib.hid (own_inB hO.out (byt_encAs HIb.out.avs.ok))
  go_upto_region 11 with (fail)
  go_wp2_with fail
  rw [show (20 : Int) + (N1 : Int) = ((20 + N1 : Nat) : Int) by omega]
  refine (front_any x (20 + N1) _ HIb.out.ok (by omega)).mono ?_
  rintro e wd ⟨A2, N2, c2, rfl, hN2, hO2, hu2⟩
  have m2 : N2 ≤ 20 := by rw [hN2.out, ← upM_3, upM_length]; omega
  have HB0 := Lib.hid (Nat.le_trans HUc.out.size hu2.out.size)
  have HO2 := Lib.hid (hO2.out.base (B' := w.heap.size) HUc.out.size)
  have HR2 := Lib.hid (HR.out.up hu2.out)
  have HUd := Lib.hid (HUc.out.trans hu2.out)
  have HA2 := Lib.hid (show ∀ k, blk? A2 = some k → w.heap.size ≤ k from fun k hk => (row_lt HO2.out hk).1)
  clear z0 z1 z2 z3 z4 z5 z6 z7 z8 hO2 hu2
  go_wp2_with (at_builtin; refine wpList_appendO rfl (.tmp 29) (.tmp 30) 26 rfl .u8 w.heap.size 5 1 Try.underlying26 info5 A2 N2 c2 _ rfl HO2.out A1 N1 c1 _ rfl HR2.out.len HR2.out.cells (by omega) (by omega) HB0.out ?_; intro A8 N8 c8 w8 HN8 HW8 HO8 HB8)
  go_ret2
  have U8 : Up w w8 := show Below w.heap.size w w8 from Below.out HUd.out HO8.out (fun k hk => HA2.out k hk) HB0.out
  refine ⟨encM x.pure, 0, A8, N8, c8, rfl, HV, Lib.hid ?_, Lib.hid ?_, Lib.hid U8⟩
  · rw [encM_length, HN8.out, hN.out, hN2.out, ← upM_3, upM_length]
    show _ = (encAs (List.map AvB.pure x.avps)).length + 20
    omega
  · have h8 := HW8.out
    rw [encM_hd, show ((encAs x.pure.avps).length + 20 : Nat) = 20 + N1 by rw [hN.out]; exact Nat.add_comm _ _]
    exact h8
end Go.Proofs.Ythncpkjnalmpkaa

import Derived.Test.YtfbjhialjepodaaNtTu
import Derived.Deep.QuietTactic
import Derived.BigQuiet
namespace Go.Proofs.Ytfbjhialjepodaa
open Go Go.RowKit
set_option linter.unusedVariables false
theorem zero37 (w : World) : (zeroValue 37).run Try.prog w = .ok (.agg #[.int .i64 0, .int .i64 0]) w := by kernel_rfl
theorem info5t : (Try.prog.info? 5).map (fun i => (i.zero, i.size, i.bytes)) = some (some (.int .u8 0), 1, 1) := by kernel_rfl
theorem tu_send {bs : List Int} (h : bs.length ≤ 4096) : Nt.sendE (Nt.new 2) (0, 0) (1, 0) bs = 0 ∧ TQ bs (Nt.sendS (Nt.new 2) (0, 0) (1, 0) bs) := by
  have e : Nt.sendE (Nt.new 2) (0, 0) (1, 0) bs = 0 := by
    unfold Nt.sendE
    rw [if_pos (by unfold Nt.okA Nt.new; simp), if_neg (by omega)]
  refine ⟨e, ?_⟩
  rw [Nt.sendS_up e rfl (by simp [Nt.new])]
  refine ⟨by simp, fun f hf => ?_⟩
  simp [Nt.new] at hf
  subst hf
  exact ⟨fun _ => rfl, fun h => by cases h⟩
section
variable {IsN IsR : (Nat → Prop) → World → Addr → Nt.St → Prop}
/-- An act of the kinds 3 to 5, on a fresh net of the reference. -/
theorem act_tu (C : NC IsN) (R : RC IsR) (w0 : World) (p r : Addr) (bs : List Int) (hB : Byt bs) (st sr : Nt.St) (x : ActD) (Ai : Option Addr) (ci : Nat) (w : World) (h : AtD IsN IsR w0 p r st sr w) (hx : ActOk w0 x Ai ci) (hk : 3 ≤ x.kind ∧ x.kind ≤ 5) (hq : TQ bs st) :
    Calls Try.prog 10 #[.pointer (some p), .pointer (some r), acV x Ai ci] w fun e w' => ∃ b, e = .returned (.bool b) ∧ AtN IsN w0 p (TQ bs) w' := by
  have out : ∀ {st' sr' : Nt.St} {w' : World}, AtD IsN IsR w0 p r st' sr' w' → TQ bs st' → AtN IsN w0 p (TQ bs) w' := fun ⟨S, Sr, h1, h2, h3, h4, h5⟩ hq => ⟨S, _, h1, h4.1, h5, hq⟩
  by_cases h3 : x.kind = 3
  · unfold acV actCells; rw [h3]
    exact (act_twin C R w0 p r st sr x Ai ci w h hx).mono fun e w' ⟨he, hw⟩ => ⟨_, he, out hw (hq.twin _)⟩
  by_cases h4 : x.kind = 4
  · unfold acV actCells; rw [h4]
    exact (act_last C R w0 p r st sr x Ai ci w h hx).mono fun e w' ⟨he, hw⟩ => ⟨_, he, out hw (hq.last _)⟩
  have h5 : x.kind = 5 := by omega
  unfold acV actCells; rw [h5]
  exact (act_turn C R w0 p r st sr x Ai ci w h hx).mono fun e w' ⟨he, hw⟩ => ⟨_, he, out hw (hq.turn hB _ _ _ hx.bits.1)⟩
set_option maxRecDepth 100000 in
set_option maxHeartbeats 4000000 in
theorem law_netturns (C : NC IsN) (R : RC IsR) (A : Option Addr) (n c : Nat) (bs : List Int) (A2 : Option Addr) (m c2 : Nat) (xs : List ActD) (w : World) (hb : InB w A n c bs) (hn : n ≤ 140737488351232) (hx : Acts w A2 m xs) (hm : m * 88 ≤ reachBytes) :
    Calls Try.prog 4 #[.slice A n c, .slice A2 m c2] w (True2 w) := by
  have HC := Lib.hid C
  have HR := Lib.hid R
  have HA := Lib.hid (answers_n C)
  have HX := Lib.hid hx
  have HB := Lib.hid hb
  have hm2 : m ≤ 140737488351232 := by simp only [reachBytes] at hm; omega
  clear C R hx hb hm
  go_enter Try.func4, Try.ntmps4
  go_wp2_with fail
  refine (HC.out.new 2 _ (by omega) (by omega)).mono ?_
  rintro e w1 ⟨p, S, rfl, h1, hf, hu⟩
  have I1 := Lib.hid h1
  have F := Lib.hid hf
  have U := Lib.hid hu
  clear h1 hf hu
  go_wp2_with fail
  refine (HA.out _).mono ?_
  rintro e w2 ⟨rfl, hu2⟩
  by_cases hbig : 4096 < n
  · have U2 := Lib.hid (U.out.trans hu2)
    clear hu2 I1 F U
    go_wp2_with fail
    refine (HA.out _).mono ?_
    rintro e w3 ⟨rfl, hu3⟩
    have U3 := Lib.hid (U2.out.trans hu3)
    clear hu3
    go_wp2_with fail
    go_ret
    exact ⟨rfl, U3.out⟩
  have I2 := Lib.hid (HC.out.up I1.out hu2)
  have U2 := Lib.hid (U.out.trans hu2)
  clear hu2 I1 U HA
  have LT := Lib.hid (HC.out.lt I2.out)
  have hn4 : n ≤ 4096 := by omega
  go_wp2_with (at_builtin; refine wpList_appendI rfl (.tmp 32) (.tmp 33) 38 rfl .u8 w2.heap.size 5 1 Try.underlying38 info5t (some ⟨w2.heap.size, 0, none⟩) 0 0 [] rfl (ownI_new _ _ _) A n c bs rfl HB.out.len ((HB.out.up U2.out).cells.alloc _) (by omega) (by omega) (by simp) ((Below.refl _ _).alloc (Nat.le_refl _) _) ?_; intro A3 N3 c3 w3 HN3 HW3 HU3 hsz3)
  have hN : N3 = n := by have := HN3.out; omega
  subst hN
  have I3 := Lib.hid (HC.out.keep I2.out (fun k hk => HU3.out.block k (LT.out k hk)))
  have U3 := Lib.hid (U2.out.trans (HU3.out.mono (Nat.le_refl _)))
  have hsend := tu_send (show bs.length ≤ 4096 by have := HB.out.len; omega)
  have hcall := (HC.out.send S p _ (0, 0) (1, 0) A3 N3 c3 bs _ I3.out (own_inB HW3.out HB.out.byt) (fun b hb hs => by have := own_from HW3.out b hb; have := LT.out b hs; omega) (by unfold I64n; simp) (by unfold I64n; simp) (by unfold I64n; simp) (by unfold I64n; simp) hn)
  rw [hsend.1] at hcall
  have HS := Lib.hid hsend.2
  clear hsend
  refine hcall.mono ?_
  clear hcall
  rintro e w4 ⟨S4, rfl, h4, hs4, ho4⟩
  have A0 := Lib.hid (show AtN IsN w p (TQ bs) w4 from ⟨S4, _, h4, F.out.sub hs4 U3.out.size, Below.out U3.out ho4 F.out U3.out.size, HS.out⟩)
  clear h4 hs4 ho4 I3 I2 U3 U2 HS HW3 HU3 hsz3 HN3 LT F
  go_wp2_with fail
  go_loopw [7] (fun s wx => ∃ i : Nat, i ≤ m ∧ s = .int .i64 i ∧ Hid (AtN IsN w p (TQ bs) wx)) (fun s _ => m - (intOf s).toNat)
  case atStart => exact ⟨0, Nat.zero_le _, rfl, A0⟩
  case round =>
    obtain ⟨i, hi, rfl, hS⟩ := hrel
    clear A0
    by_cases hlt : i < m ∧ i < 100
    · obtain ⟨hlt, hlt2⟩ := hlt
      obtain ⟨S5, st, h5, hf5, hb5, hq5⟩ := hS.out
      have hxl : xs.length = m := HX.out.1
      obtain ⟨x, hxi⟩ : ∃ x, xs[i]? = some x := ⟨xs[i]'(by omega), by simp [hxl, hlt]⟩
      obtain ⟨b, o, Ai, ci, rfl, hcell, hok⟩ := HX.out.2 i x hxi
      have hup : Up w wr := hb5
      have HOK := Lib.hid hok
      have H5 := Lib.hid h5
      have F5 := Lib.hid hf5
      have B5 := Lib.hid hup
      have Q5 := Lib.hid hq5
      have k0 : wr.cell? ⟨b, o + i * 10, none⟩ = some (.int .i64 x.kind) := cell_up (hcell 0 _ rfl) hup
      have k1 : wr.cell? ⟨b, o + i * 10 + 1, none⟩ = some (.int .i64 x.k) := cell_up (hcell 1 _ rfl) hup
      have k2 : wr.cell? ⟨b, o + i * 10 + 2, none⟩ = some (.int .i64 x.at_) := cell_up (hcell 2 _ rfl) hup
      have k3 : wr.cell? ⟨b, o + i * 10 + 3, none⟩ = some (.int .i64 x.fh) := cell_up (hcell 3 _ rfl) hup
      have k4 : wr.cell? ⟨b, o + i * 10 + 4, none⟩ = some (.int .i64 x.fp) := cell_up (hcell 4 _ rfl) hup
      have k5 : wr.cell? ⟨b, o + i * 10 + 5, none⟩ = some (.int .i64 x.th) := cell_up (hcell 5 _ rfl) hup
      have k6 : wr.cell? ⟨b, o + i * 10 + 6, none⟩ = some (.int .i64 x.tp) := cell_up (hcell 6 _ rfl) hup
      have k7 : wr.cell? ⟨b, o + i * 10 + 7, none⟩ = some (.slice Ai x.bytes.length ci) := cell_up (hcell 7 _ rfl) hup
      have k8 : wr.cell? ⟨b, o + i * 10 + 8, none⟩ = some (.int .u8 x.bits) := cell_up (hcell 8 _ rfl) hup
      have k9 : wr.cell? ⟨b, o + i * 10 + 9, none⟩ = some (.bool x.down) := cell_up (hcell 9 _ rfl) hup
      clear hS hcell hok hup hxi hxl h5 hf5 hb5 hq5
      by_cases hk : 3 ≤ x.kind ∧ x.kind ≤ 5
      · obtain ⟨hka, hkb⟩ := hk
        go_upto_region 11 with (fail)
        have ua := up_alloc wr (.cells #[.int .i64 x.kind, .int .i64 x.k, .int .i64 x.at_, .int .i64 x.fh, .int .i64 x.fp, .int .i64 x.th, .int .i64 x.tp, .slice Ai x.bytes.length ci, .int .u8 x.bits, .bool x.down] 40)
        have hnew := new_at wr (.cells #[.int .i64 x.kind, .int .i64 x.k, .int .i64 x.at_, .int .i64 x.fh, .int .i64 x.fp, .int .i64 x.th, .int .i64 x.tp, .slice Ai x.bytes.length ci, .int .u8 x.bits, .bool x.down] 40)
        have HI := Lib.hid (HC.out.up H5.out ua)
        have HL := Lib.hid (HC.out.lt H5.out)
        have HUP := Lib.hid (B5.out.trans ua)
        have hsz := ua.size
        clear k0 k1 k2 k3 k4 k5 k6 k7 k8 k9 ua
        generalize (wr.alloc (.cells #[.int .i64 x.kind, .int .i64 x.k, .int .i64 x.at_, .int .i64 x.fh, .int .i64 x.fp, .int .i64 x.th, .int .i64 x.tp, .slice Ai x.bytes.length ci, .int .u8 x.bits, .bool x.down] 40)) = w5 at HI HUP hnew hsz ⊢
        generalize wr.heap.size = ab at hnew HL hsz ⊢
        have ur := up_alloc w5 (.cells (refCells 2) 34)
        have hz := zero34 w5
        have hne : ¬ refCells 0 = #[] := ref_ne
        have hse : (refCells 0).setIfInBounds 0 (.int .i64 2) = refCells 2 := ref_set 2
        have l0 : (w5.alloc (.cells (refCells 2) 34)).cell? ⟨ab, 0, none⟩ = some (.int .i64 x.kind) := cell_up (cell_of hnew (j := 0) rfl) ur
        have l1 : (w5.alloc (.cells (refCells 2) 34)).cell? ⟨ab, 1, none⟩ = some (.int .i64 x.k) := cell_up (cell_of hnew (j := 1) rfl) ur
        have l2 : (w5.alloc (.cells (refCells 2) 34)).cell? ⟨ab, 2, none⟩ = some (.int .i64 x.at_) := cell_up (cell_of hnew (j := 2) rfl) ur
        have l3 : (w5.alloc (.cells (refCells 2) 34)).cell? ⟨ab, 3, none⟩ = some (.int .i64 x.fh) := cell_up (cell_of hnew (j := 3) rfl) ur
        have l4 : (w5.alloc (.cells (refCells 2) 34)).cell? ⟨ab, 4, none⟩ = some (.int .i64 x.fp) := cell_up (cell_of hnew (j := 4) rfl) ur
        have l5 : (w5.alloc (.cells (refCells 2) 34)).cell? ⟨ab, 5, none⟩ = some (.int .i64 x.th) := cell_up (cell_of hnew (j := 5) rfl) ur
        have l6 : (w5.alloc (.cells (refCells 2) 34)).cell? ⟨ab, 6, none⟩ = some (.int .i64 x.tp) := cell_up (cell_of hnew (j := 6) rfl) ur
        have l7 : (w5.alloc (.cells (refCells 2) 34)).cell? ⟨ab, 7, none⟩ = some (.slice Ai x.bytes.length ci) := cell_up (cell_of hnew (j := 7) rfl) ur
        have l8 : (w5.alloc (.cells (refCells 2) 34)).cell? ⟨ab, 8, none⟩ = some (.int .u8 x.bits) := cell_up (cell_of hnew (j := 8) rfl) ur
        have l9 : (w5.alloc (.cells (refCells 2) 34)).cell? ⟨ab, 9, none⟩ = some (.bool x.down) := cell_up (cell_of hnew (j := 9) rfl) ur
        have HD := Lib.hid (show AtD IsN IsR w p ⟨w5.heap.size, 0, none⟩ st (Nt.new 2) (w5.alloc (.cells (refCells 2) 34)) from ⟨S5, _, HC.out.up HI.out ur, HR.out.new 2 w5 (by omega) (by omega), fun k hk e => by have := HC.out.lt HI.out k hk; omega, ⟨F5.out, fun k e => by have := HUP.out.size; omega⟩, HUP.out.trans ur⟩)
        clear hnew ur
        go_wp2_with fail
        clear l0 l1 l2 l3 l4 l5 l6 l7 l8 l9 hz hne hse
        refine (act_tu HC.out HR.out w p _ bs HB.out.byt st _ x Ai ci _ HD.out HOK.out ⟨hka, hkb⟩ Q5.out).mono ?_
        rintro e w6 ⟨bb, rfl, h6⟩
        have HS := Lib.hid h6
        clear h6
        go_wp2_with fail
        go_roundw
        case rel => exact ⟨i + 1, by omega, by go_num, HS⟩
        case measure => simp [intOf]; omega
      · have HS := Lib.hid (show AtN IsN w p (TQ bs) (wr.alloc (.cells #[.int .i64 x.kind, .int .i64 x.k, .int .i64 x.at_, .int .i64 x.fh, .int .i64 x.fp, .int .i64 x.th, .int .i64 x.tp, .slice Ai x.bytes.length ci, .int .u8 x.bits, .bool x.down] 40)) from ⟨S5, st, HC.out.up H5.out (up_alloc _ _), F5.out, B5.out.trans (up_alloc _ _), Q5.out⟩)
        have hk2 : x.kind < 3 ∨ 5 < x.kind := by omega
        rcases hk2 with hk2 | hk2
        all_goals
          go_wp2_with fail
          go_roundw
          case rel => exact ⟨i + 1, by omega, by go_num, HS⟩
          case measure => simp [intOf]; omega
    · have HQ : i < m ∧ 100 ≤ i ∨ m ≤ i := by omega
      obtain ⟨S5, st, h5, hf5, hb5, hq5⟩ := hS.out
      have H5 := Lib.hid h5
      have F5 := Lib.hid hf5
      have B5 := Lib.hid (show Up w wr from hb5)
      have Q5 := Lib.hid hq5
      clear h5 hf5 hb5 hq5 hS HX hlt
      rcases HQ with HQ | HQ
      all_goals
        go_wp2_with fail
        clear HQ hi
        refine (HC.out.list S5 p st wr H5.out).mono ?_
        rintro e w6 ⟨S6, lA, lc, rfl, hfr, h6, hs6, ho6⟩
        have U6 := Lib.hid (show Up w w6 from Below.out B5.out ho6 F5.out B5.out.size)
        have HFR := Lib.hid hfr
        have hbd := (HC.out.bd h6).2.1
        have hL1 := Q5.out.1
        obtain ⟨L, hL⟩ : ∃ L, L = st.way.length := ⟨_, rfl⟩
        rw [← hL] at hbd hL1 ⊢
        have HL := Lib.hid hL
        clear hfr h6 hs6 ho6 hL H5 F5 B5
        go_wp2_with fail
        go_loopw [10] (fun s wx => ∃ q : Nat, q ≤ L ∧ s = .int .i64 q ∧ Hid (Up w6 wx)) (fun s _ => L - (intOf s).toNat)
        case atStart => exact ⟨0, Nat.zero_le _, rfl, Lib.hid (Up.refl _)⟩
        case round =>
          obtain ⟨q, hq, rfl, hU⟩ := hrel
          by_cases hlt : q < L
          · obtain ⟨g, o, Ai, ci, rfl, ⟨_, _, _, _, kA, kT⟩, hA, _⟩ := HFR.out q (by rw [← HL.out]; exact hlt)
            have htf := Q5.out.2 (st.way.getD q default) (by
              rw [List.getD_eq_getElem?_getD, List.getElem?_eq_getElem (by rw [← HL.out]; exact hlt)]
              exact List.getElem_mem _)
            obtain ⟨f, hf⟩ : ∃ f, f = st.way.getD q default := ⟨_, rfl⟩
            rw [← hf] at kA kT hA htf
            have hfl : f.bytes.length = N3 := by rw [htf.len, HB.out.len]
            rw [hfl] at kA hA
            have HTF := Lib.hid htf
            have HKA := Lib.hid kA
            have HKT := Lib.hid kT
            have HAA := Lib.hid hA
            clear hf kA kT hA htf hfl
            go_wp2_with fail
            go_loopw [11, 12] (fun s t wx => ∃ k d : Nat, k ≤ N3 ∧ d ≤ k ∧ s = .int .i64 d ∧ t = .int .i64 k ∧ Hid (d = dif bs f.bytes k) ∧ Hid (Up w6 wx)) (fun _ t _ => N3 - (intOf t).toNat)
            case atStart => exact ⟨0, 0, Nat.zero_le _, Nat.le_refl _, rfl, rfl, Lib.hid rfl, hU⟩
            case round =>
              obtain ⟨k, d, hk, hd, rfl, rfl, hdf, hV⟩ := hrel
              clear hU
              have k4 := cell_up HKA.out hV.out
              have k5 := cell_up HKT.out hV.out
              by_cases hk2 : k < N3
              · have hkb : k < bs.length := by rw [HB.out.len]; exact hk2
                have hkf : k < f.bytes.length := by rw [HAA.out.len]; exact hk2
                obtain ⟨ba, bo, rfl, _, hbc⟩ := (HB.out.up (U6.out.trans hV.out)).cells (by intro e; have := congrArg List.length e; rw [ints_length, List.length_nil] at this; omega)
                obtain ⟨fa, fo, rfl, _, hfc⟩ := (HAA.out.up hV.out).cells (by intro e; have := congrArg List.length e; rw [ints_length, List.length_nil] at this; omega)
                have c1 := hbc k (.int .u8 (bs.getD k 0)) (by simp [ints, hkb])
                have c2 := hfc k (.int .u8 (f.bytes.getD k 0)) (by simp [ints, hkf])
                have hstep : dif bs f.bytes (k + 1) = dif bs f.bytes k + (if bs.getD k 0 = f.bytes.getD k 0 then 0 else 1) := rfl
                have HST := Lib.hid hstep
                generalize bs.getD k 0 = bv at c1 HST
                generalize f.bytes.getD k 0 = fv at c2 HST
                clear hbc hfc hstep hkb hkf
                by_cases he : bv = fv
                · have q1 : (fv != bv) = false := by simp [he]
                  have hd1 := Lib.hid (show d = dif bs f.bytes (k + 1) by rw [HST.out, if_pos he, ← hdf.out]; rfl)
                  go_wp2_with fail
                  go_quiet (fail)
                  go_wp2_with fail
                  go_roundw
                  case rel => exact ⟨k + 1, d, by omega, by omega, rfl, by go_num, hd1, Lib.hid (hV.out.trans (by first | exact Up.refl _ | exact Up.drew _ | exact up_drewN _ _))⟩
                  case measure => simp [intOf]; omega
                · have q1 : (fv != bv) = true := by simp; exact fun e => he e.symm
                  have hd1 := Lib.hid (show d + 1 = dif bs f.bytes (k + 1) by rw [HST.out, if_neg he, ← hdf.out])
                  go_wp2_with fail
                  go_quiet (fail)
                  go_wp2_with fail
                  go_roundw
                  case rel => exact ⟨k + 1, d + 1, by omega, by omega, by go_num, by go_num, hd1, Lib.hid (hV.out.trans (by first | exact Up.refl _ | exact Up.drew _ | exact up_drewN _ _))⟩
                  case measure => simp [intOf]; omega
              · have hkn : k = bs.length := by have := HB.out.len; omega
                have hdt := HTF.out.dif
                rw [← hkn, ← hdf.out] at hdt
                generalize f.tn = ft at k5 hdt
                have HV := Lib.hid hV.out
                cases ft with
                | false =>
                  have hd0 : d = 0 := hdt
                  clear hdt
                  subst hd0
                  go_wp2_with fail
                  go_roundw
                  case rel => exact ⟨q + 1, by omega, by go_num, HV⟩
                  case measure => simp [intOf]; omega
                | true =>
                  have hd0 : d = 1 := hdt
                  clear hdt
                  subst hd0
                  go_wp2_with fail
                  go_roundw
                  case rel => exact ⟨q + 1, by omega, by go_num, HV⟩
                  case measure => simp [intOf]; omega
          · go_wp2_with fail
            go_ret
            exact ⟨by simp; omega, U6.out.trans hU.out⟩
end
end Go.Proofs.Ytfbjhialjepodaa

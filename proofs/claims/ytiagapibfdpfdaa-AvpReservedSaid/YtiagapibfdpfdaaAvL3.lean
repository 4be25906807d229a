import Derived.Test.YtiagapibfdpfdaaAvL2
import Derived.Test.YtiagapibfdpfdaaAvX
namespace Go.Proofs.Ytiagapibfdpfdaa
open Go Go.RowKit
set_option linter.unusedVariables false
set_option linter.unusedSimpArgs false
/-! The law AvpReserved. -/
set_option maxRecDepth 100000 in
set_option maxHeartbeats 20000000 in
theorem law_reserved (a0 : Option Addr) (m0 c0 : Nat) (z0 : List AvB) (bi fi : Int) (w : World) (h0 : InL w a0 m0 c0 z0) (u0 : m0 ≤ 140737488351232) (hbi : 0 ≤ bi ∧ bi < 256) (hfi : 0 ≤ fi ∧ fi < 256) :
    Calls Try.prog 7 #[.slice a0 m0 c0, .int .u8 bi, .int .u8 fi] w (RetB true w) := by
  obtain ⟨bn, rfl⟩ := Int.eq_ofNat_of_zero_le hbi.1
  have hbn : bn < 256 := by omega
  have HI0 := Lib.hid h0
  have HL0 := Lib.hid (show (z0.map AvB.pure).length = m0 by simp [h0.len])
  have HR := Lib.hid (show (0 : Int) ≤ ((bn % 32 : Nat) : Int) ∧ ((bn % 32 : Nat) : Int) < 32 by omega)
  have HF := Lib.hid hfi
  have hb31 := bits_31 bn hbn
  clear h0 hbi hfi
  generalize hrr : ((bn % 32 : Nat) : Int) = r at HR hb31
  have HRR := Lib.hid hrr
  clear hrr
  go_enter Try.func7, Try.ntmps7
  go_wp2_with fail
  refine (own_any a0 m0 c0 z0 w HI0.out u0).mono ?_
  rintro e w1 ⟨A1, n1, k1, out1, rfl, hL, hE, hn1, hu1⟩
  have hn2 : n1 ≤ 140737488351232 := by have := hn1.out; omega
  go_wp2_with fail
  refine (put_any' A1 n1 k1 out1 w1 hL.out.inL hn2).mono ?_
  rintro e w2 ⟨xs, kx, AX, nx, cx, rfl, hr, hNx, hOx, hu2⟩
  have HRX := Lib.hid (show PutRes (z0.map AvB.pure) xs kx from putRes_take (by have := hr.out; rwa [hE.out] at this))
  have U2 := Lib.hid (Up.trans hu1.out hu2.out)
  have HO2 := Lib.hid (show OwnI .u8 5 w.heap.size w2 AX nx cx xs from hOx.out.base' hu1.out.size)
  clear hr hL hE hn1 hOx hu1 hu2 hn2 hNx
  go_wp2_with fail
  refine (answers_ok w2).mono ?_
  rintro e w3 ⟨rfl, hu3⟩
  have U3 := Lib.hid (Up.trans U2.out hu3.out)
  have HO3 := Lib.hid (show OwnI .u8 5 w.heap.size w3 AX nx cx xs from own_up HO2.out hu3.out)
  clear HO2 hu3
  by_cases hkx : kx = 0
  · subst hkx
    obtain ⟨hxe, hxn, hxb⟩ := putRes_ok HRX.out rfl
    have HXN := Lib.hid (show m0 ≤ 64 by have := HL0.out; omega)
    have HXB := Lib.hid hxb
    have HN64 := Lib.hid hxn
    have HNX := Lib.hid (show nx = (encAs (z0.map AvB.pure)).length by rw [← hxe]; exact HO3.out.len.symm)
    have HOX := Lib.hid (show OwnI .u8 5 w.heap.size w3 AX nx cx (preX r fi (z0.map AvB.pure) 0 ++ encAs ((z0.map AvB.pure).drop 0)) by
      have h := HO3.out
      rw [hxe] at h
      exact h)
    have hnx : nx ≤ 4096 := by rw [HNX.out]; exact hxb
    clear hxe hxn hxb HO3 HRX
    go_wp2_with fail
    go_loopw [9, 10] (fun v i wr => ∃ (j p : Nat), j ≤ m0 ∧ p ≤ nx ∧ i = .int .i64 (j : Int) ∧ v = .int .i64 (p : Int) ∧ Hid (p = szL (z0.map AvB.pure) j) ∧ Hid (OwnI .u8 5 w.heap.size wr AX nx cx (preX r fi (z0.map AvB.pure) j ++ encAs ((z0.map AvB.pure).drop j))) ∧ Hid (Up w wr)) (fun _ i _ => m0 - (intOf i).toNat)
    case atStart => exact ⟨0, 0, Nat.zero_le _, Nat.zero_le _, rfl, rfl, Lib.hid rfl, HOX, U3⟩
    case round =>
      obtain ⟨j, p, hj, hp, rfl, rfl, hsz, hO, hU⟩ := hrel
      by_cases hlt : j < m0
      · have e1 : decide ((j : Int) < (m0 : Int)) = true := by simp; omega
        obtain ⟨a, ha⟩ : ∃ a, (z0.map AvB.pure)[j]? = some a := ⟨_, List.getElem?_eq_getElem (by rw [HL0.out]; exact hlt)⟩
        have HA := Lib.hid ha
        have HSS := Lib.hid (szL_succ ha)
        have HSL := Lib.hid (szL_le (z0.map AvB.pure) (j + 1))
        have hfit : p + (avLen a + padN (avLen a)) ≤ nx := by have h1 := HSS.out; have h2 := HSL.out; have h3 := HNX.out; have h4 := hsz.out; omega
        have HV := Lib.hid (avVen_length a.vendor)
        have hlen8 : 8 ≤ avLen a := by have := HV.out; unfold avLen; omega
        have hl24 : avLen a < 16777216 := by omega
        have HNU := Lib.hid (show num 0 (((preX r fi (z0.map AvB.pure) j ++ encAs ((z0.map AvB.pure).drop j)).drop (p + 5)).take 3) = (avLen a : Int) by rw [hsz.out]; exact num_len ha hl24)
        have HFL := Lib.hid (show (preX r fi (z0.map AvB.pure) j ++ encAs ((z0.map AvB.pure).drop j))[p + 4]? = some (avFl a) by rw [hsz.out]; exact flag_at ha)
        have HTF := Lib.hid (show (preX r fi (z0.map AvB.pure) j ++ encAs ((z0.map AvB.pure).drop j)).set (p + 4) (avFl a + r) = preX r fi (z0.map AvB.pure) j ++ encK r fi 0 a ++ encAs ((z0.map AvB.pure).drop (j + 1)) by rw [hsz.out]; exact turn_flag ha)
        have HTK := Lib.hid (show ∀ k, k < padN (avLen a) → (preX r fi (z0.map AvB.pure) j ++ encK r fi k a ++ encAs ((z0.map AvB.pure).drop (j + 1))).set (p + avLen a + k) fi = preX r fi (z0.map AvB.pure) j ++ encK r fi (k + 1) a ++ encAs ((z0.map AvB.pure).drop (j + 1)) from fun k hk => by rw [hsz.out]; exact turn_fill hk)
        have HTN := Lib.hid (turn_next (r := r) (z := fi) ha)
        have hor : bits .or .u8 (avFl a) r = avFl a + r := by rw [← HRR.out]; exact or_fl a (bn % 32) (Nat.mod_lt _ (by omega))
        have HBY := Lib.hid (ys_byt (r := r) (z := fi) j HR.out HF.out HI0.out.ok)
        generalize avFl a = F at HFL HTF hor
        generalize avLen a = N at hfit hlen8 hl24 HNU HTK HTN HSS
        have hpd := padN_lt N
        clear ha HA HV
        obtain ⟨g, rfl, hg1, hg2⟩ := hO.out.at_ (by omega)
        go_wp2_with fail
        refine (rnum_ok (some ⟨g, 0, none⟩) nx cx (p + 5) 3 _ wr (own_inB hO.out HBY.out) (by omega) (by omega) (by omega) (by omega)).mono ?_
        rw [HNU.out]
        rintro e wa ⟨rfl, hu⟩
        have HOa := Lib.hid (show OwnI .u8 5 w.heap.size wa (some ⟨g, 0, none⟩) nx cx (preX r fi (z0.map AvB.pure) j ++ encAs ((z0.map AvB.pure).drop j)) from own_up hO.out hu)
        have Ua := Lib.hid (Up.trans hU.out hu)
        have hgw := Lib.hid (show w.heap.size ≤ g from hg1)
        have x4 := HOa.out.cellAt HFL.out
        have f4 := HOa.out.frozenAt (p + 4)
        clear hO hU hu hg2
        have HOb := Lib.hid (show OwnI .u8 5 w.heap.size (wa.setCell ⟨g, p + 4, none⟩ (.int .u8 (F + r))) (some ⟨g, 0, none⟩) nx cx (preX r fi (z0.map AvB.pure) j ++ encK r fi 0 a ++ encAs ((z0.map AvB.pure).drop (j + 1))) by rw [← HTF.out]; exact HOa.out.stored (p + 4) (F + r))
        have Ub := Lib.hid (show Up w (wa.setCell ⟨g, p + 4, none⟩ (.int .u8 (F + r))) from Below.out Ua.out (setCell_out wa g (p + 4) _) (fun k hk => by rw [hk]; exact hgw.out) Ua.out.size)
        go_upto_region 10 with (fail)
        generalize wa.setCell ⟨g, p + 4, none⟩ (.int .u8 (F + r)) = wb at HOb Ub ⊢
        clear x4 f4 HOa Ua
        go_wp2_with fail
        go_loopw [12] (fun v wr => ∃ k : Nat, k ≤ padN N ∧ v = .int .i64 (k : Int) ∧ Hid (OwnI .u8 5 w.heap.size wr (some ⟨g, 0, none⟩) nx cx (preX r fi (z0.map AvB.pure) j ++ encK r fi k a ++ encAs ((z0.map AvB.pure).drop (j + 1)))) ∧ Hid (Up w wr)) (fun v _ => padN N - (intOf v).toNat)
        case atStart => exact ⟨0, Nat.zero_le _, rfl, HOb, Ub⟩
        case round =>
          obtain ⟨k, hk, rfl, hOk, hUk⟩ := hrel
          by_cases hkp : k < padN N
          · have ek : decide ((k : Int) < (padN N : Int)) = true := by simp; omega
            have hx : ∃ x, (preX r fi (z0.map AvB.pure) j ++ encK r fi k a ++ encAs ((z0.map AvB.pure).drop (j + 1)))[p + N + k]? = some x := ⟨_, List.getElem?_eq_getElem (by rw [hOk.out.len]; omega)⟩
            obtain ⟨x, hx⟩ := hx
            have xk := hOk.out.cellAt hx
            have fk := hOk.out.frozenAt (p + N + k)
            have HOk := Lib.hid (show OwnI .u8 5 w.heap.size (wr.setCell ⟨g, p + N + k, none⟩ (.int .u8 fi)) (some ⟨g, 0, none⟩) nx cx (preX r fi (z0.map AvB.pure) j ++ encK r fi (k + 1) a ++ encAs ((z0.map AvB.pure).drop (j + 1))) by rw [← HTK.out k hkp]; exact hOk.out.stored (p + N + k) fi)
            have HUk := Lib.hid (show Up w (wr.setCell ⟨g, p + N + k, none⟩ (.int .u8 fi)) from Below.out hUk.out (setCell_out wr g (p + N + k) _) (fun q hq => by rw [hq]; exact hgw.out) hUk.out.size)
            clear hx
            go_wp2_with fail
            refine (refpad_any N wr (by omega)).mono ?_
            rintro e w' ⟨rfl, rfl⟩
            go_wp2_with fail
            go_roundw
            case rel => exact ⟨k + 1, by omega, by go_num, HOk, HUk⟩
            case measure => simp [intOf]; omega
          · obtain rfl : k = padN N := by omega
            have ek : decide ((padN N : Int) < (padN N : Int)) = false := by simp
            have HOn := Lib.hid (show OwnI .u8 5 w.heap.size wr (some ⟨g, 0, none⟩) nx cx (preX r fi (z0.map AvB.pure) (j + 1) ++ encAs ((z0.map AvB.pure).drop (j + 1))) by rw [← HTN.out]; exact hOk.out)
            go_wp2_with fail
            refine (refpad_any N wr (by omega)).mono ?_
            rintro e w' ⟨rfl, rfl⟩
            go_wp2_with fail
            refine (refpad_any N wr (by omega)).mono ?_
            rintro e w' ⟨rfl, rfl⟩
            go_wp2_with fail
            go_roundw
            case rel => exact ⟨j + 1, p + (N + padN N), by omega, by omega, by go_num, by go_num, Lib.hid (by rw [HSS.out, hsz.out]), HOn, hUk⟩
            case measure => simp [intOf]; omega
      · obtain rfl : j = m0 := by omega
        have e1 : decide ((j : Int) < (j : Int)) = false := by simp
        have HG := Lib.hid (turn_all r fi (z0.map AvB.pure) HR.out HI0.out.ok HN64.out HXB.out)
        have HBY := Lib.hid (ys_byt (r := r) (z := fi) j HR.out HF.out HI0.out.ok)
        rw [HL0.out] at HG
        go_wp2_with fail
        refine (get_any' AX nx cx _ wr (own_inB hO.out HBY.out) (by omega)).mono ?_
        rintro e w6 ⟨l6, p6, k6, A6, n6, c6, rfl, hr6, hL6, hn6, hu6⟩
        have he := getRes_inj hr6.out HG.out
        injection he with he1 he2
        injection he2 with he2 he3
        subst he3
        have U6 := Lib.hid (Up.trans hU.out hu6.out)
        have hb6 : n6 ≤ 140737488351232 := by have := hn6.out; omega
        have hsv := sameAll_any A6 a0 n6 c6 j c0 l6 z0 w6 hL6.out.inL (HI0.out.up U6.out) hb6 u0
        rw [decide_eq_true he1] at hsv
        have HSV := Lib.hid hsv
        clear hsv he1 he2 hr6 hu6
        go_wp2_with fail
        refine HSV.out.mono ?_
        rintro e w7 ⟨rfl, hu7⟩
        have U7 := Lib.hid (Up.trans U6.out hu7.out)
        go_wp2_with fail
        go_ret
        exact ⟨rfl, U7⟩
  · have dx : (kx != 0) = true := by simp [hkx]
    go_wp2_with fail
    refine (answers_ok w3).mono ?_
    rintro e w4 ⟨rfl, hu4⟩
    have U4 := Lib.hid (Up.trans U3.out hu4.out)
    go_wp2_with fail
    go_ret
    exact ⟨rfl, U4⟩
end Go.Proofs.Ytiagapibfdpfdaa

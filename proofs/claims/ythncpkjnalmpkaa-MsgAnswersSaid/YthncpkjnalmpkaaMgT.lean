import Derived.Test.YthncpkjnalmpkaaMgQ
import Derived.Test.YthncpkjnalmpkaaMgS
namespace Go.Proofs.Ythncpkjnalmpkaa
open Go Go.RowKit Mg
set_option linter.unusedVariables false
set_option linter.unusedSimpArgs false
/-! own: a message that shares nothing. -/
def OwnMP (X : MsB) (w : World) (e : Ending) (w' : World) : Prop := ∃ y : MsB, e = .returned (msV y) ∧ Hid (y.pure = { X.pure with avps := X.pure.avps.take 200 }) ∧ Hid (GL w.heap.size w' y.A y.n y.c y.avps) ∧ Hid (y.n ≤ 200) ∧ Hid (Up w w')
set_option maxRecDepth 100000 in
set_option maxHeartbeats 20000000 in
theorem mown_any (X : MsB) (w : World) (h : InL w X.A X.n X.c X.avps) (hn : X.n ≤ 140737488351232) : Calls Try.prog 11 #[msV X] w (OwnMP X w) := by
  obtain ⟨A, HA⟩ : ∃ A, Hid (X.A = A) := ⟨_, Lib.hid rfl⟩
  obtain ⟨n, HN⟩ : ∃ n, Hid (X.n = n) := ⟨_, Lib.hid rfl⟩
  obtain ⟨cap, HCP⟩ : ∃ c, Hid (X.c = c) := ⟨_, Lib.hid rfl⟩
  obtain ⟨l, HLL⟩ : ∃ l, Hid (X.avps = l) := ⟨_, Lib.hid rfl⟩
  rw [HA.out, HN.out, HCP.out, HLL.out] at h
  rw [HN.out] at hn
  have HLT := Lib.hid (show (l.map AvB.pure).length = n by simp [h.len])
  have HU := Lib.hid (Up.trans (up_alloc w (msO X)) (up_alloc (w.alloc (msO X)) (.cells #[.bool false, .bool false, .bool false, .bool false, .int .u32 0, .int .u32 0, .int .u32 0, .int .u32 0, .slice none 0 0] 25)))
  have HP := Lib.hid (blk_up (new_at w (msO X)) (up_alloc (w.alloc (msO X)) (.cells #[.bool false, .bool false, .bool false, .bool false, .int .u32 0, .int .u32 0, .int .u32 0, .int .u32 0, .slice none 0 0] 25)))
  have hq := new_at (w.alloc (msO X)) (.cells #[.bool false, .bool false, .bool false, .bool false, .int .u32 0, .int .u32 0, .int .u32 0, .int .u32 0, .slice none 0 0] 25)
  rw [show (w.alloc (msO X)).heap.size = w.heap.size + 1 by simp] at hq
  have HQ := Lib.hid hq
  have HSW := Lib.hid (show w.heap.size + 1 < ((w.alloc (msO X)).alloc (.cells #[.bool false, .bool false, .bool false, .bool false, .int .u32 0, .int .u32 0, .int .u32 0, .int .u32 0, .slice none 0 0] 25)).heap.size from lt_of_blk hq)
  have H := Lib.hid (h.up HU.out)
  have hcap := h.cap
  clear h hq
  unfold msV
  rw [HA.out, HN.out, HCP.out]
  go_enter Try.func11, Try.ntmps11
  go_upto_region 1 with (fail)
  rw [← HA.out, ← HN.out, ← HCP.out]
  change Code.wp _ _ _ _ ((w.alloc (msO X)).alloc (.cells #[.bool false, .bool false, .bool false, .bool false, .int .u32 0, .int .u32 0, .int .u32 0, .int .u32 0, .slice none 0 0] 25))
  generalize (w.alloc (msO X)).alloc (.cells #[.bool false, .bool false, .bool false, .bool false, .int .u32 0, .int .u32 0, .int .u32 0, .int .u32 0, .slice none 0 0] 25) = wa at HU HP HQ H HSW ⊢
  obtain ⟨pb, HPB⟩ : ∃ p, Hid (w.heap.size = p) := ⟨_, Lib.hid rfl⟩
  rw [HPB.out] at HP HQ HSW ⊢
  have HP8 := Lib.hid (show wa.cell? ⟨pb, 8, none⟩ = some (.slice A n cap) by have := cell_of HP.out (j := 8) (v := .slice X.A X.n X.c) rfl; rw [HA.out, HN.out, HCP.out] at this; exact this)
  go_wp2_with fail
  go_loopw [3, 4] (fun v i wr => ∃ (k : Nat) (A1 : Option Addr) (c1 : Nat) (out : List AvB), k ≤ n ∧ k ≤ 200 ∧ i = .int .i64 (k : Int) ∧ v = .slice A1 k c1 ∧ Hid (GL wa.heap.size wr A1 k c1 out) ∧ Hid (out.map AvB.pure = (l.map AvB.pure).take k) ∧ Hid (Up wa wr)) (fun _ i _ => 200 - (intOf i).toNat)
  case atStart => exact ⟨0, none, 0, [], Nat.zero_le _, Nat.zero_le _, rfl, rfl, Lib.hid (gl_nil _ _), Lib.hid rfl, Lib.hid (Up.refl _)⟩
  case round =>
    obtain ⟨k, A1, c1, out, hk, hk1, rfl, rfl, hL, hE, hu⟩ := hrel
    have zc := cell_up HP8.out hu.out
    by_cases hlt : k < n ∧ k < 200
    · obtain ⟨hkn, hk100⟩ := hlt
      have d1 : decide ((k : Int) < (n : Int)) = true := decide_eq_true (by omega)
      have d2 : decide ((k : Int) < 200) = true := decide_eq_true (by omega)
      obtain ⟨x, ga, o, hx, hAA, k0, k1, k2, k3, k4, hci⟩ := (H.out.up hu.out).at_ hkn
      rw [hAA] at zc
      have HXE := Lib.hid (show (l.map AvB.pure).take (k + 1) = (l.map AvB.pure).take k ++ [x.pure] by
        have h2 : (l.map AvB.pure)[k]? = some x.pure := by simp [hx]
        obtain ⟨hl, he⟩ := List.getElem?_eq_some_iff.1 h2
        rw [List.take_succ_eq_append_getElem hl, he])
      have HC := Lib.hid hci
      have hxn := hci.n
      clear hx hci hAA
      have HCB := Lib.hid (new_at wr (.cells #[.int .u32 x.code, .int .u32 x.vendor, .bool x.must, .bool x.prot, .slice x.A x.n x.c] 56))
      have HUa := Lib.hid (up_alloc wr (.cells #[.int .u32 x.code, .int .u32 x.vendor, .bool x.must, .bool x.prot, .slice x.A x.n x.c] 56))
      have HPP := Lib.hid (lt_of_blk HCB.out)
      go_upto_region 6 with (fail)
      clear zc
      generalize wr.alloc (.cells #[.int .u32 x.code, .int .u32 x.vendor, .bool x.must, .bool x.prot, .slice x.A x.n x.c] 56) = wb at HCB HUa HPP ⊢
      generalize hpq : wr.heap.size = pq at HCB HPP ⊢
      have HPE := Lib.hid hpq
      clear k0 k1 k2 k3 k4 hpq
      have z4 := cell_of HCB.out (j := 4) rfl
      have HIN := Lib.hid (HC.out.inb.up HUa.out)
      have hpw : pq < wb.heap.size := HPP.out
      go_upto_region 7 with (at_builtin; refine wpList_appendI rfl (.tmp 22) (.tmp 24) 26 rfl .u8 wb.heap.size 5 1 Try.underlying26 info5 (some ⟨wb.heap.size, 0, none⟩) 0 0 [] rfl (ownI_new _ _ _) x.A x.n x.c x.bs rfl HIN.out.len (HIN.out.cells.alloc _) (by omega) (by omega) (by simp) ((Below.refl _ _).alloc (Nat.le_refl _) _) ?_; intro A6 N6 c6 w6 HN6 HW6 HB6 hsz6; have hc6 := (HB6.out.block _ HPP.out).trans HCB.out; have z6 := cell_of hc6 (j := 4) rfl; have y6 := frozen_at (j := 4) hc6)
      have hst := setCell_out w6 pq 4 (.slice A6 N6 c6)
      have HC7 := Lib.hid (show (w6.setCell ⟨pq, 4, none⟩ (.slice A6 N6 c6)).heap[pq]? = some (.cells #[.int .u32 x.code, .int .u32 x.vendor, .bool x.must, .bool x.prot, .slice A6 N6 c6] 56 (0, 0)) from (setCell_at (j := 4) (.slice A6 N6 c6) hc6).trans rfl)
      have HO6 := Lib.hid (show OwnI .u8 5 wb.heap.size w6 A6 N6 c6 x.bs by have := HW6.out; rw [List.nil_append] at this; exact this)
      have HO7 := Lib.hid (show OwnI .u8 5 wb.heap.size (w6.setCell ⟨pq, 4, none⟩ (.slice A6 N6 c6)) A6 N6 c6 x.bs from hst.own HO6.out (fun q hq e => by have h1 := (row_lt HO6.out (by rwa [ownBlock_slice] at hq)).1; have e1 : q = pq := e; omega))
      have HU7 := Lib.hid (show Up wr (w6.setCell ⟨pq, 4, none⟩ (.slice A6 N6 c6)) from Below.out (HUa.out.trans HB6.out) hst (fun q hq => by rw [hq, ← HPE.out]; exact Nat.le_refl _) (HUa.out.trans HB6.out).size)
      have HN7 := Lib.hid (show N6 ≤ 140737488351232 by have := HN6.out; omega)
      have HWA := Lib.hid (show wa.heap.size ≤ wb.heap.size by have := hu.out.size; have := HUa.out.size; omega)
      have HRW := Lib.hid (show wr.heap.size ≤ wb.heap.size from HUa.out.size)
      clear z4 z6 y6 hc6 HCB
      generalize w6.setCell ⟨pq, 4, none⟩ (.slice A6 N6 c6) = w7 at hst HC7 HO7 HU7 ⊢
      have HL7 := Lib.hid (hL.out.up HU7.out)
      have HXC := Lib.hid (show OwnA wa.heap.size w7 ⟨x.code, x.vendor, x.must, x.prot, A6, N6, c6, x.bs⟩ from ⟨HO7.out.base' HWA.out, HC.out.ok, HN7.out⟩)
      have HXA := Lib.hid (show ∀ q, blk? A6 = some q → blk? A1 ≠ some q from fun q hq e => by have h1 := (row_lt HO7.out hq).1; have h2 := (hL.out.lt e).2; have := HRW.out; omega)
      have y0 := cell_of HC7.out (j := 0) rfl
      have y1 := cell_of HC7.out (j := 1) rfl
      have y2 := cell_of HC7.out (j := 2) rfl
      have y3 := cell_of HC7.out (j := 3) rfl
      have y4 := cell_of HC7.out (j := 4) rfl
      have HCL := Lib.hid (avCells w7 ⟨x.code, x.vendor, x.must, x.prot, A6, N6, c6, x.bs⟩)
      have HUA := Lib.hid (up_alloc w7 (.cells #[.int .u32 x.code, .int .u32 x.vendor, .bool x.must, .bool x.prot, .slice A6 N6 c6] 56))
      have HSz := Lib.hid (show wa.heap.size ≤ (w7.alloc (.cells #[.int .u32 x.code, .int .u32 x.vendor, .bool x.must, .bool x.prot, .slice A6 N6 c6] 56)).heap.size from (Up.trans (Up.trans hu.out HU7.out) HUA.out).size)
      clear hst HO6 HW6 HB6
      go_wp2_with (at_builtin; refine wpList_appendG rfl (.tmp 27) (.tmp 29) 23 rfl wa.heap.size 56 (.agg #[.int .u32 0, .int .u32 0, .bool false, .bool false, .slice none 0 0]) 5 40 Try.underlying23 info38 rfl (by decide) A1 k c1 (rowa out) rfl (HL7.out.up HUA.out).row (some ⟨w7.heap.size, 0, none⟩) 1 1 (rowa [⟨x.code, x.vendor, x.must, x.prot, A6, N6, c6, x.bs⟩]) rfl (by simp [rowa, avc, avcL]) HCL.out (rowa_one _) (by omega) (by omega) HSz.out ?_; intro A' N' c' w' HN HW HO HB)
      have HV := Lib.hid (show Up wa _ from Up.trans (Up.trans hu.out HU7.out) HUA.out)
      have HL9 := Lib.hid ((HL7.out.up HUA.out).push (HXC.out.up HUA.out) HXA.out HN.out HW.out HO.out HB.out)
      have HV9 := Lib.hid (show Up wa w' from Below.out HV.out HO.out (fun q hq => ((HL7.out.up HUA.out).lt hq).1) HV.out.size)
      have hNk : N' = k + 1 := HN.out
      subst hNk
      go_roundw
      case rel => exact ⟨k + 1, A', c', out ++ [⟨x.code, x.vendor, x.must, x.prot, A6, N6, c6, x.bs⟩], by omega, by omega, by go_num, rfl, HL9, Lib.hid (by rw [HXE.out, List.map_append, hE.out]; rfl), HV9⟩
      case measure => simp [intOf]; omega
    · have HTK := Lib.hid (show (l.map AvB.pure).take k = (l.map AvB.pure).take 200 by
        by_cases h : k = 200
        · rw [h]
        · have h2 : k = n := by omega
          rw [List.take_of_length_le (by rw [HLT.out]; omega), List.take_of_length_le (by rw [HLT.out]; omega)])
      have HPr := Lib.hid (blk_up HP.out hu.out)
      have HQr := Lib.hid (blk_up HQ.out hu.out)
      have fz := frozen_at (j := 8) HPr.out
      by_cases h : k < n
      case' pos =>
        have d1 : decide ((k : Int) < (n : Int)) = true := decide_eq_true (by omega)
        have d2 : decide ((k : Int) < 200) = false := decide_eq_false (by omega)
      case' neg =>
        have d1 : decide ((k : Int) < (n : Int)) = false := decide_eq_false (by omega)
      all_goals
        go_upto_region 9 with (fail)
        have HXd := Lib.hid (setCell_at (j := 8) (.slice A1 k c1) HPr.out)
        have HOd := Lib.hid (setCell_out wr pb 8 (.slice A1 k c1))
        generalize wr.setCell ⟨pb, 8, none⟩ (.slice A1 k c1) = wd at HXd HOd ⊢
        have HQd := Lib.hid (HOd.out.blk HQr.out (by omega))
        have m0 : wd.cell? ⟨pb, 0, none⟩ = some (.bool X.req) := cell_of HXd.out (j := 0) rfl
        have m1 : wd.cell? ⟨pb, 1, none⟩ = some (.bool X.prox) := cell_of HXd.out (j := 1) rfl
        have m2 : wd.cell? ⟨pb, 2, none⟩ = some (.bool X.fail) := cell_of HXd.out (j := 2) rfl
        have m3 : wd.cell? ⟨pb, 3, none⟩ = some (.bool X.again) := cell_of HXd.out (j := 3) rfl
        have m4 : wd.cell? ⟨pb, 4, none⟩ = some (.int .u32 X.code) := cell_of HXd.out (j := 4) rfl
        have m5 : wd.cell? ⟨pb, 5, none⟩ = some (.int .u32 X.app) := cell_of HXd.out (j := 5) rfl
        have m6 : wd.cell? ⟨pb, 6, none⟩ = some (.int .u32 X.hop) := cell_of HXd.out (j := 6) rfl
        have m7 : wd.cell? ⟨pb, 7, none⟩ = some (.int .u32 X.end_) := cell_of HXd.out (j := 7) rfl
        have m8 : wd.cell? ⟨pb, 8, none⟩ = some (.slice A1 k c1) := cell_of HXd.out (j := 8) rfl
        go_wp2_with (with_reducible refine wpList_store_row rfl 25 _ _ rfl (pb + 1) #[.bool X.req, .bool X.prox, .bool X.fail, .bool X.again, .int .u32 X.code, .int .u32 X.app, .int .u32 X.hop, .int .u32 X.end_, .slice A1 k c1] rfl rfl 25 _ HQd.out (by kernel_rfl) rfl (by simp [Value.oneCell']) ?_)
        refine bodyPost_ret (results_cell_row (fn := Try.f11) (p := 2) (ty := 25) rfl _ _ (pb + 1) 25 _ (0, 0) _ rfl (setRow_heap _ _ _ _ _ _ HQd.out) Try.underlying25 rfl (by kernel_rfl)) rfl ?_
        have hUd : Up w wd := Below.out (HU.out.trans hu.out) HOd.out (fun q hq => by have := HPB.out; omega) (HU.out.trans hu.out).size
        have hGd := gl_out (gl_out hL.out HOd.out (fun q hq e => by have := gl_from hL.out hq; have := HSW.out; omega)) (setRow_out wd (pb + 1) #[.bool X.req, .bool X.prox, .bool X.fail, .bool X.again, .int .u32 X.code, .int .u32 X.app, .int .u32 X.hop, .int .u32 X.end_, .slice A1 k c1]) (fun q hq e => by have := gl_from hL.out hq; have := HSW.out; omega)
        refine ⟨⟨X.req, X.prox, X.fail, X.again, X.code, X.app, X.hop, X.end_, A1, k, c1, out⟩, rfl, Lib.hid ?_, Lib.hid (hGd.base HU.out.size), Lib.hid hk1, Lib.hid (below_setRow hUd (by have := HPB.out; omega) _)⟩
        show (⟨_, _, _, _, _, _, _, _, _⟩ : Msg) = _
        rw [hE.out, HTK.out, ← HLL.out]
        rfl
end Go.Proofs.Ythncpkjnalmpkaa

import Derived.Test.YtghldkjbmfbdfaaDoorVy
import Derived.Test.YtghldkjbmfbdfaaDoorVf
import Derived.Test.YtghldkjbmfbdfaaDoorVu
import Derived.Deep.CutBlock
import Derived.Deep.DeepCutAuto
import Derived.Deep.DeepBigQuietO
namespace Go.Proofs.YtghldkjbmfbdfaaDoor
open Go Go.RowKit
set_option linter.unusedVariables false
set_option linter.unusedSimpArgs false
def lenV (v : Value) : Nat := match v with | .slice _ n _ => n | _ => 0
set_option maxRecDepth 100000 in
set_option maxHeartbeats 16000000 in
theorem valid_any (A : Option Addr) (m c : Nat) (xs : List Int) (w : World) (hin : InB w A m c xs) (hT : Tab w) (hm : m ≤ 140737488355328) : Calls Tryd.prog 38 #[.slice A m c] w fun e w' => e = .returned (.bool (Ut.ok xs)) ∧ Up w w' := by
  have H := Lib.hid (show InB w A m m xs from ⟨hin.cells, hin.byt, Nat.le_refl _, hin.len⟩)
  have HT := Lib.hid hT
  have hcap := hin.cap
  clear hin hT
  have hmo : Tryd.prog.follows .mixedOrders = true := by kernel_rfl
  go_enter Tryd.func38, Tryd.ntmps38
  go_wp2_with fail
  go_loopw [0] (fun s wr => ∃ (A1 : Option Addr) (n : Nat) (ys : List Int), n ≤ m ∧ s = .slice A1 n n ∧ Hid (InB wr A1 n n ys) ∧ Hid (Ut.ok ys = Ut.ok xs) ∧ Hid (Up w wr)) (fun s _ => lenV s)
  case atStart => exact ⟨A, m, xs, by omega, rfl, H, Lib.hid rfl, Lib.hid (Up.refl _)⟩
  case round =>
    obtain ⟨A1, n, ys, hnm, rfl, HI, HS, HU⟩ := hrel
    rcases n with _ | n
    · have HR := Lib.hid (show Ut.ok xs = true by rw [← HS.out, List.eq_nil_of_length_eq_zero HI.out.len]; rfl)
      go_wp2_with fail
      go_ret
      exact ⟨by rw [HR.out]; rfl, HU.out⟩
    · obtain ⟨g, o, rfl, -, -⟩ := HI.out.cells (fun e => by have h1 := congrArg List.length e; rw [ints_length, HI.out.len, List.length_nil] at h1; omega)
      have e1 : decide (0 < ((n + 1 : Nat) : Int)) = true := decide_eq_true (by omega)
      have e1' : decide (0 < (n : Int) + 1) = true := decide_eq_true (by omega)
      have hx := byt_cell HI.out (j := 0) (by omega)
      have BX := byt_byt HI.out.byt 0
      obtain ⟨x, ex⟩ : ∃ x, byt ys 0 = x := ⟨_, rfl⟩
      rw [ex, Nat.add_zero] at hx
      rw [ex] at BX
      replace ex := Lib.hid ex
      by_cases kA : x < 128
      · as_aux_lemma =>
          have q0 : decide (x < 128) = true := decide_eq_true (by omega)
          have HS1 := Lib.hid (show Ut.ok (ys.drop 1) = Ut.ok xs by rw [← HS.out]; exact ok_one (by rw [ex.out]; exact kA))
          rcases n with _ | n
          · have HZ := Lib.hid (show Ut.ok [] = Ut.ok xs by rw [← HS1.out, List.drop_of_length_le (by rw [HI.out.len]; exact Nat.le_refl _)])
            go_wp2_with fail
            go_roundw
            case rel => exact ⟨some ⟨g, o, none⟩, 0, [], by omega, rfl, Lib.hid ⟨Cells.nil _ _, byt_nil, Nat.le_refl _, rfl⟩, HZ, HU⟩
            case measure => show 0 < 0 + 1; omega
          · have HI1 := Lib.hid (show InB wr (some ⟨g, o + 1, none⟩) (n + 1) (n + 1) (ys.drop 1) from HI.out.tail (p := 1) (by omega))
            by_cases k8 : n + 1 ≤ 8
            · go_wp2_with fail
              exact ⟨⟨_, _, ys.drop 1, by omega, rfl, HI1, HS1, HU⟩, by show n + 1 < n + 1 + 1; omega⟩
            · obtain ⟨k, rfl⟩ : ∃ k, n = k + 8 := ⟨n - 8, by omega⟩
              go_wp2_with fail
              refine (word_any _ _ _ (ys.drop 1) _ HI1.out (by omega)).mono ?_
              rintro e w1 ⟨rfl, qq, rfl⟩
              have HWL := Lib.hid (word_lt (byt_byt HI1.out.byt))
              have HW8 := Lib.hid (fun h => (ok_eight HI1.out.byt h).trans HS1.out)
              generalize Ut.word (byt (ys.drop 1)) 0 = W at HWL HW8 ⊢
              have HU1 := Lib.hid (Up.trans HU.out (up_drewN wr qq))
              by_cases kW : noHi W
              · have z1 := hiT HWL.out kW
                have HI2 := Lib.hid (show InB wr (some ⟨g, o + 9, none⟩) (k + 1) (k + 1) ((ys.drop 1).drop 8) from HI1.out.tail (p := 8) (by omega))
                have HS2 := Lib.hid (HW8.out kW)
                go_wp2_with fail
                have hkm : k + 1 ≤ m ∧ k + 1 < k + 8 + 1 + 1 := by omega
                have HI2 := Lib.hid (HI2.out.up (up_drewN wr qq))
                generalize wr.drewN qq = w2 at HU1 HI2 ⊢
                generalize (ys.drop 1).drop 8 = zs at HI2 HS2
                go_upto_region 8 with (fail)
                generalize k + 1 = l at HI2 hkm ⊢
                generalize o + 9 = o at HI2 ⊢
                clear hx kA q0 HS1 HI1 HWL HW8 HI
                by_cases k16 : l ≤ 16
                · have f16 : decide (16 < (l : Int)) = false := decide_eq_false (by omega)
                  go_upto_region 8 with (fail)
                  go_big_quiet_o (fail)
                  go_wp2_with fail
                  exact ⟨⟨some ⟨g, o, none⟩, l, zs, hkm.1, rfl, HI2.out.up (up_drewN _ _) |> Lib.hid, HS2, Lib.hid (Up.trans HU1.out (up_drewN _ _))⟩, by show l < k + 8 + 1 + 1; exact hkm.2⟩
                · replace k16 : 16 < l := by omega
                  have HX0 := Lib.hid (show InB w2 (some ⟨g, o, none⟩) l l zs from HI2.out)
                  have HX8 := Lib.hid (show InB w2 (some ⟨g, o + 8, none⟩) (l - 8) (l - 8) (zs.drop 8) from HI2.out.tail (p := 8) (by omega))
                  obtain ⟨W0, eW0⟩ : ∃ W, Ut.word (byt zs) 0 = W := ⟨_, rfl⟩
                  have HL0 := Lib.hid (show W0 < 18446744073709551616 by rw [← eW0]; exact word_lt (byt_byt HX0.out.byt))
                  have HC0 := Lib.hid (show ∀ wx, Up w2 wx → Calls Tryd.prog 51 #[.slice (some ⟨g, o, none⟩) l l] wx fun e w3 => ∃ v, e = .returned v ∧ Up wx w3 ∧ v = .int .u64 ((W0 : Nat) : Int) from fun wx hU => (word_any _ _ _ _ wx (HX0.out.up hU) (by omega)).mono fun e w3 ⟨he, q, hw⟩ => ⟨_, he, by rw [hw]; exact up_drewN _ _, by rw [eW0]⟩)
                  have HH0 := Lib.hid (show noHi W0 → Ut.ok (zs.drop 8) = Ut.ok zs from fun h => ok_eight HX0.out.byt (by rw [eW0]; exact h))
                  clear eW0
                  obtain ⟨W8, eW8⟩ : ∃ W, Ut.word (byt (zs.drop 8)) 0 = W := ⟨_, rfl⟩
                  have HL8 := Lib.hid (show W8 < 18446744073709551616 by rw [← eW8]; exact word_lt (byt_byt HX8.out.byt))
                  have HC8 := Lib.hid (show ∀ wx, Up w2 wx → Calls Tryd.prog 51 #[.slice (some ⟨g, o + 8, none⟩) (l - 8) (l - 8)] wx fun e w3 => ∃ v, e = .returned v ∧ Up wx w3 ∧ v = .int .u64 ((W8 : Nat) : Int) from fun wx hU => (word_any _ _ _ _ wx (HX8.out.up hU) (by omega)).mono fun e w3 ⟨he, q, hw⟩ => ⟨_, he, by rw [hw]; exact up_drewN _ _, by rw [eW8]⟩)
                  have HH8 := Lib.hid (show noHi W8 → Ut.ok ((zs.drop 8).drop 8) = Ut.ok (zs.drop 8) from fun h => ok_eight HX8.out.byt (by rw [eW8]; exact h))
                  clear eW8
                  obtain ⟨b, hb⟩ : ∃ b : Bool, (bits .and .u64 (((W0 ||| W8) : Nat) : Int) 9259542123273814144 == 0) = b := ⟨_, rfl⟩
                  have HB0 := Lib.hid hb
                  clear hb
                  have HK : ∀ φ ∈ [Is (.slice (some ⟨g, o, none⟩) l l), Is (.int .i64 (l : Int)), Is (.bool true), Is (.bool true), Is (.slice (some ⟨g, o, none⟩) l l), Is (.int .u64 ((W0 : Nat) : Int)), Is (.slice (some ⟨g, o, none⟩) l l), Is (.slice (some ⟨g, o + 8, none⟩) (l - 8) (l - 8)), Is (.int .u64 ((W8 : Nat) : Int)), Is (.int .u64 (((W0 ||| W8) : Nat) : Int)), Is (.int .u64 (bits .and .u64 (((W0 ||| W8) : Nat) : Int) 9259542123273814144)), Is (.bool b), Is (.bool b)], Keeps φ := by
                    simp [keeps_is]
                  refine staged_lit (by kernel_rfl) (facts [Is (.slice (some ⟨g, o, none⟩) l l), Is (.int .i64 (l : Int)), Is (.bool true), Is (.bool true), Is (.slice (some ⟨g, o, none⟩) l l), Is (.int .u64 ((W0 : Nat) : Int)), Is (.slice (some ⟨g, o, none⟩) l l), Is (.slice (some ⟨g, o + 8, none⟩) (l - 8) (l - 8)), Is (.int .u64 ((W8 : Nat) : Int)), Is (.int .u64 (((W0 ||| W8) : Nat) : Int)), Is (.int .u64 (bits .and .u64 (((W0 ||| W8) : Nat) : Int) 9259542123273814144)), Is (.bool b), Is (.bool b)]) (Stg [] (fun _ x => Up w2 x)) 188 rfl (by decide +kernel) (by decide +kernel) (Stg.start (Up.drew w2)) ?_ ?_
                  · refine ⟨?_, ?_, ?_, ?_, ?_, ?_, ?_, ?_, ?_, ?_, ?_, ?_, ?_, trivial⟩
                    · refine opS_same rfl rfl fun Lx ac w1 hJ hl hc ho hd => ?_
                      have s0 : ac.eval (.tmp 0) = .slice (some ⟨g, o, none⟩) l l := ho 0 rfl
                      exact ⟨_, x_move (.tmp 0) rfl s0, rfl⟩
                    · refine opS_same rfl rfl fun Lx ac w1 hJ hl hc ho hd => ?_
                      have d0 : ac.eval (.tmp 34) = .slice (some ⟨g, o, none⟩) l l := hd 0 _ _ rfl rfl rfl
                      exact ⟨_, x_len (.tmp 34) 22 5 rfl Tryd.underlying22 d0, rfl⟩
                    · refine opS_same rfl rfl fun Lx ac w1 hJ hl hc ho hd => ?_
                      have d1 : ac.eval (.tmp 35) = .int .i64 (l : Int) := hd 1 _ _ rfl rfl rfl
                      exact ⟨_, x_bin .gtr 3 3 (.tmp 35) (.const (.int .i64 16)) rfl d1 rfl (grdg3 _ _ _ _ _) (run_gtr3 l 16 (by omega) _), rfl⟩
                    · refine opS_same rfl rfl fun Lx ac w1 hJ hl hc ho hd => ?_
                      have d2 : ac.eval (.tmp 36) = .bool true := hd 2 _ _ rfl rfl rfl
                      exact ⟨_, x_move (.tmp 36) rfl d2, rfl⟩
                    · refine opS_sameG 3 true _ _ rfl rfl rfl rfl (fun _ _ h => h) rfl fun Lx ac w1 hJ hl hc ho hd => ?_
                      have s0 : ac.eval (.tmp 0) = .slice (some ⟨g, o, none⟩) l l := ho 0 rfl
                      exact ⟨_, x_move (.tmp 0) rfl s0, rfl⟩
                    · refine opS_callUpG 3 true _ _ rfl rfl rfl rfl (fun _ _ h => h) rfl (fun k wx wy h hu => Up.trans h hu) (facts_keep HK) fun L ac wx hJ hl hc ho hd => ?_
                      have d4 : ac.eval (.tmp 38) = .slice (some ⟨g, o, none⟩) l l := hd 4 _ _ rfl rfl rfl
                      obtain ⟨_, _, hU⟩ := hJ
                      refine ⟨51, _, x_fcall 51 [.tmp 38] _ rfl (by kernel_rfl), ?_⟩
                      simp only [List.map_cons, List.map_nil, d4]
                      exact (HC0.out wx hU).mono fun e w2 ⟨v, he, hu, hv⟩ => ⟨v, he, hu, hv⟩
                    · refine opS_sameG 3 true _ _ rfl rfl rfl rfl (fun _ _ h => h) rfl fun Lx ac w1 hJ hl hc ho hd => ?_
                      have s0 : ac.eval (.tmp 0) = .slice (some ⟨g, o, none⟩) l l := ho 0 rfl
                      exact ⟨_, x_move (.tmp 0) rfl s0, rfl⟩
                    · refine opS_sameG 3 true _ _ rfl rfl rfl rfl (fun _ _ h => h) rfl fun Lx ac w1 hJ hl hc ho hd => ?_
                      have d6 : ac.eval (.tmp 40) = .slice (some ⟨g, o, none⟩) l l := hd 6 _ _ rfl rfl rfl
                      exact ⟨_, x_sliceL 22 (.tmp 40) (.const (.int .i64 8)) rfl d6 rfl (run_slL g o l 8 (by omega) _), rfl⟩
                    · refine opS_callUpG 3 true _ _ rfl rfl rfl rfl (fun _ _ h => h) rfl (fun k wx wy h hu => Up.trans h hu) (facts_keep HK) fun L ac wx hJ hl hc ho hd => ?_
                      have d7 : ac.eval (.tmp 41) = .slice (some ⟨g, o + 8, none⟩) (l - 8) (l - 8) := hd 7 _ _ rfl rfl rfl
                      obtain ⟨_, _, hU⟩ := hJ
                      refine ⟨51, _, x_fcall 51 [.tmp 41] _ rfl (by kernel_rfl), ?_⟩
                      simp only [List.map_cons, List.map_nil, d7]
                      exact (HC8.out wx hU).mono fun e w2 ⟨v, he, hu, hv⟩ => ⟨v, he, hu, hv⟩
                    · refine opS_sameG 3 true _ _ rfl rfl rfl rfl (fun _ _ h => h) rfl fun Lx ac w1 hJ hl hc ho hd => ?_
                      have d5 : ac.eval (.tmp 39) = .int .u64 ((W0 : Nat) : Int) := hd 5 _ _ rfl rfl rfl
                      have d8 : ac.eval (.tmp 42) = .int .u64 ((W8 : Nat) : Int) := hd 8 _ _ rfl rfl rfl
                      exact ⟨_, x_bin .or 12 12 (.tmp 39) (.tmp 42) rfl d5 d8 (grdo12 _ _ _ _ _) (run_or12 HL0.out HL8.out _), rfl⟩
                    · refine opS_sameG 3 true _ _ rfl rfl rfl rfl (fun _ _ h => h) rfl fun Lx ac w1 hJ hl hc ho hd => ?_
                      have d9 : ac.eval (.tmp 43) = .int .u64 (((W0 ||| W8) : Nat) : Int) := hd 9 _ _ rfl rfl rfl
                      exact ⟨_, x_bin .and 12 12 (.tmp 43) (.const (.int .u64 9259542123273814144)) rfl d9 rfl (grda12 _ _ _ _ _) (run_and12 _ _), rfl⟩
                    · refine opS_sameG 3 true _ _ rfl rfl rfl rfl (fun _ _ h => h) rfl fun Lx ac w1 hJ hl hc ho hd => ?_
                      have d10 : ac.eval (.tmp 44) = .int .u64 (bits .and .u64 (((W0 ||| W8) : Nat) : Int) 9259542123273814144) := hd 10 _ _ rfl rfl rfl
                      exact ⟨_, x_bin .eql 12 12 (.tmp 44) (.const (.int .u64 0)) rfl d10 rfl (grde12 _ _ _ _ _) (run_eq12 HB0.out _), rfl⟩
                    · refine opS_same rfl rfl fun Lx ac w1 hJ hl hc ho hd => ?_
                      have d3 : ac.eval (.tmp 37) = .bool true := hd 3 _ _ rfl rfl rfl
                      have d11 : ac.eval (.tmp 45) = .bool b := hd 11 _ _ rfl rfl rfl
                      exact ⟨_, x_pick (.tmp 37) (.tmp 45) (.const (.bool false)) (b := true) (Y := .bool false) rfl d3 (fun _ => d11) (fun h => absurd h (by decide)), rfl⟩
                  · intro L1 a1 w3 hI hall
                    obtain ⟨kq, hk, hUF⟩ := hI.done hall (by simp)
                    have HU3 := Lib.hid (show Up w2 w3 from hUF)
                    clear hk hUF kq
                    have l0 : a1.tmps.getD 0 undef = .slice (some ⟨g, o, none⟩) l l := hI.old 0 rfl
                    have l1 : a1.tmps.getD 1 undef = undef := hI.old 1 rfl
                    have l7 : a1.tmps.getD 7 undef = .slice A m c := hI.old 7 rfl
                    have l8 : a1.tmps.getD 8 undef = .slice A m c := hI.old 8 rfl
                    have l9 : a1.tmps.getD 9 undef = .int .i64 (m : Int) := hI.old 9 rfl
                    have l10 : a1.tmps.getD 10 undef = .slice A m c := hI.old 10 rfl
                    have l11 : a1.tmps.getD 11 undef = .int .i64 (m : Int) := hI.old 11 rfl
                    have l12 : a1.tmps.getD 12 undef = .slice A m m := hI.old 12 rfl
                    have l46 : a1.tmps.getD 46 undef = .bool b := hI.get hall (i := 12) rfl rfl
                    have hde : a1.defers = [] := hI.defers
                    have hal := act_lit a1 188 hI.size
                    clear hI
                    simp only [List.range, List.range.loop, List.map_cons, List.map_nil] at hal
                    rw [l0, l1, l7, l8, l9, l10, l11, l12, l46, hde] at hal
                    generalize a1.tmps.getD 2 undef = t2 at hal
                    generalize a1.tmps.getD 3 undef = t3 at hal
                    generalize a1.tmps.getD 4 undef = t4 at hal
                    generalize a1.tmps.getD 5 undef = t5 at hal
                    generalize a1.tmps.getD 6 undef = t6 at hal
                    generalize a1.tmps.getD 13 undef = t13 at hal
                    generalize a1.tmps.getD 14 undef = t14 at hal
                    generalize a1.tmps.getD 15 undef = t15 at hal
                    generalize a1.tmps.getD 16 undef = t16 at hal
                    generalize a1.tmps.getD 17 undef = t17 at hal
                    generalize a1.tmps.getD 18 undef = t18 at hal
                    generalize a1.tmps.getD 19 undef = t19 at hal
                    generalize a1.tmps.getD 20 undef = t20 at hal
                    generalize a1.tmps.getD 21 undef = t21 at hal
                    generalize a1.tmps.getD 22 undef = t22 at hal
                    generalize a1.tmps.getD 23 undef = t23 at hal
                    generalize a1.tmps.getD 24 undef = t24 at hal
                    generalize a1.tmps.getD 25 undef = t25 at hal
                    generalize a1.tmps.getD 26 undef = t26 at hal
                    generalize a1.tmps.getD 27 undef = t27 at hal
                    generalize a1.tmps.getD 28 undef = t28 at hal
                    generalize a1.tmps.getD 29 undef = t29 at hal
                    generalize a1.tmps.getD 30 undef = t30 at hal
                    generalize a1.tmps.getD 31 undef = t31 at hal
                    generalize a1.tmps.getD 32 undef = t32 at hal
                    generalize a1.tmps.getD 33 undef = t33 at hal
                    generalize a1.tmps.getD 34 undef = t34 at hal
                    generalize a1.tmps.getD 35 undef = t35 at hal
                    generalize a1.tmps.getD 36 undef = t36 at hal
                    generalize a1.tmps.getD 37 undef = t37 at hal
                    generalize a1.tmps.getD 38 undef = t38 at hal
                    generalize a1.tmps.getD 39 undef = t39 at hal
                    generalize a1.tmps.getD 40 undef = t40 at hal
                    generalize a1.tmps.getD 41 undef = t41 at hal
                    generalize a1.tmps.getD 42 undef = t42 at hal
                    generalize a1.tmps.getD 43 undef = t43 at hal
                    generalize a1.tmps.getD 44 undef = t44 at hal
                    generalize a1.tmps.getD 45 undef = t45 at hal
                    generalize a1.tmps.getD 47 undef = t47 at hal
                    generalize a1.tmps.getD 48 undef = t48 at hal
                    generalize a1.tmps.getD 49 undef = t49 at hal
                    generalize a1.tmps.getD 50 undef = t50 at hal
                    generalize a1.tmps.getD 51 undef = t51 at hal
                    generalize a1.tmps.getD 52 undef = t52 at hal
                    generalize a1.tmps.getD 53 undef = t53 at hal
                    generalize a1.tmps.getD 54 undef = t54 at hal
                    generalize a1.tmps.getD 55 undef = t55 at hal
                    generalize a1.tmps.getD 56 undef = t56 at hal
                    generalize a1.tmps.getD 57 undef = t57 at hal
                    generalize a1.tmps.getD 58 undef = t58 at hal
                    generalize a1.tmps.getD 59 undef = t59 at hal
                    generalize a1.tmps.getD 60 undef = t60 at hal
                    generalize a1.tmps.getD 61 undef = t61 at hal
                    generalize a1.tmps.getD 62 undef = t62 at hal
                    generalize a1.tmps.getD 63 undef = t63 at hal
                    generalize a1.tmps.getD 64 undef = t64 at hal
                    generalize a1.tmps.getD 65 undef = t65 at hal
                    generalize a1.tmps.getD 66 undef = t66 at hal
                    generalize a1.tmps.getD 67 undef = t67 at hal
                    generalize a1.tmps.getD 68 undef = t68 at hal
                    generalize a1.tmps.getD 69 undef = t69 at hal
                    generalize a1.tmps.getD 70 undef = t70 at hal
                    generalize a1.tmps.getD 71 undef = t71 at hal
                    generalize a1.tmps.getD 72 undef = t72 at hal
                    generalize a1.tmps.getD 73 undef = t73 at hal
                    generalize a1.tmps.getD 74 undef = t74 at hal
                    generalize a1.tmps.getD 75 undef = t75 at hal
                    generalize a1.tmps.getD 76 undef = t76 at hal
                    generalize a1.tmps.getD 77 undef = t77 at hal
                    generalize a1.tmps.getD 78 undef = t78 at hal
                    generalize a1.tmps.getD 79 undef = t79 at hal
                    generalize a1.tmps.getD 80 undef = t80 at hal
                    generalize a1.tmps.getD 81 undef = t81 at hal
                    generalize a1.tmps.getD 82 undef = t82 at hal
                    generalize a1.tmps.getD 83 undef = t83 at hal
                    generalize a1.tmps.getD 84 undef = t84 at hal
                    generalize a1.tmps.getD 85 undef = t85 at hal
                    generalize a1.tmps.getD 86 undef = t86 at hal
                    generalize a1.tmps.getD 87 undef = t87 at hal
                    generalize a1.tmps.getD 88 undef = t88 at hal
                    generalize a1.tmps.getD 89 undef = t89 at hal
                    generalize a1.tmps.getD 90 undef = t90 at hal
                    generalize a1.tmps.getD 91 undef = t91 at hal
                    generalize a1.tmps.getD 92 undef = t92 at hal
                    generalize a1.tmps.getD 93 undef = t93 at hal
                    generalize a1.tmps.getD 94 undef = t94 at hal
                    generalize a1.tmps.getD 95 undef = t95 at hal
                    generalize a1.tmps.getD 96 undef = t96 at hal
                    generalize a1.tmps.getD 97 undef = t97 at hal
                    generalize a1.tmps.getD 98 undef = t98 at hal
                    generalize a1.tmps.getD 99 undef = t99 at hal
                    generalize a1.tmps.getD 100 undef = t100 at hal
                    generalize a1.tmps.getD 101 undef = t101 at hal
                    generalize a1.tmps.getD 102 undef = t102 at hal
                    generalize a1.tmps.getD 103 undef = t103 at hal
                    generalize a1.tmps.getD 104 undef = t104 at hal
                    generalize a1.tmps.getD 105 undef = t105 at hal
                    generalize a1.tmps.getD 106 undef = t106 at hal
                    generalize a1.tmps.getD 107 undef = t107 at hal
                    generalize a1.tmps.getD 108 undef = t108 at hal
                    generalize a1.tmps.getD 109 undef = t109 at hal
                    generalize a1.tmps.getD 110 undef = t110 at hal
                    generalize a1.tmps.getD 111 undef = t111 at hal
                    generalize a1.tmps.getD 112 undef = t112 at hal
                    generalize a1.tmps.getD 113 undef = t113 at hal
                    generalize a1.tmps.getD 114 undef = t114 at hal
                    generalize a1.tmps.getD 115 undef = t115 at hal
                    generalize a1.tmps.getD 116 undef = t116 at hal
                    generalize a1.tmps.getD 117 undef = t117 at hal
                    generalize a1.tmps.getD 118 undef = t118 at hal
                    generalize a1.tmps.getD 119 undef = t119 at hal
                    generalize a1.tmps.getD 120 undef = t120 at hal
                    generalize a1.tmps.getD 121 undef = t121 at hal
                    generalize a1.tmps.getD 122 undef = t122 at hal
                    generalize a1.tmps.getD 123 undef = t123 at hal
                    generalize a1.tmps.getD 124 undef = t124 at hal
                    generalize a1.tmps.getD 125 undef = t125 at hal
                    generalize a1.tmps.getD 126 undef = t126 at hal
                    generalize a1.tmps.getD 127 undef = t127 at hal
                    generalize a1.tmps.getD 128 undef = t128 at hal
                    generalize a1.tmps.getD 129 undef = t129 at hal
                    generalize a1.tmps.getD 130 undef = t130 at hal
                    generalize a1.tmps.getD 131 undef = t131 at hal
                    generalize a1.tmps.getD 132 undef = t132 at hal
                    generalize a1.tmps.getD 133 undef = t133 at hal
                    generalize a1.tmps.getD 134 undef = t134 at hal
                    generalize a1.tmps.getD 135 undef = t135 at hal
                    generalize a1.tmps.getD 136 undef = t136 at hal
                    generalize a1.tmps.getD 137 undef = t137 at hal
                    generalize a1.tmps.getD 138 undef = t138 at hal
                    generalize a1.tmps.getD 139 undef = t139 at hal
                    generalize a1.tmps.getD 140 undef = t140 at hal
                    generalize a1.tmps.getD 141 undef = t141 at hal
                    generalize a1.tmps.getD 142 undef = t142 at hal
                    generalize a1.tmps.getD 143 undef = t143 at hal
                    generalize a1.tmps.getD 144 undef = t144 at hal
                    generalize a1.tmps.getD 145 undef = t145 at hal
                    generalize a1.tmps.getD 146 undef = t146 at hal
                    generalize a1.tmps.getD 147 undef = t147 at hal
                    generalize a1.tmps.getD 148 undef = t148 at hal
                    generalize a1.tmps.getD 149 undef = t149 at hal
                    generalize a1.tmps.getD 150 undef = t150 at hal
                    generalize a1.tmps.getD 151 undef = t151 at hal
                    generalize a1.tmps.getD 152 undef = t152 at hal
                    generalize a1.tmps.getD 153 undef = t153 at hal
                    generalize a1.tmps.getD 154 undef = t154 at hal
                    generalize a1.tmps.getD 155 undef = t155 at hal
                    generalize a1.tmps.getD 156 undef = t156 at hal
                    generalize a1.tmps.getD 157 undef = t157 at hal
                    generalize a1.tmps.getD 158 undef = t158 at hal
                    generalize a1.tmps.getD 159 undef = t159 at hal
                    generalize a1.tmps.getD 160 undef = t160 at hal
                    generalize a1.tmps.getD 161 undef = t161 at hal
                    generalize a1.tmps.getD 162 undef = t162 at hal
                    generalize a1.tmps.getD 163 undef = t163 at hal
                    generalize a1.tmps.getD 164 undef = t164 at hal
                    generalize a1.tmps.getD 165 undef = t165 at hal
                    generalize a1.tmps.getD 166 undef = t166 at hal
                    generalize a1.tmps.getD 167 undef = t167 at hal
                    generalize a1.tmps.getD 168 undef = t168 at hal
                    generalize a1.tmps.getD 169 undef = t169 at hal
                    generalize a1.tmps.getD 170 undef = t170 at hal
                    generalize a1.tmps.getD 171 undef = t171 at hal
                    generalize a1.tmps.getD 172 undef = t172 at hal
                    generalize a1.tmps.getD 173 undef = t173 at hal
                    generalize a1.tmps.getD 174 undef = t174 at hal
                    generalize a1.tmps.getD 175 undef = t175 at hal
                    generalize a1.tmps.getD 176 undef = t176 at hal
                    generalize a1.tmps.getD 177 undef = t177 at hal
                    generalize a1.tmps.getD 178 undef = t178 at hal
                    generalize a1.tmps.getD 179 undef = t179 at hal
                    generalize a1.tmps.getD 180 undef = t180 at hal
                    generalize a1.tmps.getD 181 undef = t181 at hal
                    generalize a1.tmps.getD 182 undef = t182 at hal
                    generalize a1.tmps.getD 183 undef = t183 at hal
                    generalize a1.tmps.getD 184 undef = t184 at hal
                    generalize a1.tmps.getD 185 undef = t185 at hal
                    generalize a1.tmps.getD 186 undef = t186 at hal
                    generalize a1.tmps.getD 187 undef = t187 at hal
                    clear l0 l1 l7 l8 l9 l10 l11 l12 l46 hde
                    subst hal
                    have HU4 := Lib.hid (Up.trans HU1.out HU3.out)
                    have HI3 := Lib.hid (HI2.out.up HU3.out)
                    cases b
                    · go_wp2_with fail
                      exact ⟨⟨some ⟨g, o, none⟩, l, zs, hkm.1, rfl, HI3, HS2, HU4⟩, by show l < k + 8 + 1 + 1; exact hkm.2⟩
                    · have HN8 := Lib.hid (noHi_or (hiE (or_lt HL0.out HL8.out) HB0.out))
                      have HS3 := Lib.hid (show Ut.ok (zs.drop 16) = Ut.ok xs by rw [← HS2.out, ← HH0.out HN8.out.1, ← HH8.out HN8.out.2, List.drop_drop])
                      have HI4 := Lib.hid (show InB w3 (some ⟨g, o + 16, none⟩) (l - 16) (l - 16) (zs.drop 16) from HI3.out.tail (p := 16) (by omega))
                      have hkn : l - 16 ≤ m ∧ l - 16 < k + 8 + 1 + 1 ∧ 1 ≤ l - 16 := by omega
                      clear HC0 HC8 HH0 HH8 HL0 HL8 HN8 HB0 HK HX0 HX8 HI3 HI2 HS2
                      go_upto_region 9 with (fail)
                      go_upto_region 10 with (fail)
                      go_wp2_with fail
                      generalize hs47 : Value.slice (some ⟨g, o, none⟩) l l = s47
                      generalize hs48 : Value.slice (some ⟨g, o + 16, none⟩) (l - 16) (l - 16) = s48
                      clear hs47
                      go_loopw [0] (fun s w2 => ∃ (A2 : Option Addr) (l2 : Nat) (zz : List Int), l2 ≤ m ∧ l2 < k + 8 + 1 + 1 ∧ 1 ≤ l2 ∧ s = .slice A2 l2 l2 ∧ Hid (InB w2 A2 l2 l2 zz) ∧ Hid (Ut.ok zz = Ut.ok xs) ∧ Hid (Up w w2)) (fun s _ => lenV s)
                      case atStart => exact ⟨some ⟨g, o + 16, none⟩, l - 16, zs.drop 16, hkn.1, hkn.2.1, hkn.2.2, hs48.symm, HI4, HS3, HU4⟩
                      case round =>
                        clear HI4 HS3 HU4 hs48 hkn k16 HU3 HU1
                        obtain ⟨A2, l, zs, hlm, hlN, hl1, rfl, HI2, HS2, HU1⟩ := hrel
                        obtain ⟨g, o, rfl, -, -⟩ := HI2.out.cells (fun e => by have h1 := congrArg List.length e; rw [ints_length, HI2.out.len, List.length_nil] at h1; omega)
                        by_cases k32 : l ≤ 32
                        · have f32 : decide (32 < (l : Int)) = false := decide_eq_false (by omega)
                          go_upto_region 10 with (fail)
                          go_big_quiet_o (fail)
                          go_wp2_with fail
                          exact ⟨⟨some ⟨g, o, none⟩, l, zs, hlm, rfl, HI2.out.up (up_drewN _ _) |> Lib.hid, HS2, Lib.hid (Up.trans HU1.out (up_drewN _ _))⟩, by show l < k + 8 + 1 + 1; exact hlN⟩
                        · replace k32 : 32 < l := by omega
                          go_upto_region 10 with (fail)
                          have HX0 := Lib.hid (show InB wr (some ⟨g, o, none⟩) l l zs from HI2.out)
                          have HX8 := Lib.hid (show InB wr (some ⟨g, o + 8, none⟩) (l - 8) (l - 8) (zs.drop 8) from HI2.out.tail (p := 8) (by omega))
                          have HX16 := Lib.hid (show InB wr (some ⟨g, o + 16, none⟩) (l - 16) (l - 16) (zs.drop 16) from HI2.out.tail (p := 16) (by omega))
                          have HX24 := Lib.hid (show InB wr (some ⟨g, o + 24, none⟩) (l - 24) (l - 24) (zs.drop 24) from HI2.out.tail (p := 24) (by omega))
                          obtain ⟨W0, eW0⟩ : ∃ W, Ut.word (byt zs) 0 = W := ⟨_, rfl⟩
                          have HL0 := Lib.hid (show W0 < 18446744073709551616 by rw [← eW0]; exact word_lt (byt_byt HX0.out.byt))
                          have HC0 := Lib.hid (show ∀ wx, Up wr wx → Calls Tryd.prog 51 #[.slice (some ⟨g, o, none⟩) l l] wx fun e w3 => ∃ v, e = .returned v ∧ Up wx w3 ∧ v = .int .u64 ((W0 : Nat) : Int) from fun wx hU => (word_any _ _ _ _ wx (HX0.out.up hU) (by omega)).mono fun e w3 ⟨he, q, hw⟩ => ⟨_, he, by rw [hw]; exact up_drewN _ _, by rw [eW0]⟩)
                          have HH0 := Lib.hid (show noHi W0 → Ut.ok (zs.drop 8) = Ut.ok zs from fun h => ok_eight HX0.out.byt (by rw [eW0]; exact h))
                          clear eW0
                          obtain ⟨W8, eW8⟩ : ∃ W, Ut.word (byt (zs.drop 8)) 0 = W := ⟨_, rfl⟩
                          have HL8 := Lib.hid (show W8 < 18446744073709551616 by rw [← eW8]; exact word_lt (byt_byt HX8.out.byt))
                          have HC8 := Lib.hid (show ∀ wx, Up wr wx → Calls Tryd.prog 51 #[.slice (some ⟨g, o + 8, none⟩) (l - 8) (l - 8)] wx fun e w3 => ∃ v, e = .returned v ∧ Up wx w3 ∧ v = .int .u64 ((W8 : Nat) : Int) from fun wx hU => (word_any _ _ _ _ wx (HX8.out.up hU) (by omega)).mono fun e w3 ⟨he, q, hw⟩ => ⟨_, he, by rw [hw]; exact up_drewN _ _, by rw [eW8]⟩)
                          have HH8 := Lib.hid (show noHi W8 → Ut.ok ((zs.drop 8).drop 8) = Ut.ok (zs.drop 8) from fun h => ok_eight HX8.out.byt (by rw [eW8]; exact h))
                          clear eW8
                          obtain ⟨W16, eW16⟩ : ∃ W, Ut.word (byt (zs.drop 16)) 0 = W := ⟨_, rfl⟩
                          have HL16 := Lib.hid (show W16 < 18446744073709551616 by rw [← eW16]; exact word_lt (byt_byt HX16.out.byt))
                          have HC16 := Lib.hid (show ∀ wx, Up wr wx → Calls Tryd.prog 51 #[.slice (some ⟨g, o + 16, none⟩) (l - 16) (l - 16)] wx fun e w3 => ∃ v, e = .returned v ∧ Up wx w3 ∧ v = .int .u64 ((W16 : Nat) : Int) from fun wx hU => (word_any _ _ _ _ wx (HX16.out.up hU) (by omega)).mono fun e w3 ⟨he, q, hw⟩ => ⟨_, he, by rw [hw]; exact up_drewN _ _, by rw [eW16]⟩)
                          have HH16 := Lib.hid (show noHi W16 → Ut.ok ((zs.drop 16).drop 8) = Ut.ok (zs.drop 16) from fun h => ok_eight HX16.out.byt (by rw [eW16]; exact h))
                          clear eW16
                          obtain ⟨W24, eW24⟩ : ∃ W, Ut.word (byt (zs.drop 24)) 0 = W := ⟨_, rfl⟩
                          have HL24 := Lib.hid (show W24 < 18446744073709551616 by rw [← eW24]; exact word_lt (byt_byt HX24.out.byt))
                          have HC24 := Lib.hid (show ∀ wx, Up wr wx → Calls Tryd.prog 51 #[.slice (some ⟨g, o + 24, none⟩) (l - 24) (l - 24)] wx fun e w3 => ∃ v, e = .returned v ∧ Up wx w3 ∧ v = .int .u64 ((W24 : Nat) : Int) from fun wx hU => (word_any _ _ _ _ wx (HX24.out.up hU) (by omega)).mono fun e w3 ⟨he, q, hw⟩ => ⟨_, he, by rw [hw]; exact up_drewN _ _, by rw [eW24]⟩)
                          have HH24 := Lib.hid (show noHi W24 → Ut.ok ((zs.drop 24).drop 8) = Ut.ok (zs.drop 24) from fun h => ok_eight HX24.out.byt (by rw [eW24]; exact h))
                          clear eW24
                          obtain ⟨b, hb⟩ : ∃ b : Bool, (bits .and .u64 ((((W0 ||| W8) ||| (W16 ||| W24)) : Nat) : Int) 9259542123273814144 == 0) = b := ⟨_, rfl⟩
                          have HB0 := Lib.hid hb
                          clear hb
                          have HK : ∀ φ ∈ [Is (.slice (some ⟨g, o, none⟩) l l), Is (.int .i64 (l : Int)), Is (.bool true), Is (.bool true), Is (.slice (some ⟨g, o, none⟩) l l), Is (.int .u64 ((W0 : Nat) : Int)), Is (.slice (some ⟨g, o, none⟩) l l), Is (.slice (some ⟨g, o + 8, none⟩) (l - 8) (l - 8)), Is (.int .u64 ((W8 : Nat) : Int)), Is (.int .u64 (((W0 ||| W8) : Nat) : Int)), Is (.slice (some ⟨g, o, none⟩) l l), Is (.slice (some ⟨g, o + 16, none⟩) (l - 16) (l - 16)), Is (.int .u64 ((W16 : Nat) : Int)), Is (.slice (some ⟨g, o, none⟩) l l), Is (.slice (some ⟨g, o + 24, none⟩) (l - 24) (l - 24)), Is (.int .u64 ((W24 : Nat) : Int)), Is (.int .u64 (((W16 ||| W24) : Nat) : Int)), Is (.int .u64 ((((W0 ||| W8) ||| (W16 ||| W24)) : Nat) : Int)), Is (.int .u64 (bits .and .u64 ((((W0 ||| W8) ||| (W16 ||| W24)) : Nat) : Int) 9259542123273814144)), Is (.bool b), Is (.bool b)], Keeps φ := by
                            simp [keeps_is]
                          refine staged_lit (by kernel_rfl) (facts [Is (.slice (some ⟨g, o, none⟩) l l), Is (.int .i64 (l : Int)), Is (.bool true), Is (.bool true), Is (.slice (some ⟨g, o, none⟩) l l), Is (.int .u64 ((W0 : Nat) : Int)), Is (.slice (some ⟨g, o, none⟩) l l), Is (.slice (some ⟨g, o + 8, none⟩) (l - 8) (l - 8)), Is (.int .u64 ((W8 : Nat) : Int)), Is (.int .u64 (((W0 ||| W8) : Nat) : Int)), Is (.slice (some ⟨g, o, none⟩) l l), Is (.slice (some ⟨g, o + 16, none⟩) (l - 16) (l - 16)), Is (.int .u64 ((W16 : Nat) : Int)), Is (.slice (some ⟨g, o, none⟩) l l), Is (.slice (some ⟨g, o + 24, none⟩) (l - 24) (l - 24)), Is (.int .u64 ((W24 : Nat) : Int)), Is (.int .u64 (((W16 ||| W24) : Nat) : Int)), Is (.int .u64 ((((W0 ||| W8) ||| (W16 ||| W24)) : Nat) : Int)), Is (.int .u64 (bits .and .u64 ((((W0 ||| W8) ||| (W16 ||| W24)) : Nat) : Int) 9259542123273814144)), Is (.bool b), Is (.bool b)]) (Stg [] (fun _ x => Up wr x)) 188 rfl (by decide +kernel) (by decide +kernel) (Stg.start (Up.drew wr)) ?_ ?_
                          · refine ⟨?_, ?_, ?_, ?_, ?_, ?_, ?_, ?_, ?_, ?_, ?_, ?_, ?_, ?_, ?_, ?_, ?_, ?_, ?_, ?_, ?_, trivial⟩
                            · refine opS_same rfl rfl fun Lx ac w1 hJ hl hc ho hd => ?_
                              have s0 : ac.eval (.tmp 0) = .slice (some ⟨g, o, none⟩) l l := ho 0 rfl
                              exact ⟨_, x_move (.tmp 0) rfl s0, rfl⟩
                            · refine opS_same rfl rfl fun Lx ac w1 hJ hl hc ho hd => ?_
                              have d0 : ac.eval (.tmp 49) = .slice (some ⟨g, o, none⟩) l l := hd 0 _ _ rfl rfl rfl
                              exact ⟨_, x_len (.tmp 49) 22 5 rfl Tryd.underlying22 d0, rfl⟩
                            · refine opS_same rfl rfl fun Lx ac w1 hJ hl hc ho hd => ?_
                              have d1 : ac.eval (.tmp 50) = .int .i64 (l : Int) := hd 1 _ _ rfl rfl rfl
                              exact ⟨_, x_bin .gtr 3 3 (.tmp 50) (.const (.int .i64 32)) rfl d1 rfl (grdg3 _ _ _ _ _) (run_gtr3 l 32 (by omega) _), rfl⟩
                            · refine opS_same rfl rfl fun Lx ac w1 hJ hl hc ho hd => ?_
                              have d2 : ac.eval (.tmp 51) = .bool true := hd 2 _ _ rfl rfl rfl
                              exact ⟨_, x_move (.tmp 51) rfl d2, rfl⟩
                            · refine opS_sameG 3 true _ _ rfl rfl rfl rfl (fun _ _ h => h) rfl fun Lx ac w1 hJ hl hc ho hd => ?_
                              have s0 : ac.eval (.tmp 0) = .slice (some ⟨g, o, none⟩) l l := ho 0 rfl
                              exact ⟨_, x_move (.tmp 0) rfl s0, rfl⟩
                            · refine opS_callUpG 3 true _ _ rfl rfl rfl rfl (fun _ _ h => h) rfl (fun k wx wy h hu => Up.trans h hu) (facts_keep HK) fun L ac wx hJ hl hc ho hd => ?_
                              have d4 : ac.eval (.tmp 53) = .slice (some ⟨g, o, none⟩) l l := hd 4 _ _ rfl rfl rfl
                              obtain ⟨_, _, hU⟩ := hJ
                              refine ⟨51, _, x_fcall 51 [.tmp 53] _ rfl (by kernel_rfl), ?_⟩
                              simp only [List.map_cons, List.map_nil, d4]
                              exact (HC0.out wx hU).mono fun e wr ⟨v, he, hu, hv⟩ => ⟨v, he, hu, hv⟩
                            · refine opS_sameG 3 true _ _ rfl rfl rfl rfl (fun _ _ h => h) rfl fun Lx ac w1 hJ hl hc ho hd => ?_
                              have s0 : ac.eval (.tmp 0) = .slice (some ⟨g, o, none⟩) l l := ho 0 rfl
                              exact ⟨_, x_move (.tmp 0) rfl s0, rfl⟩
                            · refine opS_sameG 3 true _ _ rfl rfl rfl rfl (fun _ _ h => h) rfl fun Lx ac w1 hJ hl hc ho hd => ?_
                              have d6 : ac.eval (.tmp 55) = .slice (some ⟨g, o, none⟩) l l := hd 6 _ _ rfl rfl rfl
                              exact ⟨_, x_sliceL 22 (.tmp 55) (.const (.int .i64 8)) rfl d6 rfl (run_slL g o l 8 (by omega) _), rfl⟩
                            · refine opS_callUpG 3 true _ _ rfl rfl rfl rfl (fun _ _ h => h) rfl (fun k wx wy h hu => Up.trans h hu) (facts_keep HK) fun L ac wx hJ hl hc ho hd => ?_
                              have d7 : ac.eval (.tmp 56) = .slice (some ⟨g, o + 8, none⟩) (l - 8) (l - 8) := hd 7 _ _ rfl rfl rfl
                              obtain ⟨_, _, hU⟩ := hJ
                              refine ⟨51, _, x_fcall 51 [.tmp 56] _ rfl (by kernel_rfl), ?_⟩
                              simp only [List.map_cons, List.map_nil, d7]
                              exact (HC8.out wx hU).mono fun e wr ⟨v, he, hu, hv⟩ => ⟨v, he, hu, hv⟩
                            · refine opS_sameG 3 true _ _ rfl rfl rfl rfl (fun _ _ h => h) rfl fun Lx ac w1 hJ hl hc ho hd => ?_
                              have d5 : ac.eval (.tmp 54) = .int .u64 ((W0 : Nat) : Int) := hd 5 _ _ rfl rfl rfl
                              have d8 : ac.eval (.tmp 57) = .int .u64 ((W8 : Nat) : Int) := hd 8 _ _ rfl rfl rfl
                              exact ⟨_, x_bin .or 12 12 (.tmp 54) (.tmp 57) rfl d5 d8 (grdo12 _ _ _ _ _) (run_or12 HL0.out HL8.out _), rfl⟩
                            · refine opS_sameG 3 true _ _ rfl rfl rfl rfl (fun _ _ h => h) rfl fun Lx ac w1 hJ hl hc ho hd => ?_
                              have s0 : ac.eval (.tmp 0) = .slice (some ⟨g, o, none⟩) l l := ho 0 rfl
                              exact ⟨_, x_move (.tmp 0) rfl s0, rfl⟩
                            · refine opS_sameG 3 true _ _ rfl rfl rfl rfl (fun _ _ h => h) rfl fun Lx ac w1 hJ hl hc ho hd => ?_
                              have d10 : ac.eval (.tmp 59) = .slice (some ⟨g, o, none⟩) l l := hd 10 _ _ rfl rfl rfl
                              exact ⟨_, x_sliceL 22 (.tmp 59) (.const (.int .i64 16)) rfl d10 rfl (run_slL g o l 16 (by omega) _), rfl⟩
                            · refine opS_callUpG 3 true _ _ rfl rfl rfl rfl (fun _ _ h => h) rfl (fun k wx wy h hu => Up.trans h hu) (facts_keep HK) fun L ac wx hJ hl hc ho hd => ?_
                              have d11 : ac.eval (.tmp 60) = .slice (some ⟨g, o + 16, none⟩) (l - 16) (l - 16) := hd 11 _ _ rfl rfl rfl
                              obtain ⟨_, _, hU⟩ := hJ
                              refine ⟨51, _, x_fcall 51 [.tmp 60] _ rfl (by kernel_rfl), ?_⟩
                              simp only [List.map_cons, List.map_nil, d11]
                              exact (HC16.out wx hU).mono fun e wr ⟨v, he, hu, hv⟩ => ⟨v, he, hu, hv⟩
                            · refine opS_sameG 3 true _ _ rfl rfl rfl rfl (fun _ _ h => h) rfl fun Lx ac w1 hJ hl hc ho hd => ?_
                              have s0 : ac.eval (.tmp 0) = .slice (some ⟨g, o, none⟩) l l := ho 0 rfl
                              exact ⟨_, x_move (.tmp 0) rfl s0, rfl⟩
                            · refine opS_sameG 3 true _ _ rfl rfl rfl rfl (fun _ _ h => h) rfl fun Lx ac w1 hJ hl hc ho hd => ?_
                              have d13 : ac.eval (.tmp 62) = .slice (some ⟨g, o, none⟩) l l := hd 13 _ _ rfl rfl rfl
                              exact ⟨_, x_sliceL 22 (.tmp 62) (.const (.int .i64 24)) rfl d13 rfl (run_slL g o l 24 (by omega) _), rfl⟩
                            · refine opS_callUpG 3 true _ _ rfl rfl rfl rfl (fun _ _ h => h) rfl (fun k wx wy h hu => Up.trans h hu) (facts_keep HK) fun L ac wx hJ hl hc ho hd => ?_
                              have d14 : ac.eval (.tmp 63) = .slice (some ⟨g, o + 24, none⟩) (l - 24) (l - 24) := hd 14 _ _ rfl rfl rfl
                              obtain ⟨_, _, hU⟩ := hJ
                              refine ⟨51, _, x_fcall 51 [.tmp 63] _ rfl (by kernel_rfl), ?_⟩
                              simp only [List.map_cons, List.map_nil, d14]
                              exact (HC24.out wx hU).mono fun e wr ⟨v, he, hu, hv⟩ => ⟨v, he, hu, hv⟩
                            · refine opS_sameG 3 true _ _ rfl rfl rfl rfl (fun _ _ h => h) rfl fun Lx ac w1 hJ hl hc ho hd => ?_
                              have d12 : ac.eval (.tmp 61) = .int .u64 ((W16 : Nat) : Int) := hd 12 _ _ rfl rfl rfl
                              have d15 : ac.eval (.tmp 64) = .int .u64 ((W24 : Nat) : Int) := hd 15 _ _ rfl rfl rfl
                              exact ⟨_, x_bin .or 12 12 (.tmp 61) (.tmp 64) rfl d12 d15 (grdo12 _ _ _ _ _) (run_or12 HL16.out HL24.out _), rfl⟩
                            · refine opS_sameG 3 true _ _ rfl rfl rfl rfl (fun _ _ h => h) rfl fun Lx ac w1 hJ hl hc ho hd => ?_
                              have d9 : ac.eval (.tmp 58) = .int .u64 (((W0 ||| W8) : Nat) : Int) := hd 9 _ _ rfl rfl rfl
                              have d16 : ac.eval (.tmp 65) = .int .u64 (((W16 ||| W24) : Nat) : Int) := hd 16 _ _ rfl rfl rfl
                              exact ⟨_, x_bin .or 12 12 (.tmp 58) (.tmp 65) rfl d9 d16 (grdo12 _ _ _ _ _) (run_or12 (or_lt HL0.out HL8.out) (or_lt HL16.out HL24.out) _), rfl⟩
                            · refine opS_sameG 3 true _ _ rfl rfl rfl rfl (fun _ _ h => h) rfl fun Lx ac w1 hJ hl hc ho hd => ?_
                              have d17 : ac.eval (.tmp 66) = .int .u64 ((((W0 ||| W8) ||| (W16 ||| W24)) : Nat) : Int) := hd 17 _ _ rfl rfl rfl
                              exact ⟨_, x_bin .and 12 12 (.tmp 66) (.const (.int .u64 9259542123273814144)) rfl d17 rfl (grda12 _ _ _ _ _) (run_and12 _ _), rfl⟩
                            · refine opS_sameG 3 true _ _ rfl rfl rfl rfl (fun _ _ h => h) rfl fun Lx ac w1 hJ hl hc ho hd => ?_
                              have d18 : ac.eval (.tmp 67) = .int .u64 (bits .and .u64 ((((W0 ||| W8) ||| (W16 ||| W24)) : Nat) : Int) 9259542123273814144) := hd 18 _ _ rfl rfl rfl
                              exact ⟨_, x_bin .eql 12 12 (.tmp 67) (.const (.int .u64 0)) rfl d18 rfl (grde12 _ _ _ _ _) (run_eq12 HB0.out _), rfl⟩
                            · refine opS_same rfl rfl fun Lx ac w1 hJ hl hc ho hd => ?_
                              have d3 : ac.eval (.tmp 52) = .bool true := hd 3 _ _ rfl rfl rfl
                              have d19 : ac.eval (.tmp 68) = .bool b := hd 19 _ _ rfl rfl rfl
                              exact ⟨_, x_pick (.tmp 52) (.tmp 68) (.const (.bool false)) (b := true) (Y := .bool false) rfl d3 (fun _ => d19) (fun h => absurd h (by decide)), rfl⟩
                          · intro L1 a1 w3 hI hall
                            obtain ⟨kq, hk, hUF⟩ := hI.done hall (by simp)
                            have HU3 := Lib.hid (show Up wr w3 from hUF)
                            clear hk hUF kq
                            have l0 : a1.tmps.getD 0 undef = .slice (some ⟨g, o, none⟩) l l := hI.old 0 rfl
                            have l1 : a1.tmps.getD 1 undef = undef := hI.old 1 rfl
                            have l7 : a1.tmps.getD 7 undef = .slice A m c := hI.old 7 rfl
                            have l8 : a1.tmps.getD 8 undef = .slice A m c := hI.old 8 rfl
                            have l9 : a1.tmps.getD 9 undef = .int .i64 (m : Int) := hI.old 9 rfl
                            have l10 : a1.tmps.getD 10 undef = .slice A m c := hI.old 10 rfl
                            have l11 : a1.tmps.getD 11 undef = .int .i64 (m : Int) := hI.old 11 rfl
                            have l12 : a1.tmps.getD 12 undef = .slice A m m := hI.old 12 rfl
                            have l2 : a1.tmps.getD 2 undef = t2 := hI.old 2 rfl
                            have l3 : a1.tmps.getD 3 undef = t3 := hI.old 3 rfl
                            have l4 : a1.tmps.getD 4 undef = t4 := hI.old 4 rfl
                            have l5 : a1.tmps.getD 5 undef = t5 := hI.old 5 rfl
                            have l6 : a1.tmps.getD 6 undef = t6 := hI.old 6 rfl
                            have l13 : a1.tmps.getD 13 undef = t13 := hI.old 13 rfl
                            have l14 : a1.tmps.getD 14 undef = t14 := hI.old 14 rfl
                            have l15 : a1.tmps.getD 15 undef = t15 := hI.old 15 rfl
                            have l16 : a1.tmps.getD 16 undef = t16 := hI.old 16 rfl
                            have l17 : a1.tmps.getD 17 undef = t17 := hI.old 17 rfl
                            have l18 : a1.tmps.getD 18 undef = t18 := hI.old 18 rfl
                            have l19 : a1.tmps.getD 19 undef = t19 := hI.old 19 rfl
                            have l20 : a1.tmps.getD 20 undef = t20 := hI.old 20 rfl
                            have l21 : a1.tmps.getD 21 undef = t21 := hI.old 21 rfl
                            have l22 : a1.tmps.getD 22 undef = t22 := hI.old 22 rfl
                            have l23 : a1.tmps.getD 23 undef = t23 := hI.old 23 rfl
                            have l24 : a1.tmps.getD 24 undef = t24 := hI.old 24 rfl
                            have l25 : a1.tmps.getD 25 undef = t25 := hI.old 25 rfl
                            have l26 : a1.tmps.getD 26 undef = t26 := hI.old 26 rfl
                            have l27 : a1.tmps.getD 27 undef = t27 := hI.old 27 rfl
                            have l28 : a1.tmps.getD 28 undef = t28 := hI.old 28 rfl
                            have l29 : a1.tmps.getD 29 undef = t29 := hI.old 29 rfl
                            have l30 : a1.tmps.getD 30 undef = t30 := hI.old 30 rfl
                            have l31 : a1.tmps.getD 31 undef = t31 := hI.old 31 rfl
                            have l32 : a1.tmps.getD 32 undef = t32 := hI.old 32 rfl
                            have l33 : a1.tmps.getD 33 undef = t33 := hI.old 33 rfl
                            have l34 : a1.tmps.getD 34 undef = t34 := hI.old 34 rfl
                            have l35 : a1.tmps.getD 35 undef = t35 := hI.old 35 rfl
                            have l36 : a1.tmps.getD 36 undef = t36 := hI.old 36 rfl
                            have l37 : a1.tmps.getD 37 undef = t37 := hI.old 37 rfl
                            have l38 : a1.tmps.getD 38 undef = t38 := hI.old 38 rfl
                            have l39 : a1.tmps.getD 39 undef = t39 := hI.old 39 rfl
                            have l40 : a1.tmps.getD 40 undef = t40 := hI.old 40 rfl
                            have l41 : a1.tmps.getD 41 undef = t41 := hI.old 41 rfl
                            have l42 : a1.tmps.getD 42 undef = t42 := hI.old 42 rfl
                            have l43 : a1.tmps.getD 43 undef = t43 := hI.old 43 rfl
                            have l44 : a1.tmps.getD 44 undef = t44 := hI.old 44 rfl
                            have l45 : a1.tmps.getD 45 undef = t45 := hI.old 45 rfl
                            have l46 : a1.tmps.getD 46 undef = .bool true := hI.old 46 rfl
                            have l47 : a1.tmps.getD 47 undef = s47 := hI.old 47 rfl
                            have l48 : a1.tmps.getD 48 undef = s48 := hI.old 48 rfl
                            have l72 : a1.tmps.getD 72 undef = t72 := hI.old 72 rfl
                            have l73 : a1.tmps.getD 73 undef = t73 := hI.old 73 rfl
                            have l74 : a1.tmps.getD 74 undef = t74 := hI.old 74 rfl
                            have l75 : a1.tmps.getD 75 undef = t75 := hI.old 75 rfl
                            have l76 : a1.tmps.getD 76 undef = t76 := hI.old 76 rfl
                            have l77 : a1.tmps.getD 77 undef = t77 := hI.old 77 rfl
                            have l78 : a1.tmps.getD 78 undef = t78 := hI.old 78 rfl
                            have l79 : a1.tmps.getD 79 undef = t79 := hI.old 79 rfl
                            have l80 : a1.tmps.getD 80 undef = t80 := hI.old 80 rfl
                            have l81 : a1.tmps.getD 81 undef = t81 := hI.old 81 rfl
                            have l82 : a1.tmps.getD 82 undef = t82 := hI.old 82 rfl
                            have l83 : a1.tmps.getD 83 undef = t83 := hI.old 83 rfl
                            have l84 : a1.tmps.getD 84 undef = t84 := hI.old 84 rfl
                            have l85 : a1.tmps.getD 85 undef = t85 := hI.old 85 rfl
                            have l86 : a1.tmps.getD 86 undef = t86 := hI.old 86 rfl
                            have l87 : a1.tmps.getD 87 undef = t87 := hI.old 87 rfl
                            have l88 : a1.tmps.getD 88 undef = t88 := hI.old 88 rfl
                            have l89 : a1.tmps.getD 89 undef = t89 := hI.old 89 rfl
                            have l90 : a1.tmps.getD 90 undef = t90 := hI.old 90 rfl
                            have l91 : a1.tmps.getD 91 undef = t91 := hI.old 91 rfl
                            have l92 : a1.tmps.getD 92 undef = t92 := hI.old 92 rfl
                            have l93 : a1.tmps.getD 93 undef = t93 := hI.old 93 rfl
                            have l94 : a1.tmps.getD 94 undef = t94 := hI.old 94 rfl
                            have l95 : a1.tmps.getD 95 undef = t95 := hI.old 95 rfl
                            have l96 : a1.tmps.getD 96 undef = t96 := hI.old 96 rfl
                            have l97 : a1.tmps.getD 97 undef = t97 := hI.old 97 rfl
                            have l98 : a1.tmps.getD 98 undef = t98 := hI.old 98 rfl
                            have l99 : a1.tmps.getD 99 undef = t99 := hI.old 99 rfl
                            have l100 : a1.tmps.getD 100 undef = t100 := hI.old 100 rfl
                            have l101 : a1.tmps.getD 101 undef = t101 := hI.old 101 rfl
                            have l102 : a1.tmps.getD 102 undef = t102 := hI.old 102 rfl
                            have l103 : a1.tmps.getD 103 undef = t103 := hI.old 103 rfl
                            have l104 : a1.tmps.getD 104 undef = t104 := hI.old 104 rfl
                            have l105 : a1.tmps.getD 105 undef = t105 := hI.old 105 rfl
                            have l106 : a1.tmps.getD 106 undef = t106 := hI.old 106 rfl
                            have l107 : a1.tmps.getD 107 undef = t107 := hI.old 107 rfl
                            have l108 : a1.tmps.getD 108 undef = t108 := hI.old 108 rfl
                            have l109 : a1.tmps.getD 109 undef = t109 := hI.old 109 rfl
                            have l110 : a1.tmps.getD 110 undef = t110 := hI.old 110 rfl
                            have l111 : a1.tmps.getD 111 undef = t111 := hI.old 111 rfl
                            have l112 : a1.tmps.getD 112 undef = t112 := hI.old 112 rfl
                            have l113 : a1.tmps.getD 113 undef = t113 := hI.old 113 rfl
                            have l114 : a1.tmps.getD 114 undef = t114 := hI.old 114 rfl
                            have l115 : a1.tmps.getD 115 undef = t115 := hI.old 115 rfl
                            have l116 : a1.tmps.getD 116 undef = t116 := hI.old 116 rfl
                            have l117 : a1.tmps.getD 117 undef = t117 := hI.old 117 rfl
                            have l118 : a1.tmps.getD 118 undef = t118 := hI.old 118 rfl
                            have l119 : a1.tmps.getD 119 undef = t119 := hI.old 119 rfl
                            have l120 : a1.tmps.getD 120 undef = t120 := hI.old 120 rfl
                            have l121 : a1.tmps.getD 121 undef = t121 := hI.old 121 rfl
                            have l122 : a1.tmps.getD 122 undef = t122 := hI.old 122 rfl
                            have l123 : a1.tmps.getD 123 undef = t123 := hI.old 123 rfl
                            have l124 : a1.tmps.getD 124 undef = t124 := hI.old 124 rfl
                            have l125 : a1.tmps.getD 125 undef = t125 := hI.old 125 rfl
                            have l126 : a1.tmps.getD 126 undef = t126 := hI.old 126 rfl
                            have l127 : a1.tmps.getD 127 undef = t127 := hI.old 127 rfl
                            have l128 : a1.tmps.getD 128 undef = t128 := hI.old 128 rfl
                            have l129 : a1.tmps.getD 129 undef = t129 := hI.old 129 rfl
                            have l130 : a1.tmps.getD 130 undef = t130 := hI.old 130 rfl
                            have l131 : a1.tmps.getD 131 undef = t131 := hI.old 131 rfl
                            have l132 : a1.tmps.getD 132 undef = t132 := hI.old 132 rfl
                            have l133 : a1.tmps.getD 133 undef = t133 := hI.old 133 rfl
                            have l134 : a1.tmps.getD 134 undef = t134 := hI.old 134 rfl
                            have l135 : a1.tmps.getD 135 undef = t135 := hI.old 135 rfl
                            have l136 : a1.tmps.getD 136 undef = t136 := hI.old 136 rfl
                            have l137 : a1.tmps.getD 137 undef = t137 := hI.old 137 rfl
                            have l138 : a1.tmps.getD 138 undef = t138 := hI.old 138 rfl
                            have l139 : a1.tmps.getD 139 undef = t139 := hI.old 139 rfl
                            have l140 : a1.tmps.getD 140 undef = t140 := hI.old 140 rfl
                            have l141 : a1.tmps.getD 141 undef = t141 := hI.old 141 rfl
                            have l142 : a1.tmps.getD 142 undef = t142 := hI.old 142 rfl
                            have l143 : a1.tmps.getD 143 undef = t143 := hI.old 143 rfl
                            have l144 : a1.tmps.getD 144 undef = t144 := hI.old 144 rfl
                            have l145 : a1.tmps.getD 145 undef = t145 := hI.old 145 rfl
                            have l146 : a1.tmps.getD 146 undef = t146 := hI.old 146 rfl
                            have l147 : a1.tmps.getD 147 undef = t147 := hI.old 147 rfl
                            have l148 : a1.tmps.getD 148 undef = t148 := hI.old 148 rfl
                            have l149 : a1.tmps.getD 149 undef = t149 := hI.old 149 rfl
                            have l150 : a1.tmps.getD 150 undef = t150 := hI.old 150 rfl
                            have l151 : a1.tmps.getD 151 undef = t151 := hI.old 151 rfl
                            have l152 : a1.tmps.getD 152 undef = t152 := hI.old 152 rfl
                            have l153 : a1.tmps.getD 153 undef = t153 := hI.old 153 rfl
                            have l154 : a1.tmps.getD 154 undef = t154 := hI.old 154 rfl
                            have l155 : a1.tmps.getD 155 undef = t155 := hI.old 155 rfl
                            have l156 : a1.tmps.getD 156 undef = t156 := hI.old 156 rfl
                            have l157 : a1.tmps.getD 157 undef = t157 := hI.old 157 rfl
                            have l158 : a1.tmps.getD 158 undef = t158 := hI.old 158 rfl
                            have l159 : a1.tmps.getD 159 undef = t159 := hI.old 159 rfl
                            have l160 : a1.tmps.getD 160 undef = t160 := hI.old 160 rfl
                            have l161 : a1.tmps.getD 161 undef = t161 := hI.old 161 rfl
                            have l162 : a1.tmps.getD 162 undef = t162 := hI.old 162 rfl
                            have l163 : a1.tmps.getD 163 undef = t163 := hI.old 163 rfl
                            have l164 : a1.tmps.getD 164 undef = t164 := hI.old 164 rfl
                            have l165 : a1.tmps.getD 165 undef = t165 := hI.old 165 rfl
                            have l166 : a1.tmps.getD 166 undef = t166 := hI.old 166 rfl
                            have l167 : a1.tmps.getD 167 undef = t167 := hI.old 167 rfl
                            have l168 : a1.tmps.getD 168 undef = t168 := hI.old 168 rfl
                            have l169 : a1.tmps.getD 169 undef = t169 := hI.old 169 rfl
                            have l170 : a1.tmps.getD 170 undef = t170 := hI.old 170 rfl
                            have l171 : a1.tmps.getD 171 undef = t171 := hI.old 171 rfl
                            have l172 : a1.tmps.getD 172 undef = t172 := hI.old 172 rfl
                            have l173 : a1.tmps.getD 173 undef = t173 := hI.old 173 rfl
                            have l174 : a1.tmps.getD 174 undef = t174 := hI.old 174 rfl
                            have l175 : a1.tmps.getD 175 undef = t175 := hI.old 175 rfl
                            have l176 : a1.tmps.getD 176 undef = t176 := hI.old 176 rfl
                            have l177 : a1.tmps.getD 177 undef = t177 := hI.old 177 rfl
                            have l178 : a1.tmps.getD 178 undef = t178 := hI.old 178 rfl
                            have l179 : a1.tmps.getD 179 undef = t179 := hI.old 179 rfl
                            have l180 : a1.tmps.getD 180 undef = t180 := hI.old 180 rfl
                            have l181 : a1.tmps.getD 181 undef = t181 := hI.old 181 rfl
                            have l182 : a1.tmps.getD 182 undef = t182 := hI.old 182 rfl
                            have l183 : a1.tmps.getD 183 undef = t183 := hI.old 183 rfl
                            have l184 : a1.tmps.getD 184 undef = t184 := hI.old 184 rfl
                            have l185 : a1.tmps.getD 185 undef = t185 := hI.old 185 rfl
                            have l186 : a1.tmps.getD 186 undef = t186 := hI.old 186 rfl
                            have l187 : a1.tmps.getD 187 undef = t187 := hI.old 187 rfl
                            have l69 : a1.tmps.getD 69 undef = .bool b := hI.get hall (i := 20) rfl rfl
                            have hde : a1.defers = [] := hI.defers
                            have hal := act_lit a1 188 hI.size
                            clear hI
                            simp only [List.range, List.range.loop, List.map_cons, List.map_nil] at hal
                            rw [l0, l1, l7, l8, l9, l10, l11, l12, l2, l3, l4, l5, l6, l13, l14, l15, l16, l17, l18, l19, l20, l21, l22, l23, l24, l25, l26, l27, l28, l29, l30, l31, l32, l33, l34, l35, l36, l37, l38, l39, l40, l41, l42, l43, l44, l45, l46, l47, l48, l72, l73, l74, l75, l76, l77, l78, l79, l80, l81, l82, l83, l84, l85, l86, l87, l88, l89, l90, l91, l92, l93, l94, l95, l96, l97, l98, l99, l100, l101, l102, l103, l104, l105, l106, l107, l108, l109, l110, l111, l112, l113, l114, l115, l116, l117, l118, l119, l120, l121, l122, l123, l124, l125, l126, l127, l128, l129, l130, l131, l132, l133, l134, l135, l136, l137, l138, l139, l140, l141, l142, l143, l144, l145, l146, l147, l148, l149, l150, l151, l152, l153, l154, l155, l156, l157, l158, l159, l160, l161, l162, l163, l164, l165, l166, l167, l168, l169, l170, l171, l172, l173, l174, l175, l176, l177, l178, l179, l180, l181, l182, l183, l184, l185, l186, l187, l69, hde] at hal
                            generalize a1.tmps.getD 49 undef = t49 at hal
                            generalize a1.tmps.getD 50 undef = t50 at hal
                            generalize a1.tmps.getD 51 undef = t51 at hal
                            generalize a1.tmps.getD 52 undef = t52 at hal
                            generalize a1.tmps.getD 53 undef = t53 at hal
                            generalize a1.tmps.getD 54 undef = t54 at hal
                            generalize a1.tmps.getD 55 undef = t55 at hal
                            generalize a1.tmps.getD 56 undef = t56 at hal
                            generalize a1.tmps.getD 57 undef = t57 at hal
                            generalize a1.tmps.getD 58 undef = t58 at hal
                            generalize a1.tmps.getD 59 undef = t59 at hal
                            generalize a1.tmps.getD 60 undef = t60 at hal
                            generalize a1.tmps.getD 61 undef = t61 at hal
                            generalize a1.tmps.getD 62 undef = t62 at hal
                            generalize a1.tmps.getD 63 undef = t63 at hal
                            generalize a1.tmps.getD 64 undef = t64 at hal
                            generalize a1.tmps.getD 65 undef = t65 at hal
                            generalize a1.tmps.getD 66 undef = t66 at hal
                            generalize a1.tmps.getD 67 undef = t67 at hal
                            generalize a1.tmps.getD 68 undef = t68 at hal
                            generalize a1.tmps.getD 70 undef = t70 at hal
                            generalize a1.tmps.getD 71 undef = t71 at hal
                            clear l0 l1 l7 l8 l9 l10 l11 l12 l2 l3 l4 l5 l6 l13 l14 l15 l16 l17 l18 l19 l20 l21 l22 l23 l24 l25 l26 l27 l28 l29 l30 l31 l32 l33 l34 l35 l36 l37 l38 l39 l40 l41 l42 l43 l44 l45 l46 l47 l48 l72 l73 l74 l75 l76 l77 l78 l79 l80 l81 l82 l83 l84 l85 l86 l87 l88 l89 l90 l91 l92 l93 l94 l95 l96 l97 l98 l99 l100 l101 l102 l103 l104 l105 l106 l107 l108 l109 l110 l111 l112 l113 l114 l115 l116 l117 l118 l119 l120 l121 l122 l123 l124 l125 l126 l127 l128 l129 l130 l131 l132 l133 l134 l135 l136 l137 l138 l139 l140 l141 l142 l143 l144 l145 l146 l147 l148 l149 l150 l151 l152 l153 l154 l155 l156 l157 l158 l159 l160 l161 l162 l163 l164 l165 l166 l167 l168 l169 l170 l171 l172 l173 l174 l175 l176 l177 l178 l179 l180 l181 l182 l183 l184 l185 l186 l187 l69 hde
                            subst hal
                            have HU4 := Lib.hid (Up.trans HU1.out HU3.out)
                            have HI3 := Lib.hid (HI2.out.up HU3.out)
                            cases b
                            · go_wp2_with fail
                              exact ⟨⟨some ⟨g, o, none⟩, l, zs, hlm, rfl, HI3, HS2, HU4⟩, by show l < k + 8 + 1 + 1; exact hlN⟩
                            · have HN8 := Lib.hid (noHi_or (hiE (or_lt (or_lt HL0.out HL8.out) (or_lt HL16.out HL24.out)) HB0.out))
                              have HNa := Lib.hid (noHi_or HN8.out.1)
                              have HNb := Lib.hid (noHi_or HN8.out.2)
                              have HS3 := Lib.hid (show Ut.ok (zs.drop 32) = Ut.ok xs by rw [← HS2.out, ← HH0.out HNa.out.1, ← HH8.out HNa.out.2, List.drop_drop, ← HH16.out HNb.out.1, List.drop_drop, ← HH24.out HNb.out.2, List.drop_drop])
                              have HI4 := Lib.hid (show InB w3 (some ⟨g, o + 32, none⟩) (l - 32) (l - 32) (zs.drop 32) from HI3.out.tail (p := 32) (by omega))
                              have hkn : l - 32 ≤ m ∧ l - 32 < k + 8 + 1 + 1 ∧ 1 ≤ l - 32 ∧ l - 32 < l := by omega
                              go_wp2_with fail
                              exact ⟨⟨some ⟨g, o + 32, none⟩, l - 32, zs.drop 32, hkn.1, hkn.2.1, hkn.2.2.1, rfl, HI4, HS3, HU4⟩, by show l - 32 < l; exact hkn.2.2.2⟩
              · have z1 := hiF HWL.out kW
                go_wp2_with fail
                exact ⟨⟨_, _, ys.drop 1, by omega, rfl, Lib.hid (HI1.out.up (up_drewN wr qq)), HS1, HU1⟩, by show k + 9 < k + 8 + 1 + 1; omega⟩
      · have q0 : decide (x < 128) = false := decide_eq_false kA
        have hne : ys ≠ [] := fun e => by have h1 := HI.out.len; rw [e] at h1; simp at h1
        obtain ⟨cx, rfl⟩ : ∃ cx : Nat, x = (cx : Int) := ⟨x.toNat, by omega⟩
        have hTr := HT.out.up HU.out
        have hc0 := hTr.1 cx (by omega)
        obtain ⟨hXlt, hrow⟩ := lead_row ⟨cx, by omega⟩ (by show 128 ≤ cx; omega)
        simp only at hXlt hrow
        obtain ⟨X, hX⟩ : ∃ X, Go.Lib.firstT cx = X := ⟨_, rfl⟩
        rw [hX] at hc0 hXlt hrow
        have h7 := and7 ⟨X, hXlt⟩
        simp only at h7
        have ha0 : wr.cell? ⟨1, X / 16 * 2, none⟩ = some (.int .u8 (Go.Lib.accLo (X / 16) : Nat)) := by rw [Nat.mul_comm]; exact (hTr.2 (X / 16) (by omega)).1
        have ha1 : wr.cell? ⟨1, X / 16 * 2 + 1, none⟩ = some (.int .u8 (Go.Lib.accHi (X / 16) : Nat)) := by rw [Nat.mul_comm]; exact (hTr.2 (X / 16) (by omega)).2
        obtain ⟨LO, hLO⟩ : ∃ LO, Go.Lib.accLo (X / 16) = LO := ⟨_, rfl⟩
        obtain ⟨HI', hHI⟩ : ∃ HI', Go.Lib.accHi (X / 16) = HI' := ⟨_, rfl⟩
        rw [hLO] at ha0 hrow
        rw [hHI] at ha1 hrow
        rw [← ex.out] at hrow
        have hrow := Lib.hid hrow
        have HNE := Lib.hid hne
        have HLn := Lib.hid HI.out.len
        clear hTr hX hLO hHI hne kA ex
        go_upto_region 15 with fail
        have HUA := Lib.hid (show Up wr (wr.alloc (.cells #[.int .u8 LO, .int .u8 HI'] 72)) from up_alloc _ _)
        have hL : (wr.alloc (.cells #[.int .u8 LO, .int .u8 HI'] 72)).cell? ⟨wr.heap.size, 0, none⟩ = some (.int .u8 LO) := cell_of (new_at wr _) (by simp)
        have hH : (wr.alloc (.cells #[.int .u8 LO, .int .u8 HI'] 72)).cell? ⟨wr.heap.size, 1, none⟩ = some (.int .u8 HI') := cell_of (new_at wr _) (by simp)
        have HI2 := Lib.hid (HI.out.up HUA.out)
        clear ha0 ha1 hc0 h7 hx HI
        generalize wr.alloc (.cells #[.int .u8 LO, .int .u8 HI'] 72) = wA at HUA hL hH HI2 ⊢
        generalize wr.heap.size = B at hL hH ⊢
        generalize HI' = HI at hrow hH ⊢
        have HUA := Lib.hid (Up.trans HU.out HUA.out)
        clear HU
        obtain ⟨l, hl⟩ : ∃ l, n + 1 = l := ⟨_, rfl⟩
        rw [hl] at HI2 HLn hnm
        rw [show ((n : Int) + 1) = (l : Int) by omega, hl]
        replace hl := Lib.hid hl
        have hxs := Lib.hid (show ∀ j, j < l → wA.cell? ⟨g, o + j, none⟩ = some (.int .u8 (byt ys j)) from fun j hj => byt_cell HI2.out hj)
        obtain ⟨S, hS⟩ : ∃ S : Int, (X : Int) % 8 = S := ⟨_, rfl⟩
        rw [hS]
        obtain ⟨x1, HX1⟩ : ∃ x1, Hid (byt ys 1 = x1) := ⟨_, Lib.hid rfl⟩
        obtain ⟨x2, HX2⟩ : ∃ x2, Hid (byt ys 2 = x2) := ⟨_, Lib.hid rfl⟩
        obtain ⟨x3, HX3⟩ : ∃ x3, Hid (byt ys 3 = x3) := ⟨_, Lib.hid rfl⟩
        by_cases s2 : Ut.sz (byt ys 0) = 2
        · have hS2 : S = 2 ∧ (LO : Int) = Ut.lo (byt ys 0) ∧ (HI : Int) = Ut.hi (byt ys 0) := by have := hrow.out; omega
          have HLE := Lib.hid (ok_lead2 HNE.out s2 hS2.2.1.symm hS2.2.2.symm)
          rw [HS.out, HLn.out, HX1.out] at HLE
          obtain ⟨hS', -, -⟩ := hS2
          clear hrow hS
          as_aux_lemma =>
            subst hS'
            go_upto_region 18 with fail
            go_cut [103] from 85 to 103 (fun cc wx => cc = .bool (decide (l < 2 ∨ x1 < (LO : Int) ∨ (HI : Int) < x1)) ∧ Hid (Up wA wx))
            case first =>
              by_cases q0 : l < 2
              · have q0z : (l : Int) < 2 := by omega
                go_big_quiet_o (fail)
                go_wp2
                go_meet
                exact ⟨congrArg Value.bool (decide_eq_true (p := l < 2 ∨ x1 < (LO : Int) ∨ (HI : Int) < x1) (by omega)).symm, Lib.hid (up_drewN _ _)⟩
              · have q0z : ¬ ((l : Int) < 2) := by omega
                have hz1 : (1 : Int) < (l : Int) := by omega
                have hp1 : 1 < l := by omega
                have hx1 := hxs.out 1 (by omega)
                rw [show byt ys 1 = x1 from HX1.out] at hx1
                by_cases q1 : x1 < (LO : Int)
                · have q1d : decide (x1 < (LO : Int)) = true := decide_eq_true q1
                  go_big_quiet_o (fail)
                  go_wp2
                  go_meet
                  exact ⟨congrArg Value.bool (decide_eq_true (p := l < 2 ∨ x1 < (LO : Int) ∨ (HI : Int) < x1) (by omega)).symm, Lib.hid (up_drewN _ _)⟩
                · have q1d : decide (x1 < (LO : Int)) = false := decide_eq_false q1
                  by_cases q2 : (HI : Int) < x1
                  · have q2d : decide ((HI : Int) < x1) = true := decide_eq_true q2
                    go_big_quiet_o (fail)
                    go_wp2
                    go_meet
                    exact ⟨congrArg Value.bool (decide_eq_true (p := l < 2 ∨ x1 < (LO : Int) ∨ (HI : Int) < x1) (by omega)).symm, Lib.hid (up_drewN _ _)⟩
                  · have q2d : decide ((HI : Int) < x1) = false := decide_eq_false q2
                    go_big_quiet_o (fail)
                    go_wp2
                    go_meet
                    exact ⟨congrArg Value.bool (decide_eq_false (p := l < 2 ∨ x1 < (LO : Int) ∨ (HI : Int) < x1) (by omega)).symm, Lib.hid (up_drewN _ _)⟩
            case rest =>
              obtain ⟨rfl, hbc⟩ := hcut
              have HU2 := Lib.hid (Up.trans HUA.out hbc.out)
              have HU2' := Lib.hid hbc.out
              clear hbc
              by_cases hb : l < 2 ∨ x1 < (LO : Int) ∨ (HI : Int) < x1
              · have hbd : decide (l < 2 ∨ x1 < (LO : Int) ∨ (HI : Int) < x1) = true := decide_eq_true hb
                have HR := Lib.hid (show Ut.ok xs = false by rw [HLE.out, if_pos hb])
                go_wp2
                all_goals (go_ret; exact ⟨by rw [HR.out]; rfl, HU2.out⟩)
              · have hbd : decide (l < 2 ∨ x1 < (LO : Int) ∨ (HI : Int) < x1) = false := decide_eq_false hb
                have HR := Lib.hid (show Ut.ok (ys.drop 2) = Ut.ok xs by rw [HLE.out, if_neg hb])
                have hSl : 2 ≤ l := by omega
                rw [hbd]
                clear hb hbd
                by_cases hl2 : l = 2
                · subst hl2
                  have HZ := Lib.hid (show Ut.ok [] = Ut.ok xs by rw [← HR.out, List.drop_of_length_le (by rw [HLn.out]; exact Nat.le_refl _)])
                  go_wp2_with fail
                  exact ⟨⟨some ⟨g, o, none⟩, 0, [], by omega, rfl, Lib.hid ⟨Cells.nil _ _, byt_nil, Nat.le_refl _, rfl⟩, HZ, HU2⟩, by show 0 < n + 1; omega⟩
                · have hl3 : 2 < l := by omega
                  have hl4 : l - 2 ≤ m ∧ l - 2 < n + 1 := by have := hl.out; omega
                  have HI1 := Lib.hid ((HI2.out.tail (p := 2) (by omega)).up HU2'.out)
                  go_wp2_with fail
                  exact ⟨⟨some ⟨g, o + 2, none⟩, l - 2, ys.drop 2, hl4.1, rfl, HI1, HR, HU2⟩, by show l - 2 < n + 1; exact hl4.2⟩
        by_cases s3 : Ut.sz (byt ys 0) = 3
        · have hS2 : S = 3 ∧ (LO : Int) = Ut.lo (byt ys 0) ∧ (HI : Int) = Ut.hi (byt ys 0) := by have := hrow.out; omega
          have HLE := Lib.hid (ok_lead3 HNE.out s3 hS2.2.1.symm hS2.2.2.symm)
          rw [HS.out, HLn.out, HX1.out, HX2.out] at HLE
          obtain ⟨hS', -, -⟩ := hS2
          clear hrow hS
          as_aux_lemma =>
            subst hS'
            go_upto_region 22 with fail
            go_cut [138] from 108 to 138 (fun cc wx => cc = .bool (decide (l < 3 ∨ x1 < (LO : Int) ∨ (HI : Int) < x1 ∨ x2 < 128 ∨ 191 < x2)) ∧ Hid (Up wA wx))
            case first =>
              by_cases q0 : l < 3
              · have q0z : (l : Int) < 3 := by omega
                go_big_quiet_o (fail)
                go_wp2
                go_meet
                exact ⟨congrArg Value.bool (decide_eq_true (p := l < 3 ∨ x1 < (LO : Int) ∨ (HI : Int) < x1 ∨ x2 < 128 ∨ 191 < x2) (by omega)).symm, Lib.hid (up_drewN _ _)⟩
              · have q0z : ¬ ((l : Int) < 3) := by omega
                have hz1 : (1 : Int) < (l : Int) := by omega
                have hp1 : 1 < l := by omega
                have hx1 := hxs.out 1 (by omega)
                rw [show byt ys 1 = x1 from HX1.out] at hx1
                have hz2 : (2 : Int) < (l : Int) := by omega
                have hp2 : 2 < l := by omega
                have hx2 := hxs.out 2 (by omega)
                rw [show byt ys 2 = x2 from HX2.out] at hx2
                by_cases q1 : x1 < (LO : Int)
                · have q1d : decide (x1 < (LO : Int)) = true := decide_eq_true q1
                  go_big_quiet_o (fail)
                  go_wp2
                  go_meet
                  exact ⟨congrArg Value.bool (decide_eq_true (p := l < 3 ∨ x1 < (LO : Int) ∨ (HI : Int) < x1 ∨ x2 < 128 ∨ 191 < x2) (by omega)).symm, Lib.hid (up_drewN _ _)⟩
                · have q1d : decide (x1 < (LO : Int)) = false := decide_eq_false q1
                  by_cases q2 : (HI : Int) < x1
                  · have q2d : decide ((HI : Int) < x1) = true := decide_eq_true q2
                    go_big_quiet_o (fail)
                    go_wp2
                    go_meet
                    exact ⟨congrArg Value.bool (decide_eq_true (p := l < 3 ∨ x1 < (LO : Int) ∨ (HI : Int) < x1 ∨ x2 < 128 ∨ 191 < x2) (by omega)).symm, Lib.hid (up_drewN _ _)⟩
                  · have q2d : decide ((HI : Int) < x1) = false := decide_eq_false q2
                    by_cases q3 : x2 < 128
                    · have q3d : decide (x2 < 128) = true := decide_eq_true q3
                      go_big_quiet_o (fail)
                      go_wp2
                      go_meet
                      exact ⟨congrArg Value.bool (decide_eq_true (p := l < 3 ∨ x1 < (LO : Int) ∨ (HI : Int) < x1 ∨ x2 < 128 ∨ 191 < x2) (by omega)).symm, Lib.hid (up_drewN _ _)⟩
                    · have q3d : decide (x2 < 128) = false := decide_eq_false q3
                      by_cases q4 : 191 < x2
                      · have q4d : decide (191 < x2) = true := decide_eq_true q4
                        go_big_quiet_o (fail)
                        go_wp2
                        go_meet
                        exact ⟨congrArg Value.bool (decide_eq_true (p := l < 3 ∨ x1 < (LO : Int) ∨ (HI : Int) < x1 ∨ x2 < 128 ∨ 191 < x2) (by omega)).symm, Lib.hid (up_drewN _ _)⟩
                      · have q4d : decide (191 < x2) = false := decide_eq_false q4
                        go_big_quiet_o (fail)
                        go_wp2
                        go_meet
                        exact ⟨congrArg Value.bool (decide_eq_false (p := l < 3 ∨ x1 < (LO : Int) ∨ (HI : Int) < x1 ∨ x2 < 128 ∨ 191 < x2) (by omega)).symm, Lib.hid (up_drewN _ _)⟩
            case rest =>
              obtain ⟨rfl, hbc⟩ := hcut
              have HU2 := Lib.hid (Up.trans HUA.out hbc.out)
              have HU2' := Lib.hid hbc.out
              clear hbc
              by_cases hb : l < 3 ∨ x1 < (LO : Int) ∨ (HI : Int) < x1 ∨ x2 < 128 ∨ 191 < x2
              · have hbd : decide (l < 3 ∨ x1 < (LO : Int) ∨ (HI : Int) < x1 ∨ x2 < 128 ∨ 191 < x2) = true := decide_eq_true hb
                have HR := Lib.hid (show Ut.ok xs = false by rw [HLE.out, if_pos hb])
                go_wp2
                all_goals (go_ret; exact ⟨by rw [HR.out]; rfl, HU2.out⟩)
              · have hbd : decide (l < 3 ∨ x1 < (LO : Int) ∨ (HI : Int) < x1 ∨ x2 < 128 ∨ 191 < x2) = false := decide_eq_false hb
                have HR := Lib.hid (show Ut.ok (ys.drop 3) = Ut.ok xs by rw [HLE.out, if_neg hb])
                have hSl : 3 ≤ l := by omega
                rw [hbd]
                clear hb hbd
                by_cases hl2 : l = 3
                · subst hl2
                  have HZ := Lib.hid (show Ut.ok [] = Ut.ok xs by rw [← HR.out, List.drop_of_length_le (by rw [HLn.out]; exact Nat.le_refl _)])
                  go_wp2_with fail
                  exact ⟨⟨some ⟨g, o, none⟩, 0, [], by omega, rfl, Lib.hid ⟨Cells.nil _ _, byt_nil, Nat.le_refl _, rfl⟩, HZ, HU2⟩, by show 0 < n + 1; omega⟩
                · have hl3 : 3 < l := by omega
                  have hl4 : l - 3 ≤ m ∧ l - 3 < n + 1 := by have := hl.out; omega
                  have HI1 := Lib.hid ((HI2.out.tail (p := 3) (by omega)).up HU2'.out)
                  go_wp2_with fail
                  exact ⟨⟨some ⟨g, o + 3, none⟩, l - 3, ys.drop 3, hl4.1, rfl, HI1, HR, HU2⟩, by show l - 3 < n + 1; exact hl4.2⟩
        by_cases s4 : Ut.sz (byt ys 0) = 4
        · have hS2 : S = 4 ∧ (LO : Int) = Ut.lo (byt ys 0) ∧ (HI : Int) = Ut.hi (byt ys 0) := by have := hrow.out; omega
          have HLE := Lib.hid (ok_lead4 HNE.out s4 hS2.2.1.symm hS2.2.2.symm)
          rw [HS.out, HLn.out, HX1.out, HX2.out, HX3.out] at HLE
          obtain ⟨hS', -, -⟩ := hS2
          clear hrow hS
          as_aux_lemma =>
            subst hS'
            go_upto_region 26 with fail
            go_cut [185] from 143 to 185 (fun cc wx => cc = .bool (decide (l < 4 ∨ x1 < (LO : Int) ∨ (HI : Int) < x1 ∨ x2 < 128 ∨ 191 < x2 ∨ x3 < 128 ∨ 191 < x3)) ∧ Hid (Up wA wx))
            case first =>
              by_cases q0 : l < 4
              · have q0z : (l : Int) < 4 := by omega
                go_big_quiet_o (fail)
                go_wp2
                go_meet
                exact ⟨congrArg Value.bool (decide_eq_true (p := l < 4 ∨ x1 < (LO : Int) ∨ (HI : Int) < x1 ∨ x2 < 128 ∨ 191 < x2 ∨ x3 < 128 ∨ 191 < x3) (by omega)).symm, Lib.hid (up_drewN _ _)⟩
              · have q0z : ¬ ((l : Int) < 4) := by omega
                have hz1 : (1 : Int) < (l : Int) := by omega
                have hp1 : 1 < l := by omega
                have hx1 := hxs.out 1 (by omega)
                rw [show byt ys 1 = x1 from HX1.out] at hx1
                have hz2 : (2 : Int) < (l : Int) := by omega
                have hp2 : 2 < l := by omega
                have hx2 := hxs.out 2 (by omega)
                rw [show byt ys 2 = x2 from HX2.out] at hx2
                have hz3 : (3 : Int) < (l : Int) := by omega
                have hp3 : 3 < l := by omega
                have hx3 := hxs.out 3 (by omega)
                rw [show byt ys 3 = x3 from HX3.out] at hx3
                by_cases q1 : x1 < (LO : Int)
                · have q1d : decide (x1 < (LO : Int)) = true := decide_eq_true q1
                  go_big_quiet_o (fail)
                  go_wp2
                  go_meet
                  exact ⟨congrArg Value.bool (decide_eq_true (p := l < 4 ∨ x1 < (LO : Int) ∨ (HI : Int) < x1 ∨ x2 < 128 ∨ 191 < x2 ∨ x3 < 128 ∨ 191 < x3) (by omega)).symm, Lib.hid (up_drewN _ _)⟩
                · have q1d : decide (x1 < (LO : Int)) = false := decide_eq_false q1
                  by_cases q2 : (HI : Int) < x1
                  · have q2d : decide ((HI : Int) < x1) = true := decide_eq_true q2
                    go_big_quiet_o (fail)
                    go_wp2
                    go_meet
                    exact ⟨congrArg Value.bool (decide_eq_true (p := l < 4 ∨ x1 < (LO : Int) ∨ (HI : Int) < x1 ∨ x2 < 128 ∨ 191 < x2 ∨ x3 < 128 ∨ 191 < x3) (by omega)).symm, Lib.hid (up_drewN _ _)⟩
                  · have q2d : decide ((HI : Int) < x1) = false := decide_eq_false q2
                    by_cases q3 : x2 < 128
                    · have q3d : decide (x2 < 128) = true := decide_eq_true q3
                      go_big_quiet_o (fail)
                      go_wp2
                      go_meet
                      exact ⟨congrArg Value.bool (decide_eq_true (p := l < 4 ∨ x1 < (LO : Int) ∨ (HI : Int) < x1 ∨ x2 < 128 ∨ 191 < x2 ∨ x3 < 128 ∨ 191 < x3) (by omega)).symm, Lib.hid (up_drewN _ _)⟩
                    · have q3d : decide (x2 < 128) = false := decide_eq_false q3
                      by_cases q4 : 191 < x2
                      · have q4d : decide (191 < x2) = true := decide_eq_true q4
                        go_big_quiet_o (fail)
                        go_wp2
                        go_meet
                        exact ⟨congrArg Value.bool (decide_eq_true (p := l < 4 ∨ x1 < (LO : Int) ∨ (HI : Int) < x1 ∨ x2 < 128 ∨ 191 < x2 ∨ x3 < 128 ∨ 191 < x3) (by omega)).symm, Lib.hid (up_drewN _ _)⟩
                      · have q4d : decide (191 < x2) = false := decide_eq_false q4
                        by_cases q5 : x3 < 128
                        · have q5d : decide (x3 < 128) = true := decide_eq_true q5
                          go_big_quiet_o (fail)
                          go_wp2
                          go_meet
                          exact ⟨congrArg Value.bool (decide_eq_true (p := l < 4 ∨ x1 < (LO : Int) ∨ (HI : Int) < x1 ∨ x2 < 128 ∨ 191 < x2 ∨ x3 < 128 ∨ 191 < x3) (by omega)).symm, Lib.hid (up_drewN _ _)⟩
                        · have q5d : decide (x3 < 128) = false := decide_eq_false q5
                          by_cases q6 : 191 < x3
                          · have q6d : decide (191 < x3) = true := decide_eq_true q6
                            go_big_quiet_o (fail)
                            go_wp2
                            go_meet
                            exact ⟨congrArg Value.bool (decide_eq_true (p := l < 4 ∨ x1 < (LO : Int) ∨ (HI : Int) < x1 ∨ x2 < 128 ∨ 191 < x2 ∨ x3 < 128 ∨ 191 < x3) (by omega)).symm, Lib.hid (up_drewN _ _)⟩
                          · have q6d : decide (191 < x3) = false := decide_eq_false q6
                            go_big_quiet_o (fail)
                            go_wp2
                            go_meet
                            exact ⟨congrArg Value.bool (decide_eq_false (p := l < 4 ∨ x1 < (LO : Int) ∨ (HI : Int) < x1 ∨ x2 < 128 ∨ 191 < x2 ∨ x3 < 128 ∨ 191 < x3) (by omega)).symm, Lib.hid (up_drewN _ _)⟩
            case rest =>
              obtain ⟨rfl, hbc⟩ := hcut
              have HU2 := Lib.hid (Up.trans HUA.out hbc.out)
              have HU2' := Lib.hid hbc.out
              clear hbc
              by_cases hb : l < 4 ∨ x1 < (LO : Int) ∨ (HI : Int) < x1 ∨ x2 < 128 ∨ 191 < x2 ∨ x3 < 128 ∨ 191 < x3
              · have hbd : decide (l < 4 ∨ x1 < (LO : Int) ∨ (HI : Int) < x1 ∨ x2 < 128 ∨ 191 < x2 ∨ x3 < 128 ∨ 191 < x3) = true := decide_eq_true hb
                have HR := Lib.hid (show Ut.ok xs = false by rw [HLE.out, if_pos hb])
                go_wp2
                all_goals (go_ret; exact ⟨by rw [HR.out]; rfl, HU2.out⟩)
              · have hbd : decide (l < 4 ∨ x1 < (LO : Int) ∨ (HI : Int) < x1 ∨ x2 < 128 ∨ 191 < x2 ∨ x3 < 128 ∨ 191 < x3) = false := decide_eq_false hb
                have HR := Lib.hid (show Ut.ok (ys.drop 4) = Ut.ok xs by rw [HLE.out, if_neg hb])
                have hSl : 4 ≤ l := by omega
                rw [hbd]
                clear hb hbd
                by_cases hl2 : l = 4
                · subst hl2
                  have HZ := Lib.hid (show Ut.ok [] = Ut.ok xs by rw [← HR.out, List.drop_of_length_le (by rw [HLn.out]; exact Nat.le_refl _)])
                  go_wp2_with fail
                  exact ⟨⟨some ⟨g, o, none⟩, 0, [], by omega, rfl, Lib.hid ⟨Cells.nil _ _, byt_nil, Nat.le_refl _, rfl⟩, HZ, HU2⟩, by show 0 < n + 1; omega⟩
                · have hl3 : 4 < l := by omega
                  have hl4 : l - 4 ≤ m ∧ l - 4 < n + 1 := by have := hl.out; omega
                  have HI1 := Lib.hid ((HI2.out.tail (p := 4) (by omega)).up HU2'.out)
                  go_wp2_with fail
                  exact ⟨⟨some ⟨g, o + 4, none⟩, l - 4, ys.drop 4, hl4.1, rfl, HI1, HR, HU2⟩, by show l - 4 < n + 1; exact hl4.2⟩
        · have hS' : S = 1 ∧ Ut.sz (byt ys 0) = 0 := by have := hrow.out; omega
          have HR := Lib.hid (show Ut.ok xs = false by rw [← HS.out]; exact ok_lead0 HNE.out hS'.2)
          obtain ⟨hS', -⟩ := hS'
          clear hrow hS
          subst hS'
          go_wp2
          all_goals (go_ret; exact ⟨by rw [HR.out]; rfl, HUA.out⟩)
theorem valid_ok : ValidOK := fun A m c xs w hin hT hm => valid_any A m c xs w hin hT hm
end Go.Proofs.YtghldkjbmfbdfaaDoor

import Derived.Test.YtkddehfedfiagaaRealL
import Derived.Deep.Cut
namespace Go.Proofs.Ytkddehfedfiagaa
open Go Go.RowKit
set_option linter.unusedVariables false
theorem mean_lt {x y m : Nat} (h : Rl.MeanR x y m) : m < 18446744073709551616 := h.1
theorem run_geq {P : Program} (t : TypeId) {a b : Nat} (h : (FloatKind.f64.format.order a b == some .gt || FloatKind.f64.format.order a b == some .eq) = true) (W : World) : (binOp .geq t (.float .f64 a) (.float .f64 b)).run P W = .ok (.bool true) W := by
  rw [binOp_float_cmp_geq, h]; rfl
theorem run_leq {P : Program} (t : TypeId) {a b : Nat} (h : (FloatKind.f64.format.order a b == some .lt || FloatKind.f64.format.order a b == some .eq) = true) (W : World) : (binOp .leq t (.float .f64 a) (.float .f64 b)).run P W = .ok (.bool true) W := by
  rw [binOp_float_cmp_leq, h]; rfl
theorem wpList_bin {P : Program} {w : World} {ops : Array Oper} {rest : List Oper} {o : Oper} {a : Act} {Q : Exit → Act → World → Prop} (hw : Region.wanted o (yielded ops a.tmps) = true) (op : BinOp) (tx ty : TypeId) (x y : Operand) (v : Value) (ho : o.op = .binOp op tx x y ty)
    (hg : (eqGuard op tx x y (a.eval x) (a.eval y)).run P w = .ok () w) (hr : (binOp op tx (a.eval x) (a.eval y)).run P w = .ok v w) (h : wpList P ops Q rest (a.put o.dst v) w) : wpList P ops Q (o :: rest) a w :=
  wpList_wanted hw fun K hK => by
    unfold Oper.wp
    have e : (execOp a.eval o).run P w = .ok (.value v) w := by simp [execOp, ho, hg, hr, Result.andThen]
    rw [e]
    exact hK _ _ h
set_option maxHeartbeats 400000 in
theorem law_means (hA : CAns) (hO : COrd) (hM : CMean) (x y : Nat) (w : World) (hx : x < 18446744073709551616) (hy : y < 18446744073709551616) : Calls Try.prog 7 #[.int .u64 (x : Int), .int .u64 (y : Int)] w (True2 w) := by
  have f1 := fun W => run_f64from x W
  have f2 := fun W => run_f64from y W
  have a1 := and63 x hx
  have a2 := and63 y hy
  have HA := Lib.hid hA
  have HO := Lib.hid (ord_as hO hx hy rfl)
  have HM1 := Lib.hid (fun W => hM x y W hx hy)
  have HM2 := Lib.hid (fun W => hM y x W hy hx)
  clear hA hO hM
  by_cases hi1 : 9218868437227405312 ≤ Rl.rung x
  · have t1 : ((9218868437227405312 : Int) ≤ (Rl.rung x : Int)) := by omega
    clear hi1
    go_enter Try.func7, Try.ntmps7
    go_wp2_with fail
    refine (HM1.out _).mono ?_
    rintro e w1 ⟨m1, rfl, hm1, u1⟩
    have l1 := mean_lt hm1
    have M1 := Lib.hid hm1
    clear hm1
    go_wp2_with fail
    refine (HA.out _).mono ?_
    rintro e w2 ⟨rfl, u2⟩
    go_wp2_with fail
    refine (rmean x y _ hx hy).mono ?_
    rintro e w3 ⟨m2, rfl, hm2, u3⟩
    have C1 := Lib.hid (same_as l1 (mean_lt hm2) (Rl.mean_same M1.out hm2))
    clear hm2
    go_wp2_with fail
    refine (C1.out _).mono ?_
    rintro e w4 ⟨rfl, rfl⟩
    go_wp2_with fail
    refine (HM2.out _).mono ?_
    rintro e w5 ⟨m3, rfl, hm3, u5⟩
    have C2 := Lib.hid (same_as l1 (mean_lt hm3) (Rl.mean_same M1.out (Rl.mean_swap hm3)))
    clear hm3
    go_wp2_with fail
    refine (C2.out _).mono ?_
    rintro e w6 ⟨rfl, rfl⟩
    go_wp2_with fail
    go_ret
    exact ⟨rfl, ((u1.trans u2).trans u3).trans u5⟩
  · by_cases hi2 : 9218868437227405312 ≤ Rl.rung y
    · have t1 : ((Rl.rung x : Int) < (9218868437227405312 : Int)) := by omega
      have t2 : ((9218868437227405312 : Int) ≤ (Rl.rung y : Int)) := by omega
      clear hi1 hi2
      go_enter Try.func7, Try.ntmps7
      go_wp2_with fail
      refine (HM1.out _).mono ?_
      rintro e w1 ⟨m1, rfl, hm1, u1⟩
      have l1 := mean_lt hm1
      have M1 := Lib.hid hm1
      clear hm1
      go_wp2_with fail
      refine (HA.out _).mono ?_
      rintro e w2 ⟨rfl, u2⟩
      go_wp2_with fail
      refine (rmean x y _ hx hy).mono ?_
      rintro e w3 ⟨m2, rfl, hm2, u3⟩
      have C1 := Lib.hid (same_as l1 (mean_lt hm2) (Rl.mean_same M1.out hm2))
      clear hm2
      go_wp2_with fail
      refine (C1.out _).mono ?_
      rintro e w4 ⟨rfl, rfl⟩
      go_wp2_with fail
      refine (HM2.out _).mono ?_
      rintro e w5 ⟨m3, rfl, hm3, u5⟩
      have C2 := Lib.hid (same_as l1 (mean_lt hm3) (Rl.mean_same M1.out (Rl.mean_swap hm3)))
      clear hm3
      go_wp2_with fail
      refine (C2.out _).mono ?_
      rintro e w6 ⟨rfl, rfl⟩
      go_wp2_with fail
      go_ret
      exact ⟨rfl, ((u1.trans u2).trans u3).trans u5⟩
    · have t1 : ((Rl.rung x : Int) < (9218868437227405312 : Int)) := by omega
      have t2 : ((Rl.rung y : Int) < (9218868437227405312 : Int)) := by omega
      have FX := Lib.hid (show Rl.rung x < 9218868437227405312 by omega)
      have FY := Lib.hid (show Rl.rung y < 9218868437227405312 by omega)
      have HBL := Lib.hid (show (decide ((9218868437227405312 : Int) ≤ (Rl.rung x : Int)) || decide ((9218868437227405312 : Int) ≤ (Rl.rung y : Int))) = false by simp; omega)
      clear hi1 hi2
      by_cases ho : 0 < Rl.ordF x y
      · have HK := Lib.hid (Rl.key_sv y x FY.out FX.out (by have := (Rl.ordF_pos x y).1 ho; omega))
        go_enter Try.func7, Try.ntmps7
        go_wp2_with fail
        refine (HM1.out _).mono ?_
        rintro e w1 ⟨m1, rfl, hm1, u1⟩
        have l1 := mean_lt hm1
        have M1 := Lib.hid hm1
        have bt := Rl.mean_between FY.out FX.out HK.out (Rl.mean_swap hm1)
        have fm := Rl.mean_finite FY.out FX.out bt.1 bt.2
        have g1 := Rl.geq_fin m1 y fm FY.out bt.1
        have g2 := Rl.leq_fin m1 x fm FX.out bt.2
        have G1 : (FloatKind.f64.format.order m1 y == some .gt || FloatKind.f64.format.order m1 y == some .eq) = true := g1
        have G2 : (FloatKind.f64.format.order m1 x == some .lt || FloatKind.f64.format.order m1 x == some .eq) = true := g2
        have H1 := Lib.hid (run_geq (P := Try.prog) 26 G1)
        have H2 := Lib.hid (run_leq (P := Try.prog) 26 G2)
        clear hm1 bt fm g1 g2 G1 G2
        go_wp2_with fail
        refine (HA.out _).mono ?_
        rintro e w2 ⟨rfl, u2⟩
        go_wp2_with fail
        refine (rmean x y _ hx hy).mono ?_
        rintro e w3 ⟨m2, rfl, hm2, u3⟩
        have C1 := Lib.hid (same_as l1 (mean_lt hm2) (Rl.mean_same M1.out hm2))
        clear hm2
        go_wp2_with fail
        refine (C1.out _).mono ?_
        rintro e w4 ⟨rfl, rfl⟩
        go_wp2_with fail
        refine (HM2.out _).mono ?_
        rintro e w5 ⟨m3, rfl, hm3, u5⟩
        have C2 := Lib.hid (same_as l1 (mean_lt hm3) (Rl.mean_same M1.out (Rl.mean_swap hm3)))
        clear hm3
        go_wp2_with fail
        refine (C2.out _).mono ?_
        rintro e w6 ⟨rfl, rfl⟩
        go_upto_if 45 with (fail)
        rw [HBL.out]
        clear a1 a2 hx hy l1 t1 t2
        generalize decide ((9218868437227405312 : Int) ≤ (Rl.rung x : Int)) = bx
        generalize decide ((9218868437227405312 : Int) ≤ (Rl.rung y : Int)) = by_
        go_wp2_with fail
        refine (HO.out _).mono ?_
        rintro e w7 ⟨rfl, u7⟩
        go_wp2_with (first
          | (refine wpList_bin (o := ⟨some 56, _, _, _, _, _⟩) rfl .geq 26 26 (.tmp 54) (.tmp 55) (.bool true) rfl rfl (H1.out _) ?_)
          | (refine wpList_bin (o := ⟨some 60, _, _, _, _, _⟩) rfl .leq 26 26 (.tmp 58) (.tmp 59) (.bool true) rfl rfl (H2.out _) ?_))
        go_ret
        exact ⟨rfl, (((u1.trans u2).trans u3).trans u5).trans u7⟩
      · have ho' : Rl.ordF x y ≤ 0 := by omega
        have HK := Lib.hid (Rl.key_sv x y FX.out FY.out (by have := Rl.ordF_pos x y; omega))
        clear ho
        go_enter Try.func7, Try.ntmps7
        go_wp2_with fail
        refine (HM1.out _).mono ?_
        rintro e w1 ⟨m1, rfl, hm1, u1⟩
        have l1 := mean_lt hm1
        have M1 := Lib.hid hm1
        have bt := Rl.mean_between FX.out FY.out HK.out hm1
        have fm := Rl.mean_finite FX.out FY.out bt.1 bt.2
        have g1 := Rl.geq_fin m1 x fm FX.out bt.1
        have g2 := Rl.leq_fin m1 y fm FY.out bt.2
        have G1 : (FloatKind.f64.format.order m1 x == some .gt || FloatKind.f64.format.order m1 x == some .eq) = true := g1
        have G2 : (FloatKind.f64.format.order m1 y == some .lt || FloatKind.f64.format.order m1 y == some .eq) = true := g2
        have H1 := Lib.hid (run_geq (P := Try.prog) 26 G1)
        have H2 := Lib.hid (run_leq (P := Try.prog) 26 G2)
        clear hm1 bt fm g1 g2 G1 G2
        go_wp2_with fail
        refine (HA.out _).mono ?_
        rintro e w2 ⟨rfl, u2⟩
        go_wp2_with fail
        refine (rmean x y _ hx hy).mono ?_
        rintro e w3 ⟨m2, rfl, hm2, u3⟩
        have C1 := Lib.hid (same_as l1 (mean_lt hm2) (Rl.mean_same M1.out hm2))
        clear hm2
        go_wp2_with fail
        refine (C1.out _).mono ?_
        rintro e w4 ⟨rfl, rfl⟩
        go_wp2_with fail
        refine (HM2.out _).mono ?_
        rintro e w5 ⟨m3, rfl, hm3, u5⟩
        have C2 := Lib.hid (same_as l1 (mean_lt hm3) (Rl.mean_same M1.out (Rl.mean_swap hm3)))
        clear hm3
        go_wp2_with fail
        refine (C2.out _).mono ?_
        rintro e w6 ⟨rfl, rfl⟩
        go_upto_if 45 with (fail)
        rw [HBL.out]
        clear a1 a2 hx hy l1 t1 t2
        generalize decide ((9218868437227405312 : Int) ≤ (Rl.rung x : Int)) = bx
        generalize decide ((9218868437227405312 : Int) ≤ (Rl.rung y : Int)) = by_
        go_wp2_with fail
        refine (HO.out _).mono ?_
        rintro e w7 ⟨rfl, u7⟩
        go_wp2_with (first
          | (refine wpList_bin (o := ⟨some 56, _, _, _, _, _⟩) rfl .geq 26 26 (.tmp 54) (.tmp 55) (.bool true) rfl rfl (H1.out _) ?_)
          | (refine wpList_bin (o := ⟨some 60, _, _, _, _, _⟩) rfl .leq 26 26 (.tmp 58) (.tmp 59) (.bool true) rfl rfl (H2.out _) ?_))
        go_ret
        exact ⟨rfl, (((u1.trans u2).trans u3).trans u5).trans u7⟩
end Go.Proofs.Ytkddehfedfiagaa

import Derived.Test.YtkddehfedfiagaaRealR
namespace Go.Proofs.Ytkddehfedfiagaa
open Go Go.RowKit
set_option linter.unusedVariables false
theorem ord_of {x y : Nat} (hx : x < 18446744073709551616) (hy : y < 18446744073709551616) (nx : Rl.nanB x = false) (ny : Rl.nanB y = false) (hne : x ≠ y) :
    Rl.ordF x y = if x / 9223372036854775808 = 1 then (if y / 9223372036854775808 = 1 then (if x < y then 1 else -1) else -1) else (if y / 9223372036854775808 = 1 then 1 else if x < y then -1 else 1) := by
  have h1 := Rl.split_word x hx
  have h2 := Rl.split_word y hy
  have l1 := Rl.rung_lt x
  have l2 := Rl.rung_lt y
  have sx : Rl.sgn x = decide (x / 9223372036854775808 = 1) := by unfold Rl.sgn; rw [Bool.eq_iff_iff, beq_iff_eq, decide_eq_true_iff]; omega
  have sy : Rl.sgn y = decide (y / 9223372036854775808 = 1) := by unfold Rl.sgn; rw [Bool.eq_iff_iff, beq_iff_eq, decide_eq_true_iff]; omega
  unfold Rl.ordF Rl.keyF
  rw [nx, ny]
  simp only [Bool.false_eq_true, if_false]
  rw [sx] at h1 ⊢
  rw [sy] at h2 ⊢
  by_cases a : x / 9223372036854775808 = 1 <;> by_cases b : y / 9223372036854775808 = 1 <;> simp only [a, b, decide_true, decide_false, if_true, if_false, Bool.false_eq_true] at h1 h2 ⊢ <;> (repeat' split) <;> omega
theorem sgn_dec (x : Nat) : ((x : Int) / 9223372036854775808 == 1) = decide (x / 9223372036854775808 = 1) := by
  rw [Bool.eq_iff_iff, beq_iff_eq, decide_eq_true_iff]; omega
set_option maxHeartbeats 400000 in
theorem rorder_in (x y : Nat) (v : Int) (b1 b2 b3 : Bool) (w : World) (f1 : ∀ W : World, (callFunc 20 #[.float .f64 x]).run Try.prog W = .ok (.value (.int .u64 (x : Int))) W) (f2 : ∀ W : World, (callFunc 20 #[.float .f64 y]).run Try.prog W = .ok (.value (.int .u64 (y : Int))) W)
    (n1 : Hid (∀ W, Calls Try.prog 13 #[.int .u64 (x : Int)] W fun e w' => e = .returned (.bool false) ∧ W = w')) (n2 : Hid (∀ W, Calls Try.prog 13 #[.int .u64 (y : Int)] W fun e w' => e = .returned (.bool false) ∧ W = w'))
    (hb : ((x : Int) == (y : Int)) = false) (d1 : ((x : Int) / 9223372036854775808 == 1) = b1) (d2 : ((y : Int) / 9223372036854775808 == 1) = b2) (d3 : decide (x < y) = b3)
    (hv : Hid (v = if b1 then (if b2 then (if b3 then 1 else -1) else -1) else (if b2 then 1 else if b3 then -1 else 1))) :
    Calls Try.prog 22 #[.float .f64 x, .float .f64 y] w fun e w' => e = .returned (.int .i64 v) ∧ w = w' := by
  cases b1 <;> cases b2 <;> cases b3
  all_goals
    go_enter Try.func22, Try.ntmps22
    go_wp2_with fail
    refine (n1.out _).mono ?_
    rintro e w1 ⟨rfl, rfl⟩
    go_wp2_with fail
    refine (n2.out _).mono ?_
    rintro e w1 ⟨rfl, rfl⟩
    go_wp2_with fail
    go_ret
    exact ⟨by rw [hv.out]; rfl, rfl⟩
set_option maxHeartbeats 400000 in
theorem rorder (x y : Nat) (w : World) (hx : x < 18446744073709551616) (hy : y < 18446744073709551616) : Calls Try.prog 22 #[.float .f64 x, .float .f64 y] w fun e w' => e = .returned (.int .i64 (Rl.ordF x y)) ∧ w = w' := by
  have f1 := fun W => run_f64bits x W
  have f2 := fun W => run_f64bits y W
  have n1 := Lib.hid fun W => rnan x W hx
  have n2 := Lib.hid fun W => rnan y W hy
  cases nx : Rl.nanB x
  · cases ny : Rl.nanB y
    · rw [nx] at n1
      rw [ny] at n2
      by_cases h : x = y
      · subst h
        clear f2 n2 ny nx
        have hs := Lib.hid (Rl.ordF_self x)
        go_enter Try.func22, Try.ntmps22
        go_wp2_with (go_at_call 13; refine (n1.out _).mono ?_; rintro e w1 ⟨rfl, rfl⟩)
        go_ret
        exact ⟨by rw [hs.out]; rfl, rfl⟩
      · have hb : ((x : Int) == (y : Int)) = false := by rw [beq_eq_false_iff_ne]; omega
        exact rorder_in x y _ _ _ _ w f1 f2 n1 n2 hb (sgn_dec x) (sgn_dec y) rfl (Lib.hid (by rw [ord_of hx hy nx ny h]; simp only [decide_eq_true_iff]))
    · have hs := Lib.hid (show Rl.ordF x y = -1 by
        have l1 := Rl.rung_lt x
        unfold Rl.ordF Rl.keyF; rw [nx, ny]; simp only [Bool.false_eq_true, if_false, if_true]; repeat' split
        all_goals omega)
      rw [nx] at n1
      rw [ny] at n2
      clear nx ny
      go_enter Try.func22, Try.ntmps22
      go_wp2_with fail
      refine (n1.out _).mono ?_
      rintro e w1 ⟨rfl, rfl⟩
      go_wp2_with fail
      refine (n2.out _).mono ?_
      rintro e w1 ⟨rfl, rfl⟩
      go_wp2_with fail
      refine (n1.out _).mono ?_
      rintro e w1 ⟨rfl, rfl⟩
      go_wp2_with fail
      refine (n1.out _).mono ?_
      rintro e w1 ⟨rfl, rfl⟩
      go_wp2_with fail
      go_ret
      exact ⟨by rw [hs.out]; rfl, rfl⟩
  · cases ny : Rl.nanB y
    · have hs := Lib.hid (show Rl.ordF x y = 1 by
        have l1 := Rl.rung_lt y
        unfold Rl.ordF Rl.keyF; rw [nx, ny]; simp only [Bool.false_eq_true, if_false, if_true]; repeat' split
        all_goals omega)
      rw [nx] at n1
      rw [ny] at n2
      clear nx ny
      go_enter Try.func22, Try.ntmps22
      go_wp2_with fail
      refine (n1.out _).mono ?_
      rintro e w1 ⟨rfl, rfl⟩
      go_wp2_with fail
      refine (n1.out _).mono ?_
      rintro e w1 ⟨rfl, rfl⟩
      go_wp2_with fail
      refine (n2.out _).mono ?_
      rintro e w1 ⟨rfl, rfl⟩
      go_wp2_with fail
      refine (n1.out _).mono ?_
      rintro e w1 ⟨rfl, rfl⟩
      go_wp2_with fail
      go_ret
      exact ⟨by rw [hs.out]; rfl, rfl⟩
    · have hs := Lib.hid (show Rl.ordF x y = 0 by unfold Rl.ordF Rl.keyF; rw [nx, ny]; simp)
      rw [nx] at n1
      rw [ny] at n2
      clear nx ny
      go_enter Try.func22, Try.ntmps22
      go_wp2_with fail
      refine (n1.out _).mono ?_
      rintro e w1 ⟨rfl, rfl⟩
      go_wp2_with fail
      refine (n1.out _).mono ?_
      rintro e w1 ⟨rfl, rfl⟩
      go_wp2_with fail
      refine (n2.out _).mono ?_
      rintro e w1 ⟨rfl, rfl⟩
      go_wp2_with fail
      go_ret
      exact ⟨by rw [hs.out]; rfl, rfl⟩
end Go.Proofs.Ytkddehfedfiagaa

import Derived.Test.YtkddehfedfiagaaRealP
import Derived.Test.YtkddehfedfiagaaWireC
namespace Go.Proofs.Ytkddehfedfiagaa
open Go Go.RowKit
set_option linter.unusedVariables false
theorem andn63 (x : Nat) (h : x < 18446744073709551616) : bits .andNot .u64 (x : Int) 9223372036854775808 = (Rl.rung x : Int) := by
  have := u64_andNot_nat x 9223372036854775808 h (by omega)
  have e : x &&& (18446744073709551615 - 9223372036854775808) = x % 2 ^ 63 := Nat.and_two_pow_sub_one_eq_mod x 63
  rw [e] at this
  exact this
theorem andn31 (x : Nat) (h : x < 4294967296) : bits .andNot .u32 (x : Int) 2147483648 = ((x % 2147483648 : Nat) : Int) := by
  have := u32_andNot_nat x 2147483648 h (by omega)
  have e : x &&& (4294967295 - 2147483648) = x % 2 ^ 31 := Nat.and_two_pow_sub_one_eq_mod x 31
  rw [e] at this
  exact this
theorem and_top (x : Nat) (h : x < 18446744073709551616) : bits .and .u64 (x : Int) 9223372036854775808 = if Rl.sgn x then 9223372036854775808 else 0 := by
  have := u64_and_nat x 9223372036854775808 h (by omega)
  have e : x &&& 9223372036854775808 = (x.testBit 63).toNat * 2 ^ 63 := by
    rw [show (9223372036854775808 : Nat) = 2 ^ 63 from rfl]
    apply Nat.eq_of_testBit_eq
    intro i
    rw [Nat.testBit_and, Nat.testBit_two_pow]
    by_cases hi : 63 = i
    · subst hi
      cases x.testBit 63 <;> decide
    · cases x.testBit 63
      · simp [hi]
      · rw [decide_eq_false hi, Bool.and_false, Bool.toNat_true, Nat.one_mul, Nat.testBit_two_pow, decide_eq_false hi]
  rw [e, Nat.testBit_eq_decide_div_mod_eq] at this
  rw [show (9223372036854775808 : Int) = ((9223372036854775808 : Nat) : Int) from rfl, this]
  unfold Rl.sgn
  have h2 := Nat.mod_two_eq_zero_or_one (x / 9223372036854775808)
  rcases h2 with h2 | h2 <;> simp [h2]
theorem or_top (x : Nat) (h : x < 9223372036854775808) : bits .or .u64 (x : Int) 9223372036854775808 = ((x + 9223372036854775808 : Nat) : Int) := by
  have := u64_or_nat x 9223372036854775808 (by omega) (by omega)
  have e := Nat.two_pow_add_eq_or_of_lt (show x < 2 ^ 63 by omega) 1
  rw [Nat.or_comm] at this
  rw [show (9223372036854775808 : Nat) = 2 ^ 63 * 1 from rfl, ← e] at this
  rw [show (9223372036854775808 : Int) = ((2 ^ 63 * 1 : Nat) : Int) from rfl, this]
  omega
theorem can64_lt {x : Nat} (h : x < 18446744073709551616) : can64 x < 18446744073709551616 := by unfold can64; split <;> omega
theorem can32_lt {x : Nat} (h : x < 4294967296) : can32 x < 4294967296 := by unfold can32; split <;> omega
theorem cbits64 (x : Nat) (w : World) (h : x < 18446744073709551616) : Calls Try.prog 28 #[.float .f64 x] w fun e w' => e = .returned (.int .u64 (can64 x : Nat)) ∧ w = w' := by
  have f1 := fun W => run_f64bits x W
  have a1 := andn63 x h
  cases hn : Rl.nanB x
  · have t1 : (Rl.rung x : Int) ≤ 9218868437227405312 := by have : ¬ 9218868437227405312 < Rl.rung x := of_decide_eq_false hn; omega
    have HF := Lib.hid (show can64 x = x by unfold can64; rw [hn]; rfl)
    clear hn
    go_enter Try.func28, Try.ntmps28
    go_wp2
    go_ret
    exact ⟨by rw [HF.out]; rfl, rfl⟩
  · have t1 : (9218868437227405312 : Int) < (Rl.rung x : Int) := by have : 9218868437227405312 < Rl.rung x := of_decide_eq_true hn; omega
    have HF := Lib.hid (show can64 x = 9221120237041090560 by unfold can64; rw [hn]; rfl)
    clear hn
    go_enter Try.func28, Try.ntmps28
    go_wp2
    go_ret
    exact ⟨by rw [HF.out]; rfl, rfl⟩
theorem cbits32 (x : Nat) (w : World) (h : x < 4294967296) : Calls Try.prog 27 #[.float .f32 x] w fun e w' => e = .returned (.int .u32 (can32 x : Nat)) ∧ w = w' := by
  have f1 := fun W => run_f32bits x W
  have a1 := andn31 x h
  cases hn : nan32 x
  · have t1 : ((x % 2147483648 : Nat) : Int) ≤ 2139095040 := by have : ¬ 2139095040 < x % 2147483648 := of_decide_eq_false hn; omega
    have HF := Lib.hid (show can32 x = x by unfold can32; rw [hn]; rfl)
    clear hn
    go_enter Try.func27, Try.ntmps27
    go_wp2
    go_ret
    exact ⟨by rw [HF.out]; rfl, rfl⟩
  · have t1 : (2139095040 : Int) < ((x % 2147483648 : Nat) : Int) := by have : 2139095040 < x % 2147483648 := of_decide_eq_true hn; omega
    have HF := Lib.hid (show can32 x = 2143289344 by unfold can32; rw [hn]; rfl)
    clear hn
    go_enter Try.func27, Try.ntmps27
    go_wp2
    go_ret
    exact ⟨by rw [HF.out]; rfl, rfl⟩
theorem cplain64 (x : Nat) (w : World) (h : x < 18446744073709551616) : Calls Try.prog 31 #[.float .f64 x] w fun e w' => e = .returned (.float .f64 (can64 x)) ∧ w = w' := by
  have f1 := fun W => run_f64from (can64 x) W
  have C := Lib.hid (fun W => cbits64 x W h)
  go_enter Try.func31, Try.ntmps31
  go_wp2_with fail
  refine (C.out _).mono ?_
  rintro e w1 ⟨rfl, rfl⟩
  go_wp2_with fail
  go_ret
  exact ⟨rfl, rfl⟩
theorem cplain32 (x : Nat) (w : World) (h : x < 4294967296) : Calls Try.prog 30 #[.float .f32 x] w fun e w' => e = .returned (.float .f32 (can32 x)) ∧ w = w' := by
  have f1 := fun W => run_f32from (can32 x) W
  have C := Lib.hid (fun W => cbits32 x W h)
  go_enter Try.func30, Try.ntmps30
  go_wp2_with fail
  refine (C.out _).mono ?_
  rintro e w1 ⟨rfl, rfl⟩
  go_wp2_with fail
  go_ret
  exact ⟨rfl, rfl⟩
end Go.Proofs.Ytkddehfedfiagaa

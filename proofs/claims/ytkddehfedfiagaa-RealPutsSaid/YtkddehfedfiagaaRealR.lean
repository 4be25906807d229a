import Derived.Test.YtkddehfedfiagaaRealM6
import Derived.Test.YtkddehfedfiagaaOwn
import Derived.Laws.Externs
import Derived.Laws.BitsAllLaws
import Derived.WalkLawsBesides
import Derived.Test.YtkddehfedfiagaaChecked
namespace Go.Proofs.Ytkddehfedfiagaa
open Go Go.RowKit
set_option linter.unusedVariables false
theorem and63 (x : Nat) (h : x < 18446744073709551616) : bits .and .u64 (x : Int) 9223372036854775807 = (Rl.rung x : Int) := by
  have := u64_and_nat x 9223372036854775807 h (by omega)
  have e : x &&& 9223372036854775807 = x % 2 ^ 63 := Nat.and_two_pow_sub_one_eq_mod x 63
  rw [e] at this
  exact this
theorem run_f64bits (x : Nat) (w : World) : (callFunc 20 #[.float .f64 x]).run Try.prog w = .ok (.value (.int .u64 (x : Int))) w := by
  rw [run_callFunc_extern (P := Try.prog) (f := 20) (fn := Try.f20) (e := Extern.MathFloatBits.float64bits) Try.func20 (by kernel_rfl) (by kernel_rfl) (by kernel_rfl) (by kernel_rfl)]
  rfl
theorem run_f32bits (x : Nat) (w : World) : (callFunc 19 #[.float .f32 x]).run Try.prog w = .ok (.value (.int .u32 (x : Int))) w := by
  rw [run_callFunc_extern (P := Try.prog) (f := 19) (fn := Try.f19) (e := Extern.MathFloatBits.float32bits) Try.func19 (by kernel_rfl) (by kernel_rfl) (by kernel_rfl) (by kernel_rfl)]
  rfl
theorem run_f64from (x : Nat) (w : World) : (callFunc 9 #[.int .u64 (x : Int)]).run Try.prog w = .ok (.value (.float .f64 x)) w := by
  rw [run_callFunc_extern (P := Try.prog) (f := 9) (fn := Try.f9) (e := Extern.MathFloatBits.float64frombits) Try.func9 (by kernel_rfl) (by kernel_rfl) (by kernel_rfl) (by kernel_rfl)]
  rfl
theorem run_f32from (x : Nat) (w : World) : (callFunc 8 #[.int .u32 (x : Int)]).run Try.prog w = .ok (.value (.float .f32 x)) w := by
  rw [run_callFunc_extern (P := Try.prog) (f := 8) (fn := Try.f8) (e := Extern.MathFloatBits.float32frombits) Try.func8 (by kernel_rfl) (by kernel_rfl) (by kernel_rfl) (by kernel_rfl)]
  rfl
theorem rnan (x : Nat) (w : World) (h : x < 18446744073709551616) : Calls Try.prog 13 #[.int .u64 (x : Int)] w fun e w' => e = .returned (.bool (Rl.nanB x)) ∧ w = w' := by
  have ha := and63 x h
  have hn := Lib.hid (show Rl.nanB x = decide ((9218868437227405312 : Int) < (Rl.rung x : Int)) by unfold Rl.nanB; rw [Bool.eq_iff_iff, decide_eq_true_iff, decide_eq_true_iff]; omega)
  go_enter Try.func13, Try.ntmps13
  go_wp2
  go_ret
  refine ⟨?_, rfl⟩
  rw [hn.out]; rfl
theorem rsame (x y : Nat) (w : World) (hx : x < 18446744073709551616) (hy : y < 18446744073709551616) : Calls Try.prog 23 #[.float .f64 x, .float .f64 y] w fun e w' => e = .returned (.bool (Rl.sameF x y)) ∧ w = w' := by
  have f1 := fun W => run_f64bits x W
  have f2 := fun W => run_f64bits y W
  by_cases h : x = y
  · have hb : ((x : Int) == (y : Int)) = true := by rw [beq_iff_eq]; omega
    have hs := Lib.hid (show Rl.sameF x y = true by unfold Rl.sameF; simp [h])
    subst h
    clear f2
    go_enter Try.func23, Try.ntmps23
    go_wp2
    go_ret
    exact ⟨by rw [hs.out]; rfl, rfl⟩
  · have hb : ((x : Int) == (y : Int)) = false := by rw [beq_eq_false_iff_ne]; omega
    have hs := Lib.hid (show Rl.sameF x y = (Rl.nanB x && Rl.nanB y) by unfold Rl.sameF; simp [h])
    clear h
    cases nx : Rl.nanB x <;> rw [nx] at hs
    · have c1 := fun W => rnan x W hx
      rw [nx] at c1
      have C1 := Lib.hid c1
      clear c1 nx
      go_enter Try.func23, Try.ntmps23
      go_wp2_with fail
      refine (C1.out _).mono ?_
      rintro e w1 ⟨rfl, rfl⟩
      go_wp2_with fail
      go_ret
      exact ⟨by rw [hs.out]; rfl, rfl⟩
    · have c1 := fun W => rnan x W hx
      rw [nx] at c1
      have C1 := Lib.hid c1
      clear c1 nx
      go_enter Try.func23, Try.ntmps23
      go_wp2_with fail
      refine (C1.out _).mono ?_
      rintro e w1 ⟨rfl, rfl⟩
      go_wp2_with fail
      refine (rnan y _ hy).mono ?_
      rintro e w1 ⟨rfl, rfl⟩
      go_wp2_with fail
      go_ret
      exact ⟨by rw [hs.out]; rfl, rfl⟩
end Go.Proofs.Ytkddehfedfiagaa

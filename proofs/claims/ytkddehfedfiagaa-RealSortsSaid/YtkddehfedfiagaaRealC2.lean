import Derived.Test.YtkddehfedfiagaaRealC
import Derived.Test.YtkddehfedfiagaaRealG4
namespace Go.Proofs.Ytkddehfedfiagaa
open Go Go.RowKit
set_option linter.unusedVariables false
/-- The number by which values are compared. -/
def rk (x : Nat) : Int := if Rl.sgn (can64 x) then 18446744073709551615 - (can64 x : Int) else 9223372036854775808 + (can64 x : Int)
theorem can64_sgn {x : Nat} (hx : x < 18446744073709551616) : Rl.sgn (can64 x) = true → 9223372036854775808 ≤ can64 x := by
  intro h
  unfold Rl.sgn at h
  have := eq_of_beq h
  have := can64_lt hx
  omega
theorem can64_pos {x : Nat} (hx : x < 18446744073709551616) : Rl.sgn (can64 x) = false → can64 x < 9223372036854775808 := by
  intro h
  unfold Rl.sgn at h
  have := beq_eq_false_iff_ne.1 h
  have := can64_lt hx
  omega
theorem rk_key {x : Nat} (hx : x < 18446744073709551616) : rk x = if Rl.nanB x then 18444492273895866368 else 9223372036854775808 + Rl.keyF x := by
  unfold rk Rl.keyF can64
  cases hn : Rl.nanB x
  · simp only [Bool.false_eq_true, if_false]
    have e := Rl.split_word x hx
    have hl := Rl.rung_lt x
    cases hs : Rl.sgn x
    · rw [hs] at e; simp only [Bool.false_eq_true, if_false] at e ⊢; omega
    · rw [hs] at e; simp only [if_true] at e ⊢; omega
  · simp only [if_true]
    rw [if_neg (by decide)]
    rfl
theorem key_bd {x : Nat} (hn : Rl.nanB x = false) : Rl.keyF x ≤ 9218868437227405312 := by
  unfold Rl.keyF
  have : ¬ 9218868437227405312 < Rl.rung x := of_decide_eq_false hn
  rw [hn]
  simp only [Bool.false_eq_true, if_false]
  split <;> omega
theorem rk_lt {x y : Nat} (hx : x < 18446744073709551616) (hy : y < 18446744073709551616) : rk x < rk y ↔ Rl.keyF x < Rl.keyF y := by
  rw [rk_key hx, rk_key hy]
  cases nx : Rl.nanB x <;> cases ny : Rl.nanB y
  · simp only [Bool.false_eq_true, if_false]; omega
  · have := key_bd nx
    have e : Rl.keyF y = 9223372036854775808 := by unfold Rl.keyF; rw [ny]; rfl
    simp only [Bool.false_eq_true, if_false, if_true]; omega
  · have := key_bd ny
    have e : Rl.keyF x = 9223372036854775808 := by unfold Rl.keyF; rw [nx]; rfl
    simp only [Bool.false_eq_true, if_false, if_true]; omega
  · have e : Rl.keyF x = 9223372036854775808 := by unfold Rl.keyF; rw [nx]; rfl
    have e : Rl.keyF y = 9223372036854775808 := by unfold Rl.keyF; rw [ny]; rfl
    simp only [if_true]; omega
theorem xor_max (c : Nat) (h : c < 18446744073709551616) : bits .xor .u64 IntKind.u64.max (c : Int) = 18446744073709551615 - (c : Int) := by
  have e := BitVec.toNat_not (x := BitVec.ofNat 64 c)
  rw [BitVec.not_def, BitVec.toNat_xor, BitVec.toNat_allOnes, BitVec.toNat_ofNat, Nat.mod_eq_of_lt (show c < 2 ^ 64 by omega)] at e
  have := u64_xor_nat 18446744073709551615 c (by omega) h
  rw [show (18446744073709551615 : Nat) = 2 ^ 64 - 1 from rfl, e] at this
  refine Eq.trans this ?_
  omega
theorem crank (x : Nat) (w : World) (h : x < 18446744073709551616) : Calls Try.prog 34 #[.float .f64 x] w fun e w' => e = .returned (.int .u64 (rk x)) ∧ w = w' := by
  have C := Lib.hid (fun W => cbits64 x W h)
  have hl := can64_lt h
  have h1 := can64_sgn h
  have h2 := can64_pos h
  have a1 := and_top (can64 x) hl
  cases hs : Rl.sgn (can64 x)
  · have a2 := or_top (can64 x) (h2 hs)
    have HF := Lib.hid (show rk x = ((can64 x + 9223372036854775808 : Nat) : Int) by unfold rk; rw [hs]; simp only [Bool.false_eq_true, if_false]; omega)
    rw [hs] at a1
    simp only [Bool.false_eq_true, if_false] at a1
    clear h1 h2 hs
    go_enter Try.func34, Try.ntmps34
    go_wp2_with fail
    refine (C.out _).mono ?_
    rintro e w1 ⟨rfl, rfl⟩
    go_wp2_with fail
    go_ret
    exact ⟨by rw [HF.out]; rfl, rfl⟩
  · have HF := Lib.hid (show rk x = 18446744073709551615 - (can64 x : Int) by unfold rk; rw [hs]; rfl)
    have a3 := xor_max (can64 x) hl
    rw [hs] at a1
    simp only [if_true] at a1
    clear h1 h2 hs
    go_enter Try.func34, Try.ntmps34
    go_wp2_with fail
    refine (C.out _).mono ?_
    rintro e w1 ⟨rfl, rfl⟩
    go_wp2_with fail
    go_ret
    exact ⟨by rw [HF.out]; rfl, rfl⟩
theorem cisnan (n : Int) (w : World) : Calls Try.prog 39 #[.int .u64 n] w fun e w' => e = .returned (.bool false) ∧ w = w' := by
  go_enter Try.func39, Try.ntmps39
  go_wp2_with fail
  go_ret
  exact ⟨rfl, rfl⟩
theorem ccmp (m n v : Int) (w : World) (hv : v = if m < n then -1 else if n < m then 1 else 0) : Calls Try.prog 33 #[.int .u64 m, .int .u64 n] w fun e w' => e = .returned (.int .i64 v) ∧ w = w' := by
  have c1 := Lib.hid (fun W => cisnan m W)
  have c2 := Lib.hid (fun W => cisnan n W)
  by_cases h1 : m < n
  · rw [if_pos h1] at hv
    have HV := Lib.hid hv
    clear hv
    go_enter Try.func33, Try.ntmps33
    go_wp2_with fail
    refine (c1.out _).mono ?_
    rintro e w1 ⟨rfl, rfl⟩
    go_wp2_with fail
    refine (c2.out _).mono ?_
    rintro e w1 ⟨rfl, rfl⟩
    go_wp2_with fail
    go_ret
    exact ⟨by rw [HV.out]; rfl, rfl⟩
  · rw [if_neg h1] at hv
    have h1' : n ≤ m := by omega
    by_cases h2 : n < m
    · rw [if_pos h2] at hv
      have HV := Lib.hid hv
      clear hv
      go_enter Try.func33, Try.ntmps33
      go_wp2_with fail
      refine (c1.out _).mono ?_
      rintro e w1 ⟨rfl, rfl⟩
      go_wp2_with fail
      refine (c2.out _).mono ?_
      rintro e w1 ⟨rfl, rfl⟩
      go_wp2_with fail
      go_ret
      exact ⟨by rw [HV.out]; rfl, rfl⟩
    · rw [if_neg h2] at hv
      have HV := Lib.hid hv
      clear hv
      go_enter Try.func33, Try.ntmps33
      go_wp2_with fail
      refine (c1.out _).mono ?_
      rintro e w1 ⟨rfl, rfl⟩
      go_wp2_with fail
      refine (c2.out _).mono ?_
      rintro e w1 ⟨rfl, rfl⟩
      go_wp2_with fail
      go_ret
      exact ⟨by rw [HV.out]; rfl, rfl⟩
theorem order_c : COrd := fun x y w hx hy => by
  have C1 := Lib.hid (fun W => crank x W hx)
  have C2 := Lib.hid (fun W => crank y W hy)
  have C3 := Lib.hid (fun W => ccmp (rk x) (rk y) (Rl.ordF x y) W (by
    have e1 := rk_lt hx hy
    have e2 := rk_lt hy hx
    unfold Rl.ordF
    by_cases h1 : Rl.keyF x < Rl.keyF y
    · rw [if_neg (by omega), if_pos h1, if_pos (e1.2 h1)]
    · have n1 : ¬ rk x < rk y := fun h => h1 (e1.1 h)
      rw [if_neg n1]
      by_cases h2 : Rl.keyF y < Rl.keyF x
      · rw [if_neg (by omega), if_neg h1, if_pos (e2.2 h2)]
      · have n2 : ¬ rk y < rk x := fun h => h2 (e2.1 h)
        rw [if_neg n2, if_pos (by omega)]))
  go_enter Try.func21, Try.ntmps21
  go_wp2_with fail
  refine (C1.out _).mono ?_
  rintro e w1 ⟨rfl, rfl⟩
  go_wp2_with fail
  refine (C2.out _).mono ?_
  rintro e w1 ⟨rfl, rfl⟩
  go_wp2_with fail
  refine (C3.out _).mono ?_
  rintro e w1 ⟨rfl, rfl⟩
  go_wp2_with fail
  go_ret
  exact ⟨rfl, Up.refl _⟩
theorem cinf (x : Nat) (b : Bool) (w : World) (h : x < 18446744073709551616) (hb : b = decide (Rl.rung x = 9218868437227405312)) : Calls Try.prog 35 #[.float .f64 x] w fun e w' => e = .returned (.bool b) ∧ w = w' := by
  have C := Lib.hid (fun W => cbits64 x W h)
  have a1 := andn63 (can64 x) (can64_lt h)
  have HB := Lib.hid (show ((Rl.rung (can64 x) : Int) == 9218868437227405312) = b by
    rw [hb, Bool.eq_iff_iff, beq_iff_eq, decide_eq_true_iff]
    unfold can64
    cases hn : Rl.nanB x
    · simp only [Bool.false_eq_true, if_false]; omega
    · have : 9218868437227405312 < Rl.rung x := of_decide_eq_true hn
      simp only [if_true]
      have e : Rl.rung 9221120237041090560 = 9221120237041090560 := by decide
      rw [e]; omega)
  clear hb
  go_enter Try.func35, Try.ntmps35
  go_wp2_with fail
  refine (C.out _).mono ?_
  rintro e w1 ⟨rfl, rfl⟩
  go_wp2_with fail
  go_ret
  exact ⟨by rw [← HB.out]; rfl, rfl⟩
end Go.Proofs.Ytkddehfedfiagaa

import Ieee.Arith
namespace Go.Proofs.Ytkddehfedfiagaa
namespace Rl
open Ieee
set_option linter.unusedVariables false
theorem two_pow_le {a b : Nat} (h : a ≤ b) : 2 ^ a ≤ 2 ^ b := Nat.pow_le_pow_right (by decide) h
theorem lt_log (m : Nat) : m < 2 ^ (m.log2 + 1) := Nat.lt_log2_self
theorem d_least : double.leastPlace = -1074 := by decide
theorem d_binade : double.binade = 4503599627370496 := by decide
theorem d_inf : double.infRung = 9218868437227405312 := by decide
theorem d_sign : double.signWeight = 9223372036854775808 := by decide
/-- The place of a rung's last digit, above the least one; and how often it counts. -/
def shf (r : Nat) : Nat := r / 4503599627370496 - 1
def cnt (r : Nat) : Nat := if r < 4503599627370496 then r else 4503599627370496 + r % 4503599627370496
/-- The magnitude of a rung, in the least steps. -/
def val (r : Nat) : Nat := cnt r * 2 ^ shf r
theorem rung_eq (r : Nat) : r = shf r * 4503599627370496 + cnt r := by
  unfold shf cnt
  split
  · rw [Nat.div_eq_of_lt (by assumption)]; omega
  · omega
theorem cnt_lt (r : Nat) : cnt r < 9007199254740992 := by
  unfold cnt
  split <;> omega
theorem cnt_ge (r : Nat) (h : 0 < shf r) : 4503599627370496 ≤ cnt r := by
  unfold shf at h
  unfold cnt
  rw [if_neg (by omega)]
  omega
theorem cut_def (neg : Bool) (n d : Nat) : Toward.even.cut neg n d = n / 2 ^ min d (n.log2 + 2) + (decide (2 ^ min d (n.log2 + 2) < 2 * (n % 2 ^ min d (n.log2 + 2))) || (2 ^ min d (n.log2 + 2) == 2 * (n % 2 ^ min d (n.log2 + 2)) && n / 2 ^ min d (n.log2 + 2) % 2 == 1)).toNat := by
  unfold Toward.cut
  simp only [Nat.shiftLeft_eq, Nat.one_mul]
theorem cut_lo (neg : Bool) (n d c : Nat) (h : c * 2 ^ d ≤ n) : c ≤ Toward.even.cut neg n d := by
  rw [cut_def]
  refine Nat.le_trans ?_ (Nat.le_add_right _ _)
  rcases Nat.le_total d (n.log2 + 2) with hd | hd
  · rw [Nat.min_eq_left hd]
    exact (Nat.le_div_iff_mul_le (Nat.two_pow_pos _)).2 h
  · have h1 := lt_log n
    have h2 : 2 ^ (n.log2 + 1) ≤ 2 ^ d := two_pow_le (by omega)
    rcases Nat.eq_zero_or_pos c with hc | hc
    · rw [hc]; exact Nat.zero_le _
    · have h3 := Nat.le_mul_of_pos_left (2 ^ d) hc
      exact absurd (Nat.lt_of_lt_of_le h1 (Nat.le_trans h2 (Nat.le_trans h3 h))) (Nat.lt_irrefl _)
theorem cut_hi (neg : Bool) (n d c : Nat) (h : n ≤ c * 2 ^ d) : Toward.even.cut neg n d ≤ c := by
  rw [cut_def]
  rcases Nat.le_total d (n.log2 + 2) with hd | hd
  · rw [Nat.min_eq_left hd]
    have hp := Nat.two_pow_pos d
    generalize 2 ^ d = g at *
    rcases Nat.lt_or_ge n (c * g) with hl | hl
    · have h1 : n / g < c := (Nat.div_lt_iff_lt_mul hp).2 hl
      have h2 := Bool.toNat_le (decide (g < 2 * (n % g)) || (g == 2 * (n % g) && n / g % 2 == 1))
      omega
    · have he : n = c * g := Nat.le_antisymm h hl
      subst he
      rw [Nat.mul_div_cancel _ hp, Nat.mul_mod_left]
      have e : (g == 2 * 0) = false := by rw [beq_eq_false_iff_ne]; omega
      rw [e, decide_eq_false (by omega)]
      exact Nat.le_refl _
  · rw [Nat.min_eq_right hd]
    have h1 := lt_log n
    have h2 : 2 ^ (n.log2 + 2) = 2 * 2 ^ (n.log2 + 1) := by rw [show n.log2 + 2 = (n.log2 + 1) + 1 by omega, Nat.pow_succ]; omega
    rw [h2]
    generalize 2 ^ (n.log2 + 1) = g at *
    rw [Nat.div_eq_of_lt (by omega), Nat.mod_eq_of_lt (by omega)]
    have e : (2 * g == 2 * n) = false := by rw [beq_eq_false_iff_ne]; omega
    rw [e, decide_eq_false (by omega)]
    exact Nat.zero_le _
end Rl
end Go.Proofs.Ytkddehfedfiagaa

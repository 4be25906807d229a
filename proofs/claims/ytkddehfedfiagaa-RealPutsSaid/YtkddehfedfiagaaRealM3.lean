import Derived.Test.YtkddehfedfiagaaRealM2
namespace Go.Proofs.Ytkddehfedfiagaa
namespace Rl
open Ieee
set_option linter.unusedVariables false
/-- The sign and the rung of a word. -/
def sgn (b : Nat) : Bool := b / 9223372036854775808 % 2 == 1
def rung (b : Nat) : Nat := b % 9223372036854775808
theorem read_fin (b : Nat) (h : rung b < 9218868437227405312) : double.read b = .number (sgn b) (cnt (rung b)) (-1074 + shf (rung b)) := by
  unfold Format.read
  rw [d_sign, d_binade, d_inf, d_least]
  unfold sgn rung at *
  by_cases h1 : b % 9223372036854775808 < 4503599627370496
  · simp only [h1, if_true]
    unfold cnt shf
    rw [if_pos h1, Nat.div_eq_of_lt h1]
    rfl
  · simp only [h1, if_false, h, if_true]
    unfold cnt shf
    rw [if_neg h1]
theorem read_inf (b : Nat) (h : rung b = 9218868437227405312) : double.read b = .infinity (sgn b) := by
  unfold Format.read
  rw [d_sign, d_binade, d_inf, d_least]
  unfold sgn rung at *
  rw [h]
  simp
theorem read_nan (b : Nat) (h : 9218868437227405312 < rung b) : ∃ f, double.read b = .nan (sgn b) f := by
  unfold Format.read
  rw [d_sign, d_binade, d_inf, d_least]
  unfold sgn rung at *
  rw [if_neg (by omega), if_neg (by omega), if_neg (by omega)]
  exact ⟨_, rfl⟩
theorem word_def (s : Bool) (r : Nat) : double.word s r = if s then 9223372036854775808 + r else r := by unfold Format.word; rw [d_sign]
theorem word_sgn (s : Bool) (r : Nat) (h : r ≤ 9218868437227405312) : sgn (double.word s r) = s := by
  rw [word_def]; unfold sgn
  cases s
  · simp only [Bool.false_eq_true, if_false]; rw [Nat.div_eq_of_lt (by omega)]; rfl
  · simp only [if_true]
    rw [show (9223372036854775808 + r) / 9223372036854775808 = 1 by omega]; rfl
theorem word_rung (s : Bool) (r : Nat) (h : r ≤ 9218868437227405312) : rung (double.word s r) = r := by
  rw [word_def]; unfold rung
  cases s <;> simp <;> omega
theorem val_eq_zero {r : Nat} (h : val r = 0) : r = 0 := by
  unfold val at h
  have := rung_eq r
  have hg := cnt_ge r
  rcases Nat.mul_eq_zero.1 h with h1 | h1
  · by_cases hs : 0 < shf r
    · have := hg hs; omega
    · omega
  · have := Nat.two_pow_pos (shf r); omega
theorem val_zero : val 0 = 0 := by unfold val cnt; simp
/-- A rung as a place and a count gives its magnitude. -/
theorem val_of (t c : Nat) (h1 : c < 9007199254740992) (h2 : 0 < t → 4503599627370496 ≤ c) : val (t * 4503599627370496 + c) = c * 2 ^ t := by
  unfold val cnt shf
  rcases Nat.eq_zero_or_pos t with h | h
  · subst h
    rw [Nat.zero_mul, Nat.zero_add]
    split
    · rw [Nat.div_eq_of_lt (by assumption)]
    · have e1 : c / 4503599627370496 = 1 := by omega
      rw [e1, show 4503599627370496 + c % 4503599627370496 = c by omega]
  · have := h2 h
    have e0 : (t * 4503599627370496 + c) / 4503599627370496 = t + 1 := by omega
    have e1 : (t * 4503599627370496 + c) % 4503599627370496 = c - 4503599627370496 := by omega
    rw [if_neg (by omega), e0, e1, show 4503599627370496 + (c - 4503599627370496) = c by omega]
    congr 2
theorem val_step (r : Nat) : val r < val (r + 1) := by
  have h := rung_eq r
  have h1 := cnt_lt r
  have h2 := cnt_ge r
  rcases Nat.lt_or_ge (cnt r + 1) 9007199254740992 with hlt | hge
  · have e : val (r + 1) = (cnt r + 1) * 2 ^ shf r := by
      rw [show r + 1 = shf r * 4503599627370496 + (cnt r + 1) by omega]
      exact val_of _ _ hlt (fun hs => by have := h2 hs; omega)
    rw [e]
    unfold val
    exact Nat.mul_lt_mul_of_pos_right (by omega) (Nat.two_pow_pos _)
  · have e : val (r + 1) = 4503599627370496 * 2 ^ (shf r + 1) := by
      rw [show r + 1 = (shf r + 1) * 4503599627370496 + 4503599627370496 by omega]
      exact val_of _ _ (by omega) (fun _ => Nat.le_refl _)
    rw [e]
    unfold val
    calc cnt r * 2 ^ shf r < 9007199254740992 * 2 ^ shf r := Nat.mul_lt_mul_of_pos_right (by omega) (Nat.two_pow_pos _)
      _ = 4503599627370496 * 2 ^ (shf r + 1) := by rw [Nat.pow_succ]; omega
theorem val_mono {r r' : Nat} (h : r ≤ r') : val r ≤ val r' := by
  induction h with
  | refl => exact Nat.le_refl _
  | step _ ih => exact Nat.le_of_lt (Nat.lt_of_le_of_lt ih (val_step _))
theorem val_lt {r r' : Nat} (h : r < r') : val r < val r' := Nat.lt_of_lt_of_le (val_step r) (val_mono h)
theorem val_le_iff {r r' : Nat} : val r ≤ val r' ↔ r ≤ r' := ⟨fun h => by
  rcases Nat.lt_or_ge r' r with h1 | h1
  · have := val_lt h1; omega
  · exact h1, val_mono⟩
/-- Twice a rung. -/
def dbl (r : Nat) : Nat := if r < 4503599627370496 then 2 * r else r + 4503599627370496
theorem val_dbl (r : Nat) : val (dbl r) = 2 * val r := by
  unfold dbl
  split
  · rename_i h
    have e1 : val (2 * r) = 2 * r := by
      have := val_of 0 (2 * r) (by omega) (by omega)
      simpa using this
    have e2 : val r = r := by
      have := val_of 0 r (by omega) (by omega)
      simpa using this
    omega
  · rename_i h
    have hr := rung_eq r
    have hl := cnt_lt r
    have hc : 4503599627370496 ≤ cnt r := by unfold cnt; rw [if_neg h]; omega
    have e : val (r + 4503599627370496) = cnt r * 2 ^ (shf r + 1) := by
      rw [show r + 4503599627370496 = (shf r + 1) * 4503599627370496 + cnt r by omega]
      exact val_of _ _ hl (fun _ => hc)
    rw [e, Nat.pow_succ]
    unfold val
    rw [← Nat.mul_assoc]; omega
/-- ρ is nearest to X, counted in 2^-E of the least unit, as far as rungs tell. -/
def Near (E ρ X : Nat) : Prop := ρ ≤ 9218868437227405312 ∧ ∀ r, r ≤ 9218868437227405312 → (val r * 2 ^ E ≤ X → r ≤ ρ) ∧ (X ≤ val r * 2 ^ E → ρ ≤ r)
theorem near_zero (E : Nat) : Near E 0 0 := by
  refine ⟨by omega, fun r _ => ⟨fun h => ?_, fun _ => Nat.zero_le _⟩⟩
  have : val r * 2 ^ E = 0 := by omega
  rcases Nat.mul_eq_zero.1 this with h1 | h1
  · rw [val_eq_zero h1]; exact Nat.le_refl _
  · have := Nat.two_pow_pos E; omega
theorem near_rung (mag : Nat) (place : Int) (hm : mag ≠ 0) (E : Nat) (hE : 0 ≤ place + 1074 + E) : Near E (rungOf mag place) (mag * 2 ^ (place + 1074 + E).toNat) :=
  ⟨Nat.min_le_right _ _, fun r hr => ⟨rung_lo mag place hm E hE r hr, rung_hi mag place hm E hE r⟩⟩
end Rl
end Go.Proofs.Ytkddehfedfiagaa

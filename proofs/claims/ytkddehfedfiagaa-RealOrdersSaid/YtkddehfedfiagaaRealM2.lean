import Derived.Test.YtkddehfedfiagaaRealM
namespace Go.Proofs.Ytkddehfedfiagaa
namespace Rl
open Ieee
set_option linter.unusedVariables false
/-- The place of the last digit that is kept. -/
def last (mag : Nat) (place : Int) : Int := max (place + mag.log2 - 52) (-1074)
def kept (mag : Nat) (place : Int) : Nat := Toward.even.cut false (mag * 2 ^ (place - last mag place).toNat) (last mag place - place).toNat
/-- The rung nearest to a number. -/
def rungOf (mag : Nat) (place : Int) : Nat := min ((last mag place + 1074).toNat * 4503599627370496 + kept mag place) 9218868437227405312
theorem nearest_zero (neg : Bool) (place : Int) : double.nearest neg 0 place = double.word neg 0 := by unfold Format.nearest; rw [if_pos rfl]
theorem nearest_eq (neg : Bool) (mag : Nat) (place : Int) (h : mag ≠ 0) : double.nearest neg mag place = double.word neg (rungOf mag place) := by
  unfold Format.nearest
  rw [if_neg h, d_least, d_inf, d_binade]
  have e : (double.fractionBits : Int) = 52 := by decide
  simp only [e]
  unfold rungOf kept last
  have hc : ∀ n d, Toward.even.cut neg n d = Toward.even.cut false n d := fun n d => by rw [cut_def, cut_def]
  rw [hc, Nat.shiftLeft_eq]
  congr 4
section
variable (mag : Nat) (place : Int) (hm : mag ≠ 0)
theorem log_le : 2 ^ mag.log2 ≤ mag ∨ mag = 0 := by
  rcases Nat.eq_zero_or_pos mag with h | h
  · exact .inr h
  · exact .inl (Nat.log2_self_le (by omega))
theorem norm_hi : mag * 2 ^ (place - last mag place).toNat < 9007199254740992 * 2 ^ (last mag place - place).toNat := by
  have hl := lt_log mag
  have h1 : last mag place ≥ place + mag.log2 - 52 := by unfold last; omega
  generalize last mag place = l at h1 ⊢
  rcases Int.le_total l place with h | h
  · rw [show (l - place).toNat = 0 by omega, Nat.pow_zero, Nat.mul_one]
    have h2 : (place - l).toNat ≤ 52 - mag.log2 := by omega
    have h3 : mag.log2 ≤ 52 := by omega
    calc mag * 2 ^ (place - l).toNat ≤ mag * 2 ^ (52 - mag.log2) := Nat.mul_le_mul_left _ (two_pow_le h2)
      _ < 2 ^ (mag.log2 + 1) * 2 ^ (52 - mag.log2) := Nat.mul_lt_mul_of_pos_right hl (Nat.two_pow_pos _)
      _ = 9007199254740992 := by rw [← Nat.pow_add, show mag.log2 + 1 + (52 - mag.log2) = 53 by omega]
  · rw [show (place - l).toNat = 0 by omega, Nat.pow_zero, Nat.mul_one]
    have h2 : mag.log2 + 1 ≤ 53 + (l - place).toNat := by omega
    calc mag < 2 ^ (mag.log2 + 1) := hl
      _ ≤ 2 ^ (53 + (l - place).toNat) := two_pow_le h2
      _ = 9007199254740992 * 2 ^ (l - place).toNat := by rw [Nat.pow_add]
include hm
theorem norm_lo (hs : 0 < (last mag place + 1074).toNat) : 4503599627370496 * 2 ^ (last mag place - place).toNat ≤ mag * 2 ^ (place - last mag place).toNat := by
  have hl : 2 ^ mag.log2 ≤ mag := Nat.log2_self_le hm
  have h1 : last mag place = place + mag.log2 - 52 := by unfold last at hs ⊢; omega
  rw [h1]
  rcases Nat.le_total mag.log2 52 with h | h
  · rw [show (place + (mag.log2 : Int) - 52 - place).toNat = 0 by omega, Nat.pow_zero, Nat.mul_one, show (place - (place + (mag.log2 : Int) - 52)).toNat = 52 - mag.log2 by omega]
    calc 4503599627370496 = 2 ^ mag.log2 * 2 ^ (52 - mag.log2) := by rw [← Nat.pow_add, show mag.log2 + (52 - mag.log2) = 52 by omega]
      _ ≤ mag * 2 ^ (52 - mag.log2) := Nat.mul_le_mul_right _ hl
  · rw [show (place - (place + (mag.log2 : Int) - 52)).toNat = 0 by omega, Nat.pow_zero, Nat.mul_one, show (place + (mag.log2 : Int) - 52 - place).toNat = mag.log2 - 52 by omega]
    calc 4503599627370496 * 2 ^ (mag.log2 - 52) = 2 ^ 52 * 2 ^ (mag.log2 - 52) := rfl
      _ = 2 ^ mag.log2 := by rw [← Nat.pow_add, show 52 + (mag.log2 - 52) = mag.log2 by omega]
      _ ≤ mag := hl
omit hm in
theorem link (E : Nat) (hE : 0 ≤ place + 1074 + E) : mag * 2 ^ (place - last mag place).toNat * 2 ^ ((last mag place + 1074).toNat + E) = mag * 2 ^ (place + 1074 + E).toNat * 2 ^ (last mag place - place).toNat := by
  have h1 : -1074 ≤ last mag place := by unfold last; omega
  generalize last mag place = l at h1 ⊢
  rw [Nat.mul_assoc, Nat.mul_assoc, ← Nat.pow_add, ← Nat.pow_add]
  congr 2
  omega
theorem rung_lo (E : Nat) (hE : 0 ≤ place + 1074 + E) (r : Nat) (hr : r ≤ 9218868437227405312) (h : val r * 2 ^ E ≤ mag * 2 ^ (place + 1074 + E).toNat) : r ≤ rungOf mag place := by
  refine Nat.le_min.2 ⟨?_, hr⟩
  have hk := link mag place E hE
  have nh := norm_hi mag place
  have nl := norm_lo mag place hm
  have re := rung_eq r
  have cl := cnt_lt r
  have cg := cnt_ge r
  unfold kept
  unfold val at h
  generalize (last mag place + 1074).toNat = s at hk nl ⊢
  generalize hd : (last mag place - place).toNat = d at hk nl nh ⊢
  generalize hn : mag * 2 ^ (place - last mag place).toNat = n at hk nl nh ⊢
  generalize mag * 2 ^ (place + 1074 + E).toNat = X at h hk
  generalize cnt r = c at h re cl cg
  generalize shf r = t at h re cg
  have hcut : ∀ m, m * 2 ^ d * 2 ^ (s + E) ≤ X * 2 ^ d → m * 2 ^ d ≤ n := fun m hm' => by
    rw [← hk] at hm'
    exact Nat.le_of_mul_le_mul_right hm' (Nat.two_pow_pos _)
  rcases Nat.lt_trichotomy t s with hts | hts | hts
  · have := cut_lo false n d 4503599627370496 (nl (by omega))
    rw [re]
    have := Nat.mul_le_mul_right 4503599627370496 (show t + 1 ≤ s by omega)
    omega
  · subst hts
    have h2 : c * 2 ^ d * 2 ^ (t + E) ≤ X * 2 ^ d := by
      rw [Nat.mul_right_comm, Nat.pow_add, ← Nat.mul_assoc]
      exact Nat.mul_le_mul_right _ h
    have := cut_lo false n d c (hcut c h2)
    omega
  · exfalso
    have hc := cg (by omega)
    have h2 : 9007199254740992 * 2 ^ d * 2 ^ (s + E) ≤ X * 2 ^ d := by
      rw [Nat.mul_right_comm]
      refine Nat.mul_le_mul_right _ (Nat.le_trans ?_ h)
      rw [Nat.pow_add, ← Nat.mul_assoc]
      refine Nat.mul_le_mul_right _ ?_
      calc 9007199254740992 * 2 ^ s = 4503599627370496 * 2 ^ (s + 1) := by rw [Nat.pow_succ]; omega
        _ ≤ c * 2 ^ t := Nat.mul_le_mul hc (two_pow_le (by omega))
    have := hcut _ h2
    omega
theorem rung_hi (E : Nat) (hE : 0 ≤ place + 1074 + E) (r : Nat) (h : mag * 2 ^ (place + 1074 + E).toNat ≤ val r * 2 ^ E) : rungOf mag place ≤ r := by
  refine Nat.le_trans (Nat.min_le_left _ _) ?_
  have hk := link mag place E hE
  have nh := norm_hi mag place
  have nl := norm_lo mag place hm
  have re := rung_eq r
  have cl := cnt_lt r
  have cg := cnt_ge r
  unfold kept
  unfold val at h
  generalize (last mag place + 1074).toNat = s at hk nl ⊢
  generalize hd : (last mag place - place).toNat = d at hk nl nh ⊢
  generalize hn : mag * 2 ^ (place - last mag place).toNat = n at hk nl nh ⊢
  generalize mag * 2 ^ (place + 1074 + E).toNat = X at h hk
  generalize cnt r = c at h re cl cg
  generalize shf r = t at h re cg
  have hcut : ∀ m, X * 2 ^ d ≤ m * 2 ^ d * 2 ^ (s + E) → n ≤ m * 2 ^ d := fun m hm' => by
    rw [← hk] at hm'
    exact Nat.le_of_mul_le_mul_right hm' (Nat.two_pow_pos _)
  rcases Nat.lt_trichotomy t s with hts | hts | hts
  · exfalso
    have h2 : n * 2 ^ (s + E) < 4503599627370496 * 2 ^ d * 2 ^ (s + E) := by
      rw [hk]
      calc X * 2 ^ d ≤ c * 2 ^ t * 2 ^ E * 2 ^ d := Nat.mul_le_mul_right _ h
        _ < 9007199254740992 * 2 ^ t * 2 ^ E * 2 ^ d := Nat.mul_lt_mul_of_pos_right (Nat.mul_lt_mul_of_pos_right (Nat.mul_lt_mul_of_pos_right (by omega) (Nat.two_pow_pos _)) (Nat.two_pow_pos _)) (Nat.two_pow_pos _)
        _ ≤ 4503599627370496 * 2 ^ s * 2 ^ E * 2 ^ d := Nat.mul_le_mul_right _ (Nat.mul_le_mul_right _ (by
            calc 9007199254740992 * 2 ^ t = 4503599627370496 * 2 ^ (t + 1) := by rw [Nat.pow_succ]; omega
              _ ≤ 4503599627370496 * 2 ^ s := Nat.mul_le_mul_left _ (two_pow_le (by omega))))
        _ = 4503599627370496 * 2 ^ d * 2 ^ (s + E) := by rw [Nat.pow_add, ← Nat.mul_assoc, Nat.mul_right_comm 4503599627370496 (2 ^ d), Nat.mul_right_comm (4503599627370496 * 2 ^ s) (2 ^ d)]
    have h3 : n < 4503599627370496 * 2 ^ d := Nat.lt_of_mul_lt_mul_right h2
    have := nl (by omega)
    omega
  · subst hts
    have h2 : X * 2 ^ d ≤ c * 2 ^ d * 2 ^ (t + E) := by
      rw [Nat.mul_right_comm c, Nat.pow_add, ← Nat.mul_assoc]
      exact Nat.mul_le_mul_right _ h
    have := cut_hi false n d c (hcut c h2)
    omega
  · have := cut_hi false n d 9007199254740992 (Nat.le_of_lt nh)
    have hc := cg (by omega)
    rw [re]
    have := Nat.mul_le_mul_right 4503599627370496 (show s + 1 ≤ t by omega)
    omega
end
end Rl
end Go.Proofs.Ytkddehfedfiagaa

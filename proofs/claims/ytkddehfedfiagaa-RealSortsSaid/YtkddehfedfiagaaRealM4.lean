import Derived.Test.YtkddehfedfiagaaRealM3
namespace Go.Proofs.Ytkddehfedfiagaa
namespace Rl
open Ieee
set_option linter.unusedVariables false
/-- A word's magnitude with its sign, in least units. -/
def sv (b : Nat) : Int := if sgn b then -(val (rung b) : Int) else val (rung b)
/-- The word of a sum S, in 2^-E of the least unit. -/
structure Nears (E : Nat) (w : Nat) (S : Int) : Prop where
  near : Near E (rung w) S.natAbs
  neg : S < 0 → sgn w = true
  pos : 0 < S → sgn w = false
theorem signed_eq (s : Bool) (m u : Nat) : signed s m u = if s then -((m * 2 ^ u : Nat) : Int) else ((m * 2 ^ u : Nat) : Int) := by
  unfold signed
  rw [Nat.shiftLeft_eq]
theorem write_num (s : Bool) (mag : Nat) (place : Int) (E : Nat) (hE : 0 ≤ place + 1074 + E) : ∃ ρ, double.write (.number s mag place) = double.word s ρ ∧ Near E ρ (mag * 2 ^ (place + 1074 + E).toNat) := by
  by_cases h : mag = 0
  · subst h
    refine ⟨0, nearest_zero s place, ?_⟩
    rw [Nat.zero_mul]
    exact near_zero E
  · exact ⟨rungOf mag place, nearest_eq s mag place h, near_rung mag place h E hE⟩
theorem near_le {E ρ X : Nat} (h : Near E ρ X) : ρ ≤ 9218868437227405312 := h.1
theorem add_fin (x y : Nat) (hx : rung x < 9218868437227405312) (hy : rung y < 9218868437227405312) : ∃ w, double.add x y = some w ∧ Nears 0 w (sv x + sv y) := by
  unfold Format.add
  rw [read_fin x hx, read_fin y hy]
  simp only [Datum.sum]
  generalize hbase : min (-1074 + (shf (rung x) : Int)) (-1074 + (shf (rung y) : Int)) = base
  have hb1 : -1074 ≤ base := by omega
  have hb2 : base ≤ -1074 + (shf (rung x) : Int) := by omega
  have hb3 : base ≤ -1074 + (shf (rung y) : Int) := by omega
  obtain ⟨k, hk⟩ := Int.eq_ofNat_of_zero_le (show 0 ≤ base + 1074 by omega)
  have ex : (-1074 + (shf (rung x) : Int) - base).toNat = shf (rung x) - k := by omega
  have ey : (-1074 + (shf (rung y) : Int) - base).toNat = shf (rung y) - k := by omega
  have kx : k ≤ shf (rung x) := by omega
  have ky : k ≤ shf (rung y) := by omega
  rw [ex, ey, signed_eq, signed_eq]
  have vx : val (rung x) = cnt (rung x) * 2 ^ (shf (rung x) - k) * 2 ^ k := by
    unfold val; rw [Nat.mul_assoc, ← Nat.pow_add, Nat.sub_add_cancel kx]
  have vy : val (rung y) = cnt (rung y) * 2 ^ (shf (rung y) - k) * 2 ^ k := by
    unfold val; rw [Nat.mul_assoc, ← Nat.pow_add, Nat.sub_add_cancel ky]
  generalize cnt (rung x) * 2 ^ (shf (rung x) - k) = a at vx ⊢
  generalize cnt (rung y) * 2 ^ (shf (rung y) - k) = b at vy ⊢
  have hp : (0 : Int) < ((2 ^ k : Nat) : Int) := by have := Nat.two_pow_pos k; omega
  generalize hA : (if sgn x = true then -(a : Int) else (a : Int)) = A
  generalize hB : (if sgn y = true then -(b : Int) else (b : Int)) = C
  have hS : sv x + sv y = (A + C) * ((2 ^ k : Nat) : Int) := by
    unfold sv
    rw [vx, vy, ← hA, ← hB, Int.add_mul]
    congr 1
    · split
      · rw [Int.natCast_mul, Int.neg_mul]
      · rw [Int.natCast_mul]
    · split
      · rw [Int.natCast_mul, Int.neg_mul]
      · rw [Int.natCast_mul]
  rw [hS]
  generalize A + C = T
  have hz : (0 : Int) ≤ base + 1074 + ((0 : Nat) : Int) := by omega
  obtain ⟨ρ, hw, hn⟩ := write_num (if T = 0 then sgn x && sgn y else decide (T < 0)) T.natAbs base 0 hz
  refine ⟨_, rfl, ?_⟩
  rw [hw]
  have hk2 : (base + 1074 + ((0 : Nat) : Int)).toNat = k := by omega
  rw [hk2] at hn
  have habs : (T * ((2 ^ k : Nat) : Int)).natAbs = T.natAbs * 2 ^ k := by rw [Int.natAbs_mul, Int.natAbs_natCast]
  refine ⟨?_, fun hlt => ?_, fun hgt => ?_⟩
  · rw [word_rung _ _ hn.1, habs]; exact hn
  · rw [word_sgn _ _ hn.1]
    have hT : T < 0 := by
      rcases Int.lt_or_le T 0 with h | h
      · exact h
      · have := Int.mul_nonneg h (Int.le_of_lt hp); omega
    rw [if_neg (by omega)]; simp [hT]
  · rw [word_sgn _ _ hn.1]
    have hT : 0 < T := by
      rcases Int.lt_or_le 0 T with h | h
      · exact h
      · have := Int.mul_le_mul_of_nonneg_right h (Int.le_of_lt hp); omega
    rw [if_neg (by omega)]; simp; omega
/-- The word of 2. -/
theorem read_two : double.read 4611686018427387904 = .number false 4503599627370496 (-51) := by decide
theorem log_cnt (r : Nat) : (cnt r).log2 ≤ 52 := by
  have h := cnt_lt r
  by_cases h0 : cnt r = 0
  · rw [h0]; decide
  · have := (Nat.log2_lt h0).2 (show cnt r < 2 ^ 53 by omega)
    omega
theorem half_fin (x : Nat) (hx : rung x < 9218868437227405312) : ∃ ρ, double.div x 4611686018427387904 = some (double.word (sgn x) ρ) ∧ ρ ≤ 9218868437227405312 ∧ ∀ r, r ≤ 9218868437227405312 → (2 * val r ≤ val (rung x) → r ≤ ρ) ∧ (val (rung x) ≤ 2 * val r → ρ ≤ r) := by
  unfold Format.div
  rw [read_fin x hx, read_two]
  have hl := log_cnt (rung x)
  have e1 : double.fractionBits + 2 = 54 := by decide
  have e2 : Nat.log2 4503599627370496 = 52 := by decide
  simp only [Datum.quotient, e1, e2]
  rw [if_neg (by decide)]
  generalize hm : 54 + 52 - (cnt (rung x)).log2 = more
  have hm1 : 54 ≤ more := by omega
  have hm2 : more ≤ 106 := by omega
  have hd : cnt (rung x) <<< more = cnt (rung x) * 2 ^ (more - 52) * 4503599627370496 := by
    rw [Nat.shiftLeft_eq, Nat.mul_assoc, show (4503599627370496 : Nat) = 2 ^ 52 from rfl, ← Nat.pow_add, show more - 52 + 52 = more by omega]
  rw [hd, Nat.mul_div_cancel _ (by decide), Nat.mul_mod_left]
  simp only [bne_self_eq_false, Bool.toNat_false, Nat.add_zero, Bool.xor_false]
  have hz : (0 : Int) ≤ -1074 + (shf (rung x) : Int) - -51 - more - 1 + 1074 + ((107 : Nat) : Int) := by omega
  obtain ⟨ρ, hw, hn⟩ := write_num (sgn x) (2 * (cnt (rung x) * 2 ^ (more - 52))) _ 107 hz
  refine ⟨ρ, by rw [Option.map_some, hw], hn.1, ?_⟩
  have hv : 2 * (cnt (rung x) * 2 ^ (more - 52)) * 2 ^ (-1074 + (shf (rung x) : Int) - -51 - more - 1 + 1074 + ((107 : Nat) : Int)).toNat = val (rung x) * 2 ^ 106 := by
    unfold val
    have ee : (-1074 + (shf (rung x) : Int) - -51 - more - 1 + 1074 + ((107 : Nat) : Int)).toNat = shf (rung x) + (157 - more) := by omega
    rw [ee, Nat.mul_comm 2, Nat.mul_assoc, Nat.mul_assoc, Nat.mul_assoc]
    congr 1
    rw [show 2 * 2 ^ (shf (rung x) + (157 - more)) = 2 ^ (shf (rung x) + (157 - more) + 1) by rw [Nat.pow_succ]; omega, ← Nat.pow_add, ← Nat.pow_add]
    congr 1
    omega
  rw [hv] at hn
  intro r hr
  obtain ⟨h1, h2⟩ := hn.2 r hr
  have e3 : val r * 2 ^ 107 = 2 * val r * 2 ^ 106 := by rw [show (107 : Nat) = 106 + 1 from rfl, Nat.pow_succ]; omega
  rw [e3] at h1 h2
  exact ⟨fun h => h1 (Nat.mul_le_mul_right _ h), fun h => h2 (Nat.mul_le_mul_right _ h)⟩
end Rl
end Go.Proofs.Ytkddehfedfiagaa

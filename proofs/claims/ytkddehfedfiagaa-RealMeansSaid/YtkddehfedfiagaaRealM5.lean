import Derived.Test.YtkddehfedfiagaaRealM4
namespace Go.Proofs.Ytkddehfedfiagaa
namespace Rl
open Ieee
set_option linter.unusedVariables false
/-- ρ is nearest to the half of r's magnitude. -/
def Half (r ρ : Nat) : Prop := ρ ≤ 9218868437227405312 ∧ ∀ r', r' ≤ 9218868437227405312 → (2 * val r' ≤ val r → r' ≤ ρ) ∧ (val r ≤ 2 * val r' → ρ ≤ r')
theorem near0 {ρ X : Nat} (h : Near 0 ρ X) : ρ ≤ 9218868437227405312 ∧ ∀ r, r ≤ 9218868437227405312 → (val r ≤ X → r ≤ ρ) ∧ (X ≤ val r → ρ ≤ r) := by
  refine ⟨h.1, fun r hr => ?_⟩
  have := h.2 r hr
  rwa [Nat.pow_zero, Nat.mul_one] at this
theorem half_hi {ρ μ S r : Nat} (hn : Near 0 ρ S) (hf : ρ < 9218868437227405312) (hh : Half ρ μ) (hr : r < 9218868437227405312) (h : S ≤ 2 * val r) : μ ≤ r := by
  have h0 := near0 hn
  refine (hh.2 r (by omega)).2 ?_
  rcases Nat.lt_or_ge 9218868437227405312 (dbl r) with hd | hd
  · rw [← val_dbl]; exact val_mono (by omega)
  · rw [← val_dbl] at h ⊢
    exact val_mono ((h0.2 _ hd).2 h)
theorem half_lo {ρ μ S r : Nat} (hn : Near 0 ρ S) (hf : ρ < 9218868437227405312) (hh : Half ρ μ) (hr : r < 9218868437227405312) (h : 2 * val r ≤ S) : r ≤ μ := by
  have h0 := near0 hn
  refine (hh.2 r (by omega)).1 ?_
  rcases Nat.lt_or_ge 9218868437227405312 (dbl r) with hd | hd
  · exfalso
    have h1 : val 9218868437227405312 ≤ S := by
      have := val_mono (show 9218868437227405312 ≤ dbl r by omega)
      rw [val_dbl] at this; omega
    have := (h0.2 9218868437227405312 (Nat.le_refl _)).1 h1
    omega
  · rw [← val_dbl] at h ⊢
    exact val_mono ((h0.2 _ hd).1 h)
theorem half_exact {r π : Nat} (hr : 9007199254740992 ≤ r) (hI : r ≤ 9218868437227405312) (h : Half r π) : 2 * val π = val r := by
  have e : dbl (r - 4503599627370496) = r := by unfold dbl; rw [if_neg (by omega)]; omega
  have hv : 2 * val (r - 4503599627370496) = val r := by rw [← val_dbl, e]
  have h1 := (h.2 (r - 4503599627370496) (by omega)).1 (by omega)
  have h2 := (h.2 (r - 4503599627370496) (by omega)).2 (by omega)
  have : π = r - 4503599627370496 := by omega
  rw [this, hv]
theorem over {r1 r2 π1 π2 μ : Nat} (h12 : r1 ≤ r2) (h2 : r2 < 9218868437227405312) (hS : val 9218868437227405311 < val r1 + val r2) (p1 : Half r1 π1) (p2 : Half r2 π2) (hm : Near 0 μ (val π1 + val π2)) : r1 ≤ μ ∧ μ ≤ r2 := by
  have hm0 := near0 hm
  have hbig : 13510798882111488 < r2 := by
    rcases Nat.lt_or_ge 13510798882111488 r2 with h | h
    · exact h
    · exfalso
      have v12 := val_mono h12
      have v2 := val_mono h
      have hd := val_dbl 13510798882111488
      have := val_mono (show dbl 13510798882111488 ≤ 9218868437227405311 by decide)
      omega
  have e2 := half_exact (by omega) (by omega) p2
  have v12 := val_mono h12
  have hp : π1 ≤ π2 := (p1.2 π2 p2.1).2 (by omega)
  have vp := val_mono hp
  refine ⟨(hm0.2 r1 (by omega)).1 ?_, (hm0.2 r2 (by omega)).2 (by omega)⟩
  rcases Nat.lt_or_ge r1 9007199254740992 with hs | hs
  · have hpi : r1 ≤ π2 := by
      have h3 : 2 * val 9007199254740992 ≤ val r2 := by
        rw [← val_dbl]; exact val_mono (by have : dbl 9007199254740992 = 13510798882111488 := by decide
                                           omega)
      have := (p2.2 9007199254740992 (by decide)).1 h3
      omega
    have := val_mono hpi
    omega
  · have e1 := half_exact hs (by omega) p1
    omega
theorem sv_word (s : Bool) (r : Nat) (h : r ≤ 9218868437227405312) : sv (double.word s r) = if s then -(val r : Int) else val r := by
  unfold sv; rw [word_sgn _ _ h, word_rung _ _ h]
theorem sv_cases (b : Nat) : (sgn b = true ∧ sv b = -(val (rung b) : Int)) ∨ (sgn b = false ∧ sv b = (val (rung b) : Int)) := by
  unfold sv; cases h : sgn b <;> simp
/-- The mean of two finite numbers lies between them: without an overflow. -/
theorem mean_in {x y s μ : Nat} (hx : rung x < 9218868437227405312) (hy : rung y < 9218868437227405312) (hxy : sv x ≤ sv y) (hs : Nears 0 s (sv x + sv y)) (hf : rung s < 9218868437227405312) (hh : Half (rung s) μ) :
    sv x ≤ sv (double.word (sgn s) μ) ∧ sv (double.word (sgn s) μ) ≤ sv y := by
  rw [sv_word _ _ hh.1]
  have hn := hs.near
  rcases Int.lt_trichotomy (sv x + sv y) 0 with hS | hS | hS
  · rw [hs.neg hS, if_pos rfl]
    rcases sv_cases x with ⟨-, ex⟩ | ⟨-, ex⟩
    · have := half_hi hn hf hh hx (by omega)
      have := val_mono this
      refine ⟨by omega, ?_⟩
      rcases sv_cases y with ⟨-, ey⟩ | ⟨-, ey⟩
      · have := half_lo hn hf hh hy (by omega)
        have := val_mono this
        omega
      · omega
    · exfalso; omega
  · have h0 := near0 hn
    have hz : (sv x + sv y).natAbs = 0 := by omega
    rw [hz] at h0
    have r0 : rung s = 0 := by
      have := (h0.2 0 (by omega)).2 (Nat.zero_le _)
      omega
    have m0 : μ = 0 := by
      have := (hh.2 0 (by omega)).2 (by rw [r0]; omega)
      omega
    rw [m0, val_zero]
    have : (if sgn s = true then -((0 : Nat) : Int) else ((0 : Nat) : Int)) = 0 := by split <;> rfl
    rw [this]
    omega
  · rw [hs.pos hS]
    simp only [Bool.false_eq_true, if_false]
    rcases sv_cases y with ⟨-, ey⟩ | ⟨-, ey⟩
    · exfalso; omega
    · have := half_hi hn hf hh hy (by omega)
      have := val_mono this
      refine ⟨?_, by omega⟩
      rcases sv_cases x with ⟨-, ex⟩ | ⟨-, ex⟩
      · omega
      · have := half_lo hn hf hh hx (by omega)
        have := val_mono this
        omega
/-- With an overflow of the sum. -/
theorem mean_over {x y s π1 π2 m : Nat} (hx : rung x < 9218868437227405312) (hy : rung y < 9218868437227405312) (hxy : sv x ≤ sv y) (hs : Nears 0 s (sv x + sv y)) (hf : rung s = 9218868437227405312) (h1 : Half (rung x) π1) (h2 : Half (rung y) π2)
    (hm : Nears 0 m (sv (double.word (sgn x) π1) + sv (double.word (sgn y) π2))) : sv x ≤ sv m ∧ sv m ≤ sv y := by
  have hn := near0 hs.near
  have hov : val 9218868437227405311 < (sv x + sv y).natAbs := by
    rcases Nat.lt_or_ge (val 9218868437227405311) (sv x + sv y).natAbs with h | h
    · exact h
    · have := (hn.2 9218868437227405311 (by omega)).2 h
      omega
  have vx := val_mono (show rung x ≤ 9218868437227405311 by omega)
  have vy := val_mono (show rung y ≤ 9218868437227405311 by omega)
  rw [sv_word _ _ h1.1, sv_word _ _ h2.1] at hm
  have hmn := hm.near
  rcases sv_cases x with ⟨sx, ex⟩ | ⟨sx, ex⟩ <;> rcases sv_cases y with ⟨sy, ey⟩ | ⟨sy, ey⟩
  · rw [sx, sy] at hm hmn
    simp only [if_true] at hm hmn
    have hyx : rung y ≤ rung x := val_le_iff.1 (by omega)
    have ha : (-(val π1 : Int) + -(val π2 : Int)).natAbs = val π2 + val π1 := by omega
    rw [ha] at hmn
    have ho := over hyx hx (by omega) h2 h1 hmn
    have := val_mono ho.1
    have := val_mono ho.2
    rcases sv_cases m with ⟨sm, em⟩ | ⟨sm, em⟩
    · omega
    · exfalso
      have : ¬ (-(val π1 : Int) + -(val π2 : Int) < 0) := fun h => by rw [hm.neg h] at sm; cases sm
      have z1 : val π1 = 0 := by omega
      have z2 : val π2 = 0 := by omega
      have := near0 hmn
      have h0 := (this.2 0 (by omega)).2 (by omega)
      have : rung m = 0 := by omega
      have := val_zero
      simp_all
      omega
  · exfalso; omega
  · exfalso; omega
  · rw [sx, sy] at hm hmn
    simp only [Bool.false_eq_true, if_false] at hm hmn
    have hyx : rung x ≤ rung y := val_le_iff.1 (by omega)
    have ha : ((val π1 : Int) + (val π2 : Int)).natAbs = val π1 + val π2 := by omega
    rw [ha] at hmn
    have ho := over hyx hy (by omega) h1 h2 hmn
    have := val_mono ho.1
    have := val_mono ho.2
    rcases sv_cases m with ⟨sm, em⟩ | ⟨sm, em⟩
    · exfalso
      have : ¬ (0 < (val π1 : Int) + (val π2 : Int)) := fun h => by rw [hm.pos h] at sm; cases sm
      have z1 : val π1 = 0 := by omega
      have z2 : val π2 = 0 := by omega
      have := near0 hmn
      have h0 := (this.2 0 (by omega)).2 (by omega)
      have : rung m = 0 := by omega
      have := val_zero
      simp_all
      omega
    · omega
end Rl
end Go.Proofs.Ytkddehfedfiagaa

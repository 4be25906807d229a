import Derived.Test.YtkddehfedfiagaaRealM5
namespace Go.Proofs.Ytkddehfedfiagaa
namespace Rl
open Ieee
set_option linter.unusedVariables false
def nanB (x : Nat) : Bool := decide (9218868437227405312 < rung x)
/-- Where a value stands in the order of all. -/
def keyF (x : Nat) : Int := if nanB x then 9223372036854775808 else if sgn x then -(rung x : Int) - 1 else rung x
def ordF (x y : Nat) : Int := if keyF x = keyF y then 0 else if keyF x < keyF y then -1 else 1
def sameF (x y : Nat) : Bool := x == y || (nanB x && nanB y)
theorem split_word (x : Nat) (h : x < 18446744073709551616) : x = (if sgn x then 9223372036854775808 else 0) + rung x := by
  unfold sgn rung
  by_cases h1 : x < 9223372036854775808
  · rw [Nat.div_eq_of_lt h1]; simp; omega
  · rw [show x / 9223372036854775808 = 1 by omega]; simp; omega
theorem rung_lt (x : Nat) : rung x < 9223372036854775808 := Nat.mod_lt _ (by omega)
theorem key_eq (x y : Nat) (hx : x < 18446744073709551616) (hy : y < 18446744073709551616) : (keyF x = keyF y) ↔ sameF x y = true := by
  have h1 := split_word x hx
  have h2 := split_word y hy
  have l1 := rung_lt x
  have l2 := rung_lt y
  have ex : nanB x = true ↔ 9218868437227405312 < rung x := by unfold nanB; rw [decide_eq_true_iff]
  have ey : nanB y = true ↔ 9218868437227405312 < rung y := by unfold nanB; rw [decide_eq_true_iff]
  unfold keyF sameF
  rw [Bool.or_eq_true, beq_iff_eq, Bool.and_eq_true]
  cases nx : nanB x <;> cases ny : nanB y <;> rw [nx] at ex <;> rw [ny] at ey <;> cases sx : sgn x <;> cases sy : sgn y <;> simp [sx, sy] at h1 h2 ex ey ⊢ <;> omega
theorem ordF_bd (x y : Nat) : -1 ≤ ordF x y ∧ ordF x y ≤ 1 := by unfold ordF; split; omega; split <;> omega
theorem ordF_neg (x y : Nat) : ordF y x = - ordF x y := by unfold ordF; repeat' split
                                                           all_goals omega
theorem ordF_self (x : Nat) : ordF x x = 0 := by unfold ordF; simp
theorem ordF_trans (x y z : Nat) (h1 : ordF x y ≤ 0) (h2 : ordF y z ≤ 0) : ordF x z ≤ 0 := by
  unfold ordF at *
  revert h1 h2
  repeat' split
  all_goals omega
theorem ordF_same (x y : Nat) (hx : x < 18446744073709551616) (hy : y < 18446744073709551616) : (ordF x y == 0) = sameF x y := by
  rw [Bool.eq_iff_iff, ← key_eq x y hx hy, beq_iff_eq]
  unfold ordF
  repeat' split
  all_goals omega
theorem ordF_pos (x y : Nat) : 0 < ordF x y ↔ keyF y < keyF x := by
  unfold ordF
  repeat' split
  all_goals omega
/-- Finite values' order is their magnitudes'. -/
theorem key_sv (x y : Nat) (hx : rung x < 9218868437227405312) (hy : rung y < 9218868437227405312) (h : keyF x ≤ keyF y) : sv x ≤ sv y := by
  have nx : nanB x = false := by unfold nanB; rw [decide_eq_false_iff_not]; omega
  have ny : nanB y = false := by unfold nanB; rw [decide_eq_false_iff_not]; omega
  unfold keyF at h
  rw [nx, ny] at h
  unfold sv
  cases sx : sgn x <;> cases sy : sgn y <;> simp only [sx, sy, Bool.false_eq_true, if_false, if_true] at h ⊢
  · have := val_mono (show rung x ≤ rung y by omega); omega
  · omega
  · omega
  · have := val_mono (show rung y ≤ rung x by omega); omega
theorem cmp_mul (a b : Int) (k : Nat) : compare (a * ((2 ^ k : Nat) : Int)) (b * ((2 ^ k : Nat) : Int)) = compare a b := by
  have hp : (0 : Int) < ((2 ^ k : Nat) : Int) := by have := Nat.two_pow_pos k; omega
  rcases Int.lt_trichotomy a b with h | h | h
  · rw [Int.compare_eq_lt.2 h, Int.compare_eq_lt.2 (Int.mul_lt_mul_of_pos_right h hp)]
  · subst h; simp
  · rw [Int.compare_eq_gt.2 h, Int.compare_eq_gt.2 (Int.mul_lt_mul_of_pos_right h hp)]
theorem order_fin (x y : Nat) (hx : rung x < 9218868437227405312) (hy : rung y < 9218868437227405312) : double.order x y = some (compare (sv x) (sv y)) := by
  unfold Format.order
  rw [read_fin x hx, read_fin y hy]
  simp only [Datum.order]
  generalize hbase : min (-1074 + (shf (rung x) : Int)) (-1074 + (shf (rung y) : Int)) = base
  have hb1 : -1074 ≤ base := by omega
  obtain ⟨k, hk⟩ := Int.eq_ofNat_of_zero_le (show 0 ≤ base + 1074 by omega)
  have ex : (-1074 + (shf (rung x) : Int) - base).toNat = shf (rung x) - k := by omega
  have ey : (-1074 + (shf (rung y) : Int) - base).toNat = shf (rung y) - k := by omega
  have kx : k ≤ shf (rung x) := by omega
  have ky : k ≤ shf (rung y) := by omega
  rw [ex, ey, signed_eq, signed_eq]
  have vx : val (rung x) = cnt (rung x) * 2 ^ (shf (rung x) - k) * 2 ^ k := by
    unfold val; rw [Nat.mul_assoc, ← Nat.pow_add, Nat.sub_add_cancel kx]
  have vy : val (rung y) = cnt (rung y) * 2 ^ (shf (rung y) - k) * 2 ^ k := by
    unfold val; rw [Nat.mul_assoc, ← Nat.pow_add, Nat.sub_add_cancel ky]
  generalize cnt (rung x) * 2 ^ (shf (rung x) - k) = a at vx ⊢
  generalize cnt (rung y) * 2 ^ (shf (rung y) - k) = b at vy ⊢
  congr 1
  rw [← cmp_mul _ _ k]
  unfold sv
  rw [vx, vy]
  congr 1
  · split
    · rw [Int.natCast_mul, Int.neg_mul]
    · rw [Int.natCast_mul]
  · split
    · rw [Int.natCast_mul, Int.neg_mul]
    · rw [Int.natCast_mul]
theorem geq_fin (x y : Nat) (hx : rung x < 9218868437227405312) (hy : rung y < 9218868437227405312) (h : sv y ≤ sv x) : (double.order x y == some .gt || double.order x y == some .eq) = true := by
  rw [order_fin x y hx hy]
  rcases Int.lt_trichotomy (sv y) (sv x) with h1 | h1 | h1
  · rw [Int.compare_eq_gt.2 h1]; rfl
  · rw [h1, Int.compare_eq_eq.2 rfl]; rfl
  · omega
theorem leq_fin (x y : Nat) (hx : rung x < 9218868437227405312) (hy : rung y < 9218868437227405312) (h : sv x ≤ sv y) : (double.order x y == some .lt || double.order x y == some .eq) = true := by
  rw [order_fin x y hx hy]
  rcases Int.lt_trichotomy (sv x) (sv y) with h1 | h1 | h1
  · rw [Int.compare_eq_lt.2 h1]; rfl
  · rw [h1, Int.compare_eq_eq.2 rfl]; rfl
  · omega
/-- What the mean of two values is: a word, or some NaN. -/
def MeanR (x y m : Nat) : Prop :=
  m < 18446744073709551616 ∧ match double.add x y with
  | none => nanB m = true
  | some s => if rung s = 9218868437227405312 ∧ rung x ≠ 9218868437227405312 ∧ rung y ≠ 9218868437227405312 then ∃ p q, double.div x 4611686018427387904 = some p ∧ double.div y 4611686018427387904 = some q ∧ double.add p q = some m
    else double.div s 4611686018427387904 = some m
theorem sum_comm (a b : Datum) : a.sum b = b.sum a := by
  cases a with
  | number s m i => cases b with
    | number t n j =>
      simp only [Datum.sum]
      rw [Int.min_comm, Int.add_comm, Bool.and_comm]
    | infinity t => rfl
    | nan t f => rfl
  | infinity s => cases b with
    | number t n j => rfl
    | infinity t =>
      simp only [Datum.sum]
      by_cases h : s = t
      · subst h; rfl
      · rw [if_neg h, if_neg (fun e => h e.symm)]
    | nan t f => rfl
  | nan s f => cases b <;> rfl
theorem add_comm (x y : Nat) : double.add x y = double.add y x := by unfold Format.add; rw [sum_comm]
theorem mean_same {x y m n : Nat} (h1 : MeanR x y m) (h2 : MeanR x y n) : sameF m n = true := by
  obtain ⟨-, h1⟩ := h1
  obtain ⟨-, h2⟩ := h2
  unfold sameF
  cases hs : double.add x y with
  | none => rw [hs] at h1 h2; rw [h1, h2]; simp
  | some s =>
    rw [hs] at h1 h2
    dsimp only at h1 h2
    split at h1
    · rename_i hc
      rw [if_pos hc] at h2
      obtain ⟨p, q, e1, e2, e3⟩ := h1
      obtain ⟨p', q', f1, f2, f3⟩ := h2
      rw [e1] at f1; rw [e2] at f2
      cases f1; cases f2
      rw [e3] at f3
      cases f3
      simp
    · rename_i hc
      rw [if_neg hc] at h2
      rw [h1] at h2
      cases h2
      simp
theorem mean_swap {x y m : Nat} (h : MeanR y x m) : MeanR x y m := by
  refine ⟨h.1, ?_⟩
  obtain ⟨-, h⟩ := h
  rw [add_comm y x] at h
  cases hs : double.add x y with
  | none => rw [hs] at h; exact h
  | some s =>
    rw [hs] at h
    dsimp only at h ⊢
    split at h
    · rename_i hc
      rw [if_pos ⟨hc.1, hc.2.2, hc.2.1⟩]
      obtain ⟨p, q, e1, e2, e3⟩ := h
      exact ⟨q, p, e2, e1, by rw [add_comm]; exact e3⟩
    · rename_i hc
      rw [if_neg (fun e => hc ⟨e.1, e.2.2, e.2.1⟩)]
      exact h
/-- Half way between two finite values lies none that is beyond either. -/
theorem mean_between {x y m : Nat} (hx : rung x < 9218868437227405312) (hy : rung y < 9218868437227405312) (hxy : sv x ≤ sv y) (h : MeanR x y m) : sv x ≤ sv m ∧ sv m ≤ sv y := by
  obtain ⟨-, h⟩ := h
  obtain ⟨s, hs, hn⟩ := add_fin x y hx hy
  rw [hs] at h
  dsimp only at h
  have hle : rung s ≤ 9218868437227405312 := hn.near.1
  by_cases hi : rung s = 9218868437227405312
  · rw [if_pos ⟨hi, by omega, by omega⟩] at h
    obtain ⟨p, q, e1, e2, e3⟩ := h
    obtain ⟨π1, f1, g1⟩ := half_fin x hx
    obtain ⟨π2, f2, g2⟩ := half_fin y hy
    rw [f1] at e1
    rw [f2] at e2
    cases e1
    cases e2
    have l1 : π1 ≤ rung x := (g1.2 (rung x) (by omega)).2 (by omega)
    have l2 : π2 ≤ rung y := (g2.2 (rung y) (by omega)).2 (by omega)
    obtain ⟨w, hw, hm⟩ := add_fin (double.word (sgn x) π1) (double.word (sgn y) π2) (by rw [word_rung _ _ g1.1]; omega) (by rw [word_rung _ _ g2.1]; omega)
    rw [hw] at e3
    cases e3
    exact mean_over hx hy hxy hn hi g1 g2 hm
  · rw [if_neg (fun e => hi e.1)] at h
    obtain ⟨μ, f1, g1⟩ := half_fin s (by omega)
    rw [f1] at h
    cases h
    exact mean_in hx hy hxy hn (by omega) g1
theorem sv_bd {x m : Nat} (hx : rung x < 9218868437227405312) (h1 : (sv m).natAbs ≤ (sv x).natAbs) : rung m < 9218868437227405312 := by
  have e : ∀ b, (sv b).natAbs = val (rung b) := fun b => by rcases sv_cases b with ⟨-, e⟩ | ⟨-, e⟩ <;> rw [e] <;> omega
  rw [e, e] at h1
  have := val_le_iff.1 h1
  omega
theorem mean_finite {x y m : Nat} (hx : rung x < 9218868437227405312) (hy : rung y < 9218868437227405312) (h1 : sv x ≤ sv m) (h2 : sv m ≤ sv y) : rung m < 9218868437227405312 := by
  rcases Int.le_total 0 (sv m) with h | h
  · exact sv_bd hy (by omega)
  · exact sv_bd hx (by omega)
end Rl
end Go.Proofs.Ytkddehfedfiagaa

import Derived.Test.YtkddehfedfiagaaRealR2
namespace Go.Proofs.Ytkddehfedfiagaa
open Go Go.RowKit
set_option linter.unusedVariables false
namespace Rl
open Ieee
theorem write_le (d : Datum) (h : ∀ s f, d ≠ .nan s f) : rung (double.write d) ≤ 9218868437227405312 := by
  cases d with
  | number s m i =>
    unfold Format.write
    by_cases hm : m = 0
    · subst hm; simp only [nearest_zero]; rw [word_rung _ _ (by omega)]; omega
    · have hr : rungOf m i ≤ 9218868437227405312 := Nat.min_le_right _ _
      simp only [nearest_eq _ _ _ hm]; rw [word_rung _ _ hr]; exact hr
  | infinity s => unfold Format.write; simp only [d_inf]; rw [word_rung _ _ (Nat.le_refl _)]; exact Nat.le_refl _
  | nan s f => exact absurd rfl (h s f)
theorem sum_nan {a b d : Datum} (h : a.sum b = some d) : ∀ s f, d ≠ .nan s f := by
  rintro s f rfl
  cases a <;> cases b <;> simp [Datum.sum] at h
  all_goals (try (split at h <;> simp at h))
theorem add_le {x y s : Nat} (h : double.add x y = some s) : rung s ≤ 9218868437227405312 := by
  unfold Format.add at h
  rw [Option.map_eq_some_iff] at h
  obtain ⟨d, h1, rfl⟩ := h
  exact write_le d (sum_nan h1)
theorem add_num {x y s : Nat} (h : double.add x y = some s) : rung x ≤ 9218868437227405312 := by
  rcases Nat.lt_or_ge 9218868437227405312 (rung x) with h1 | h1
  · exfalso
    obtain ⟨f, hf⟩ := read_nan x h1
    unfold Format.add at h
    rw [hf] at h
    simp [Datum.sum] at h
  · exact h1
theorem half_some {s : Nat} (h : rung s ≤ 9218868437227405312) : ∃ m, double.div s 4611686018427387904 = some m := by
  rcases Nat.lt_or_ge (rung s) 9218868437227405312 with h1 | h1
  · obtain ⟨ρ, e, -⟩ := half_fin s h1
    exact ⟨_, e⟩
  · unfold Format.div
    rw [read_inf s (by omega), read_two]
    exact ⟨_, rfl⟩
theorem half_nan {n : Nat} (h : nanB n = true) : double.div n 4611686018427387904 = none := by
  have h1 : 9218868437227405312 < rung n := of_decide_eq_true h
  obtain ⟨f, hf⟩ := read_nan n h1
  unfold Format.div
  rw [hf]
  rfl
/-- Some NaN. -/
def aNan (t : Nat) : Nat := t % 2 * 9223372036854775808 + 9218868437227405312 + 1 + t / 2 % 4503599627370495
theorem aNan_nan (t : Nat) : nanB (aNan t) = true := by
  unfold nanB aNan rung
  rw [decide_eq_true_iff]
  have h1 := Nat.mod_lt (t / 2) (show 0 < 4503599627370495 by omega)
  generalize t / 2 % 4503599627370495 = r at h1 ⊢
  rcases Nat.mod_two_eq_zero_or_one t with h | h <;> rw [h] <;> omega
theorem aNan_lt (t : Nat) : aNan t < 18446744073709551616 := by unfold aNan; omega
end Rl
section
variable {P : Program}
theorem run_add_none (t : TypeId) (x y : Nat) (h : Ieee.double.add x y = none) (w : World) : ∃ n, (binOp .add t (.float .f64 x) (.float .f64 y)).run P w = .ok (.float .f64 (Rl.aNan n)) w.drew := by
  refine ⟨w.tape w.drawn (.nanBits .f64 x y), ?_⟩
  have e : FloatKind.f64.format.add x y = none := h
  simp [binOp, Op.floatArith, e, Question.forced, Question.cut]
  rfl
theorem run_div_none (t : TypeId) (x y : Nat) (h : Ieee.double.div x y = none) (w : World) : ∃ n, (binOp .quo t (.float .f64 x) (.float .f64 y)).run P w = .ok (.float .f64 (Rl.aNan n)) w.drew := by
  refine ⟨w.tape w.drawn (.nanBits .f64 x y), ?_⟩
  have e : FloatKind.f64.format.div x y = none := h
  simp [binOp, Op.floatArith, e, Question.forced, Question.cut]
  rfl
theorem run_add_some (t : TypeId) (x y r : Nat) (h : Ieee.double.add x y = some r) (w : World) : (binOp .add t (.float .f64 x) (.float .f64 y)).run P w = .ok (.float .f64 r) w := run_float_arith w .add t .f64 x y r h
theorem run_div_some (t : TypeId) (x y r : Nat) (h : Ieee.double.div x y = some r) (w : World) : (binOp .quo t (.float .f64 x) (.float .f64 y)).run P w = .ok (.float .f64 r) w := run_float_arith w .quo t .f64 x y r h
end
/-- A call answers a mean. -/
def IsMean (x y : Nat) (w : World) (e : Ending) (w' : World) : Prop := ∃ m, e = .returned (.float .f64 m) ∧ Rl.MeanR x y m ∧ Up w w'
set_option maxHeartbeats 400000 in
theorem rmean (x y : Nat) (w : World) (hx : x < 18446744073709551616) (hy : y < 18446744073709551616) : Calls Try.prog 25 #[.float .f64 x, .float .f64 y] w (IsMean x y w) := by
  have f1 := fun W => run_f64bits x W
  have f2 := fun W => run_f64bits y W
  have a1 := and63 x hx
  have a2 := and63 y hy
  cases hs : Ieee.double.add x y with
  | none =>
    obtain ⟨n, hn⟩ := run_add_none (P := Try.prog) 26 x y hs w
    have hl := Rl.aNan_lt n
    have hN := Rl.aNan_nan n
    obtain ⟨n2, hn2⟩ := run_div_none (P := Try.prog) 26 (Rl.aNan n) 4611686018427387904 (Rl.half_nan hN) w.drew
    have f3 := fun W => run_f64bits (Rl.aNan n) W
    have a3 := and63 (Rl.aNan n) hl
    have hne : ((Rl.rung (Rl.aNan n) : Int) == 9218868437227405312) = false := by
      have : 9218868437227405312 < Rl.rung (Rl.aNan n) := of_decide_eq_true hN
      rw [beq_eq_false_iff_ne]; omega
    have hfin : Rl.MeanR x y (Rl.aNan n2) := ⟨Rl.aNan_lt n2, by rw [hs]; exact Rl.aNan_nan n2⟩
    have HF := Lib.hid hfin
    clear hfin hs hN
    go_enter Try.func25, Try.ntmps25
    go_wp2
    go_ret
    exact ⟨_, rfl, HF.out, ((Below.refl _ _).drew).drew⟩
  | some s =>
    have hle := Rl.add_le hs
    have hlt : s < 18446744073709551616 := Ieee.Format.add_lt Ieee.double hs
    have add1 := run_add_some (P := Try.prog) 26 x y s hs
    have f3 := fun W => run_f64bits s W
    have a3 := and63 s hlt
    by_cases hc : Rl.rung s = 9218868437227405312 ∧ Rl.rung x ≠ 9218868437227405312 ∧ Rl.rung y ≠ 9218868437227405312
    · have lx := Rl.add_num hs
      have ly := Rl.add_num (by rw [Rl.add_comm]; exact hs : Ieee.double.add y x = some s)
      obtain ⟨π1, e1, g1⟩ := Rl.half_fin x (by omega)
      obtain ⟨π2, e2, g2⟩ := Rl.half_fin y (by omega)
      have l1 : π1 ≤ Rl.rung x := (g1.2 (Rl.rung x) (by omega)).2 (by omega)
      have l2 : π2 ≤ Rl.rung y := (g2.2 (Rl.rung y) (by omega)).2 (by omega)
      obtain ⟨m, hm, -⟩ := Rl.add_fin (Ieee.double.word (Rl.sgn x) π1) (Ieee.double.word (Rl.sgn y) π2) (by rw [Rl.word_rung _ _ g1.1]; omega) (by rw [Rl.word_rung _ _ g2.1]; omega)
      have HF := Lib.hid (show Rl.MeanR x y m from ⟨Ieee.Format.add_lt Ieee.double hm, by rw [hs]; dsimp only; rw [if_pos hc]; exact ⟨_, _, e1, e2, hm⟩⟩)
      have d1 := run_div_some (P := Try.prog) 26 x _ _ e1
      have d2 := run_div_some (P := Try.prog) 26 y _ _ e2
      have d3 := run_add_some (P := Try.prog) 26 _ _ _ hm
      have t1 : ((Rl.rung s : Int) == 9218868437227405312) = true := by rw [beq_iff_eq]; omega
      have t2 : ((Rl.rung x : Int) != 9218868437227405312) = true := by rw [bne_iff_ne]; omega
      have t3 : ((Rl.rung y : Int) != 9218868437227405312) = true := by rw [bne_iff_ne]; omega
      clear hs hc e1 e2 hm g1 g2
      go_enter Try.func25, Try.ntmps25
      go_wp2
      go_ret
      exact ⟨_, rfl, HF.out, Up.refl _⟩
    · obtain ⟨m, hm⟩ := Rl.half_some hle
      have HF := Lib.hid (show Rl.MeanR x y m from ⟨Ieee.Format.div_lt Ieee.double hm, by rw [hs]; dsimp only; rw [if_neg hc]; exact hm⟩)
      have d1 := run_div_some (P := Try.prog) 26 s _ _ hm
      clear hs hm
      by_cases b1 : Rl.rung s = 9218868437227405312
      · have t1 : ((Rl.rung s : Int) == 9218868437227405312) = true := by rw [beq_iff_eq]; omega
        by_cases b2 : Rl.rung x = 9218868437227405312
        · have t2 : ((Rl.rung x : Int) != 9218868437227405312) = false := by rw [bne_eq_false_iff_eq]; omega
          clear hc b1 b2
          go_enter Try.func25, Try.ntmps25
          go_wp2
          go_ret
          exact ⟨_, rfl, HF.out, Up.refl _⟩
        · have t2 : ((Rl.rung x : Int) != 9218868437227405312) = true := by rw [bne_iff_ne]; omega
          have t3 : ((Rl.rung y : Int) != 9218868437227405312) = false := by rw [bne_eq_false_iff_eq]; omega
          clear hc b1 b2
          go_enter Try.func25, Try.ntmps25
          go_wp2
          go_ret
          exact ⟨_, rfl, HF.out, Up.refl _⟩
      · have t1 : ((Rl.rung s : Int) == 9218868437227405312) = false := by rw [beq_eq_false_iff_ne]; omega
        clear hc b1
        go_enter Try.func25, Try.ntmps25
        go_wp2
        go_ret
        exact ⟨_, rfl, HF.out, Up.refl _⟩
end Go.Proofs.Ytkddehfedfiagaa

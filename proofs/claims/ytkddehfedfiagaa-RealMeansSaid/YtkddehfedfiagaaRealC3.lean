import Derived.Test.YtkddehfedfiagaaRealC2
namespace Go.Proofs.Ytkddehfedfiagaa
open Go Go.RowKit
set_option linter.unusedVariables false
theorem write_le' (d : Ieee.Datum) (h : ∀ s f, d ≠ .nan s f) : Rl.rung (Ieee.double.write d) ≤ 9218868437227405312 := Rl.write_le d h
theorem quo_nan {a b d : Ieee.Datum} {k : Nat} (h : Ieee.Datum.quotient k a b = some d) : ∀ s f, d ≠ .nan s f := by
  intro s f hd
  subst hd
  cases a <;> cases b <;> simp [Ieee.Datum.quotient] at h
  split at h
  · split at h <;> simp at h
  · simp at h
theorem div_le {x y s : Nat} (h : Ieee.double.div x y = some s) : Rl.rung s ≤ 9218868437227405312 := by
  unfold Ieee.Format.div at h
  rw [Option.map_eq_some_iff] at h
  obtain ⟨d, hd, rfl⟩ := h
  exact Rl.write_le d (quo_nan hd)
theorem can64_num {m : Nat} (h : Rl.rung m ≤ 9218868437227405312) : can64 m = m := by
  unfold can64
  have : Rl.nanB m = false := decide_eq_false (by omega)
  rw [this]; rfl
theorem can64_nan {m : Nat} (h : Rl.nanB m = true) : Rl.nanB (can64 m) = true := by
  unfold can64
  rw [h, if_pos rfl]; decide
set_option maxHeartbeats 400000 in
theorem mean_c : CMean := fun x y w hx hy => by
  cases hs : Ieee.double.add x y with
  | none =>
    obtain ⟨n, hn⟩ := run_add_none (P := Try.prog) 26 x y hs w
    have hl := Rl.aNan_lt n
    have hN := Rl.aNan_nan n
    obtain ⟨n2, hn2⟩ := run_div_none (P := Try.prog) 26 (Rl.aNan n) 4611686018427387904 (Rl.half_nan hN) w.drew
    have HF := Lib.hid (show Rl.MeanR x y (can64 (Rl.aNan n2)) from ⟨can64_lt (Rl.aNan_lt n2), by rw [hs]; exact can64_nan (Rl.aNan_nan n2)⟩)
    have hn0 : 9218868437227405312 < Rl.rung (Rl.aNan n) := of_decide_eq_true hN
    have C1 := Lib.hid (fun W => cinf (Rl.aNan n) false W hl (by rw [decide_eq_false (by omega)]))
    have C2 := Lib.hid (fun W => cplain64 (Rl.aNan n2) W (Rl.aNan_lt n2))
    clear hs hN hn0
    go_enter Try.func24, Try.ntmps24
    go_wp2_with fail
    refine (C1.out _).mono ?_
    rintro e w1 ⟨rfl, rfl⟩
    go_wp2_with fail
    refine (C2.out _).mono ?_
    rintro e w1 ⟨rfl, rfl⟩
    go_wp2_with fail
    go_ret
    exact ⟨_, rfl, HF.out, ((Below.refl _ _).drew).drew⟩
  | some s =>
    have hle := Rl.add_le hs
    have hlt : s < 18446744073709551616 := Ieee.Format.add_lt Ieee.double hs
    have add1 := run_add_some (P := Try.prog) 26 x y s hs
    by_cases hc : Rl.rung s = 9218868437227405312 ∧ Rl.rung x ≠ 9218868437227405312 ∧ Rl.rung y ≠ 9218868437227405312
    · have lx := Rl.add_num hs
      have ly := Rl.add_num (by rw [Rl.add_comm]; exact hs : Ieee.double.add y x = some s)
      obtain ⟨π1, e1, g1⟩ := Rl.half_fin x (by omega)
      obtain ⟨π2, e2, g2⟩ := Rl.half_fin y (by omega)
      have l1 : π1 ≤ Rl.rung x := (g1.2 (Rl.rung x) (by omega)).2 (by omega)
      have l2 : π2 ≤ Rl.rung y := (g2.2 (Rl.rung y) (by omega)).2 (by omega)
      obtain ⟨m, hm, -⟩ := Rl.add_fin (Ieee.double.word (Rl.sgn x) π1) (Ieee.double.word (Rl.sgn y) π2) (by rw [Rl.word_rung _ _ g1.1]; omega) (by rw [Rl.word_rung _ _ g2.1]; omega)
      have HF := Lib.hid (show Rl.MeanR x y m from ⟨Ieee.Format.add_lt Ieee.double hm, by rw [hs]; dsimp only; rw [if_pos hc]; exact ⟨_, _, e1, e2, hm⟩⟩)
      have d1 := run_div_some (P := Try.prog) 26 x _ _ e1
      have d2 := run_div_some (P := Try.prog) 26 y _ _ e2
      have d3 := run_add_some (P := Try.prog) 26 _ _ _ hm
      have C1 := Lib.hid (fun W => cinf s true W hlt (by rw [decide_eq_true hc.1]))
      have C2 := Lib.hid (fun W => cinf x false W hx (by rw [decide_eq_false hc.2.1]))
      have C3 := Lib.hid (fun W => cinf y false W hy (by rw [decide_eq_false hc.2.2]))
      clear hs hc e1 e2 hm g1 g2
      go_enter Try.func24, Try.ntmps24
      go_wp2_with fail
      refine (C1.out _).mono ?_
      rintro e w1 ⟨rfl, rfl⟩
      go_wp2_with fail
      refine (C2.out _).mono ?_
      rintro e w1 ⟨rfl, rfl⟩
      go_wp2_with fail
      refine (C3.out _).mono ?_
      rintro e w1 ⟨rfl, rfl⟩
      go_wp2_with fail
      go_ret
      exact ⟨_, rfl, HF.out, Up.refl _⟩
    · obtain ⟨m, hm⟩ := Rl.half_some hle
      have hmc : can64 m = m := can64_num (div_le hm)
      have HF := Lib.hid (show Rl.MeanR x y (can64 m) by rw [hmc]; exact ⟨Ieee.Format.div_lt Ieee.double hm, by rw [hs]; dsimp only; rw [if_neg hc]; exact hm⟩)
      have d1 := run_div_some (P := Try.prog) 26 s _ _ hm
      have CP := Lib.hid (fun W => cplain64 m W (Ieee.Format.div_lt Ieee.double hm))
      clear hs hm hmc
      by_cases b1 : Rl.rung s = 9218868437227405312
      · have C1 := Lib.hid (fun W => cinf s true W hlt (by rw [decide_eq_true b1]))
        by_cases b2 : Rl.rung x = 9218868437227405312
        · have C2 := Lib.hid (fun W => cinf x true W hx (by rw [decide_eq_true b2]))
          clear hc b1 b2
          go_enter Try.func24, Try.ntmps24
          go_wp2_with fail
          refine (C1.out _).mono ?_
          rintro e w1 ⟨rfl, rfl⟩
          go_wp2_with fail
          refine (C2.out _).mono ?_
          rintro e w1 ⟨rfl, rfl⟩
          go_wp2_with fail
          refine (CP.out _).mono ?_
          rintro e w1 ⟨rfl, rfl⟩
          go_wp2_with fail
          go_ret
          exact ⟨_, rfl, HF.out, Up.refl _⟩
        · have b3 : Rl.rung y = 9218868437227405312 := by
            rcases Nat.lt_or_ge (Rl.rung y) 9218868437227405312 with h | h
            · exact absurd ⟨b1, b2, by omega⟩ hc
            · rcases Nat.lt_or_ge 9218868437227405312 (Rl.rung y) with h3 | h3
              · exact absurd ⟨b1, b2, by omega⟩ hc
              · omega
          have C2 := Lib.hid (fun W => cinf x false W hx (by rw [decide_eq_false b2]))
          have C3 := Lib.hid (fun W => cinf y true W hy (by rw [decide_eq_true b3]))
          clear hc b1 b2 b3
          go_enter Try.func24, Try.ntmps24
          go_wp2_with fail
          refine (C1.out _).mono ?_
          rintro e w1 ⟨rfl, rfl⟩
          go_wp2_with fail
          refine (C2.out _).mono ?_
          rintro e w1 ⟨rfl, rfl⟩
          go_wp2_with fail
          refine (C3.out _).mono ?_
          rintro e w1 ⟨rfl, rfl⟩
          go_wp2_with fail
          refine (CP.out _).mono ?_
          rintro e w1 ⟨rfl, rfl⟩
          go_wp2_with fail
          go_ret
          exact ⟨_, rfl, HF.out, Up.refl _⟩
      · have C1 := Lib.hid (fun W => cinf s false W hlt (by rw [decide_eq_false b1]))
        clear hc b1
        go_enter Try.func24, Try.ntmps24
        go_wp2_with fail
        refine (C1.out _).mono ?_
        rintro e w1 ⟨rfl, rfl⟩
        go_wp2_with fail
        refine (CP.out _).mono ?_
        rintro e w1 ⟨rfl, rfl⟩
        go_wp2_with fail
        go_ret
        exact ⟨_, rfl, HF.out, Up.refl _⟩
end Go.Proofs.Ytkddehfedfiagaa

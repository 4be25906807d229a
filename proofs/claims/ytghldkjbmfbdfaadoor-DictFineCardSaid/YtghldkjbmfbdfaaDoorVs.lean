import Derived.Test.YtghldkjbmfbdfaaDoorUr
namespace Go.Proofs.YtghldkjbmfbdfaaDoor
open Go Go.RowKit
set_option linter.unusedVariables false
set_option linter.unusedSimpArgs false
/-! The small functions of Fits. -/
def nsz (k : Int) : Int := if k = 2 ∨ k = 4 ∨ k = 6 then 4 else if k = 3 ∨ k = 5 ∨ k = 7 then 8 else 0
def lea (k : Int) : Int := if k = 10 then 1 else if k = 11 then 6 else nsz k
set_option maxRecDepth 100000 in
set_option maxHeartbeats 4000000 in
theorem nsize_any (k : Int) (w : World) : Calls Tryd.prog 24 #[.int .i64 k] w fun e w' => e = .returned (.int .i64 (nsz k)) ∧ w' = w := by
  by_cases h2 : k = 2
  · subst h2
    go_enter Tryd.func24, Tryd.ntmps24
    go_wp2_with fail
    go_ret
    exact ⟨rfl, rfl⟩
  by_cases h3 : k = 3
  · subst h3
    go_enter Tryd.func24, Tryd.ntmps24
    go_wp2_with fail
    go_ret
    exact ⟨rfl, rfl⟩
  by_cases h4 : k = 4
  · subst h4
    go_enter Tryd.func24, Tryd.ntmps24
    go_wp2_with fail
    go_ret
    exact ⟨rfl, rfl⟩
  by_cases h5 : k = 5
  · subst h5
    go_enter Tryd.func24, Tryd.ntmps24
    go_wp2_with fail
    go_ret
    exact ⟨rfl, rfl⟩
  by_cases h6 : k = 6
  · subst h6
    go_enter Tryd.func24, Tryd.ntmps24
    go_wp2_with fail
    go_ret
    exact ⟨rfl, rfl⟩
  by_cases h7 : k = 7
  · subst h7
    go_enter Tryd.func24, Tryd.ntmps24
    go_wp2_with fail
    go_ret
    exact ⟨rfl, rfl⟩
  have f2 : (k == 2) = false := by rw [beq_eq_false_iff_ne]; exact h2
  have f3 : (k == 3) = false := by rw [beq_eq_false_iff_ne]; exact h3
  have f4 : (k == 4) = false := by rw [beq_eq_false_iff_ne]; exact h4
  have f5 : (k == 5) = false := by rw [beq_eq_false_iff_ne]; exact h5
  have f6 : (k == 6) = false := by rw [beq_eq_false_iff_ne]; exact h6
  have f7 : (k == 7) = false := by rw [beq_eq_false_iff_ne]; exact h7
  have HE := Lib.hid (show nsz k = 0 by unfold nsz; simp [h2, h3, h4, h5, h6, h7])
  go_enter Tryd.func24, Tryd.ntmps24
  go_wp2_with fail
  go_ret
  exact ⟨by rw [HE.out]; rfl, rfl⟩
set_option maxRecDepth 100000 in
set_option maxHeartbeats 4000000 in
theorem rleast_any (k : Int) (w : World) : Calls Tryd.prog 13 #[.int .i64 k] w fun e w' => e = .returned (.int .i64 (lea k)) ∧ w' = w := by
  by_cases h2 : k = 2
  · subst h2
    go_enter Tryd.func13, Tryd.ntmps13
    go_wp2_with fail
    go_ret
    exact ⟨rfl, rfl⟩
  by_cases h3 : k = 3
  · subst h3
    go_enter Tryd.func13, Tryd.ntmps13
    go_wp2_with fail
    go_ret
    exact ⟨rfl, rfl⟩
  by_cases h4 : k = 4
  · subst h4
    go_enter Tryd.func13, Tryd.ntmps13
    go_wp2_with fail
    go_ret
    exact ⟨rfl, rfl⟩
  by_cases h5 : k = 5
  · subst h5
    go_enter Tryd.func13, Tryd.ntmps13
    go_wp2_with fail
    go_ret
    exact ⟨rfl, rfl⟩
  by_cases h6 : k = 6
  · subst h6
    go_enter Tryd.func13, Tryd.ntmps13
    go_wp2_with fail
    go_ret
    exact ⟨rfl, rfl⟩
  by_cases h7 : k = 7
  · subst h7
    go_enter Tryd.func13, Tryd.ntmps13
    go_wp2_with fail
    go_ret
    exact ⟨rfl, rfl⟩
  by_cases h10 : k = 10
  · subst h10
    go_enter Tryd.func13, Tryd.ntmps13
    go_wp2_with fail
    go_ret
    exact ⟨rfl, rfl⟩
  by_cases h11 : k = 11
  · subst h11
    go_enter Tryd.func13, Tryd.ntmps13
    go_wp2_with fail
    go_ret
    exact ⟨rfl, rfl⟩
  have f2 : (k == 2) = false := by rw [beq_eq_false_iff_ne]; exact h2
  have f3 : (k == 3) = false := by rw [beq_eq_false_iff_ne]; exact h3
  have f4 : (k == 4) = false := by rw [beq_eq_false_iff_ne]; exact h4
  have f5 : (k == 5) = false := by rw [beq_eq_false_iff_ne]; exact h5
  have f6 : (k == 6) = false := by rw [beq_eq_false_iff_ne]; exact h6
  have f7 : (k == 7) = false := by rw [beq_eq_false_iff_ne]; exact h7
  have f10 : (k == 10) = false := by rw [beq_eq_false_iff_ne]; exact h10
  have f11 : (k == 11) = false := by rw [beq_eq_false_iff_ne]; exact h11
  have HE := Lib.hid (show lea k = 0 by unfold lea nsz; simp [h2, h3, h4, h5, h6, h7, h10, h11])
  go_enter Tryd.func13, Tryd.ntmps13
  go_wp2_with fail
  go_ret
  exact ⟨by rw [HE.out]; rfl, rfl⟩
set_option maxRecDepth 100000 in
set_option maxHeartbeats 4000000 in
theorem least_any (k : Int) (w : World) : Calls Tryd.prog 12 #[.int .i64 k] w fun e w' => e = .returned (.int .i64 (lea k)) ∧ w' = w := by
  by_cases h2 : k = 2
  · subst h2
    go_enter Tryd.func12, Tryd.ntmps12
    go_wp2_with fail
    refine (nsize_any _ _).mono ?_
    rintro e w1 ⟨rfl, rfl⟩
    go_wp2_with fail
    go_ret
    exact ⟨rfl, rfl⟩
  by_cases h3 : k = 3
  · subst h3
    go_enter Tryd.func12, Tryd.ntmps12
    go_wp2_with fail
    refine (nsize_any _ _).mono ?_
    rintro e w1 ⟨rfl, rfl⟩
    go_wp2_with fail
    go_ret
    exact ⟨rfl, rfl⟩
  by_cases h4 : k = 4
  · subst h4
    go_enter Tryd.func12, Tryd.ntmps12
    go_wp2_with fail
    refine (nsize_any _ _).mono ?_
    rintro e w1 ⟨rfl, rfl⟩
    go_wp2_with fail
    go_ret
    exact ⟨rfl, rfl⟩
  by_cases h5 : k = 5
  · subst h5
    go_enter Tryd.func12, Tryd.ntmps12
    go_wp2_with fail
    refine (nsize_any _ _).mono ?_
    rintro e w1 ⟨rfl, rfl⟩
    go_wp2_with fail
    go_ret
    exact ⟨rfl, rfl⟩
  by_cases h6 : k = 6
  · subst h6
    go_enter Tryd.func12, Tryd.ntmps12
    go_wp2_with fail
    refine (nsize_any _ _).mono ?_
    rintro e w1 ⟨rfl, rfl⟩
    go_wp2_with fail
    go_ret
    exact ⟨rfl, rfl⟩
  by_cases h7 : k = 7
  · subst h7
    go_enter Tryd.func12, Tryd.ntmps12
    go_wp2_with fail
    refine (nsize_any _ _).mono ?_
    rintro e w1 ⟨rfl, rfl⟩
    go_wp2_with fail
    go_ret
    exact ⟨rfl, rfl⟩
  by_cases h10 : k = 10
  · subst h10
    go_enter Tryd.func12, Tryd.ntmps12
    go_wp2_with fail
    go_ret
    exact ⟨rfl, rfl⟩
  by_cases h11 : k = 11
  · subst h11
    go_enter Tryd.func12, Tryd.ntmps12
    go_wp2_with fail
    go_ret
    exact ⟨rfl, rfl⟩
  have f2 : (k == 2) = false := by rw [beq_eq_false_iff_ne]; exact h2
  have f3 : (k == 3) = false := by rw [beq_eq_false_iff_ne]; exact h3
  have f4 : (k == 4) = false := by rw [beq_eq_false_iff_ne]; exact h4
  have f5 : (k == 5) = false := by rw [beq_eq_false_iff_ne]; exact h5
  have f6 : (k == 6) = false := by rw [beq_eq_false_iff_ne]; exact h6
  have f7 : (k == 7) = false := by rw [beq_eq_false_iff_ne]; exact h7
  have f10 : (k == 10) = false := by rw [beq_eq_false_iff_ne]; exact h10
  have f11 : (k == 11) = false := by rw [beq_eq_false_iff_ne]; exact h11
  have HE := Lib.hid (show lea k = 0 by unfold lea nsz; simp [h2, h3, h4, h5, h6, h7, h10, h11])
  go_enter Tryd.func12, Tryd.ntmps12
  go_wp2_with fail
  refine (nsize_any _ _).mono ?_
  rintro e w1 ⟨rfl, rfl⟩
  go_wp2_with fail
  go_ret
  exact ⟨by rw [HE.out, show nsz k = 0 by unfold nsz; simp [h2, h3, h4, h5, h6, h7]]; rfl, rfl⟩
end Go.Proofs.YtghldkjbmfbdfaaDoor

import Derived.Test.YtfbjhialjepodaaNtRw
import Derived.Deep.QuietTactic
import Derived.BigQuiet
namespace Go.Proofs.Ytfbjhialjepodaa
open Go Go.RowKit
set_option linter.unusedVariables false
set_option maxRecDepth 100000 in
set_option maxHeartbeats 2000000 in
theorem send_r_b0 (b : Nat) (h fa fq ta tq : Int) (Ai : Option Addr) (n0 ci : Nat) (w : World) (kc : w.cell? ⟨b, 0, none⟩ = some (.int .i64 h))  (h1 : ¬ (0 ≤ fa ∧ fa < h)) :
    Calls Try.prog 21 #[.pointer (some ⟨b, 0, none⟩), adV (fa, fq), adV (ta, tq), .slice Ai n0 ci] w fun e w' => e = .returned (.int .i64 1) ∧ Up w w' := by
  have t1 : (decide (0 ≤ fa ∧ fa < h)) = false := decide_eq_false h1
  clear h1
  obtain ⟨W, hW⟩ : ∃ W, W = (w.alloc (.cells #[.int .i64 fa, .int .i64 fq] 37)).alloc (.cells #[.int .i64 ta, .int .i64 tq] 37) := ⟨_, rfl⟩
  have u1 := up_alloc w (.cells #[.int .i64 fa, .int .i64 fq] 37)
  have u2 := up_alloc (w.alloc (.cells #[.int .i64 fa, .int .i64 fq] 37)) (.cells #[.int .i64 ta, .int .i64 tq] 37)
  have a1 := (u2.block _ (lt_of_blk (new_at w (.cells #[.int .i64 fa, .int .i64 fq] 37)))).trans (new_at w (.cells #[.int .i64 fa, .int .i64 fq] 37))
  have b1 := new_at (w.alloc (.cells #[.int .i64 fa, .int .i64 fq] 37)) (.cells #[.int .i64 ta, .int .i64 tq] 37)
  have s1 : (w.alloc (.cells #[.int .i64 fa, .int .i64 fq] 37)).heap.size = w.heap.size + 1 := by simp
  rw [s1] at b1
  have U := Lib.hid (u1.trans u2)
  rw [← hW] at a1 b1 U
  clear u1 u2 s1
  have hc0 := cell_up kc U.out
  have ra0 := cell_of a1 (j := 0) rfl
  have ra1 := cell_of a1 (j := 1) rfl
  have rb0 := cell_of b1 (j := 0) rfl
  have rb1 := cell_of b1 (j := 1) rfl
  have HW := Lib.hid hW
  clear hW a1 b1 kc
  unfold adV
  go_enter Try.func21, Try.ntmps21
  go_upto_region 1 with (fail)
  rw [← HW.out]
  go_wp2_with fail
  refine (host b fa h W hc0).mono ?_
  rintro e w1 ⟨rfl, hw1⟩
  subst hw1
  rw [t1]
  go_wp2_with fail
  go_ret
  exact ⟨rfl, U.out⟩
set_option maxRecDepth 100000 in
set_option maxHeartbeats 2000000 in
theorem send_r_b1 (b : Nat) (h fa fq ta tq : Int) (Ai : Option Addr) (n0 ci : Nat) (w : World) (kc : w.cell? ⟨b, 0, none⟩ = some (.int .i64 h)) (h1 : 0 ≤ fa ∧ fa < h) (h2 : ¬ (0 ≤ ta ∧ ta < h)) :
    Calls Try.prog 21 #[.pointer (some ⟨b, 0, none⟩), adV (fa, fq), adV (ta, tq), .slice Ai n0 ci] w fun e w' => e = .returned (.int .i64 1) ∧ Up w w' := by
  have t1 : (decide (0 ≤ fa ∧ fa < h)) = true := decide_eq_true h1
  have t2 : (decide (0 ≤ ta ∧ ta < h)) = false := decide_eq_false h2
  clear h1 h2
  obtain ⟨W, hW⟩ : ∃ W, W = (w.alloc (.cells #[.int .i64 fa, .int .i64 fq] 37)).alloc (.cells #[.int .i64 ta, .int .i64 tq] 37) := ⟨_, rfl⟩
  have u1 := up_alloc w (.cells #[.int .i64 fa, .int .i64 fq] 37)
  have u2 := up_alloc (w.alloc (.cells #[.int .i64 fa, .int .i64 fq] 37)) (.cells #[.int .i64 ta, .int .i64 tq] 37)
  have a1 := (u2.block _ (lt_of_blk (new_at w (.cells #[.int .i64 fa, .int .i64 fq] 37)))).trans (new_at w (.cells #[.int .i64 fa, .int .i64 fq] 37))
  have b1 := new_at (w.alloc (.cells #[.int .i64 fa, .int .i64 fq] 37)) (.cells #[.int .i64 ta, .int .i64 tq] 37)
  have s1 : (w.alloc (.cells #[.int .i64 fa, .int .i64 fq] 37)).heap.size = w.heap.size + 1 := by simp
  rw [s1] at b1
  have U := Lib.hid (u1.trans u2)
  rw [← hW] at a1 b1 U
  clear u1 u2 s1
  have hc0 := cell_up kc U.out
  have ra0 := cell_of a1 (j := 0) rfl
  have ra1 := cell_of a1 (j := 1) rfl
  have rb0 := cell_of b1 (j := 0) rfl
  have rb1 := cell_of b1 (j := 1) rfl
  have HW := Lib.hid hW
  clear hW a1 b1 kc
  unfold adV
  go_enter Try.func21, Try.ntmps21
  go_upto_region 1 with (fail)
  rw [← HW.out]
  go_wp2_with fail
  refine (host b fa h W hc0).mono ?_
  rintro e w1 ⟨rfl, hw1⟩
  subst hw1
  rw [t1]
  go_wp2_with fail
  refine (host b ta h _ hc0).mono ?_
  rintro e w1 ⟨rfl, hw1⟩
  subst hw1
  rw [t2]
  go_wp2_with fail
  go_ret
  exact ⟨rfl, U.out⟩
set_option maxRecDepth 100000 in
set_option maxHeartbeats 2000000 in
theorem send_r_b2 (b : Nat) (h fa fq tq : Int) (Ai : Option Addr) (n0 ci : Nat) (w : World) (kc : w.cell? ⟨b, 0, none⟩ = some (.int .i64 h)) (h1 : 0 ≤ fa ∧ fa < h)  :
    Calls Try.prog 21 #[.pointer (some ⟨b, 0, none⟩), adV (fa, fq), adV (fa, tq), .slice Ai n0 ci] w fun e w' => e = .returned (.int .i64 1) ∧ Up w w' := by
  have t1 : (decide (0 ≤ fa ∧ fa < h)) = true := decide_eq_true h1
  have t2 : (decide (0 ≤ fa ∧ fa < h)) = true := decide_eq_true h1
  clear h1
  obtain ⟨W, hW⟩ : ∃ W, W = (w.alloc (.cells #[.int .i64 fa, .int .i64 fq] 37)).alloc (.cells #[.int .i64 fa, .int .i64 tq] 37) := ⟨_, rfl⟩
  have u1 := up_alloc w (.cells #[.int .i64 fa, .int .i64 fq] 37)
  have u2 := up_alloc (w.alloc (.cells #[.int .i64 fa, .int .i64 fq] 37)) (.cells #[.int .i64 fa, .int .i64 tq] 37)
  have a1 := (u2.block _ (lt_of_blk (new_at w (.cells #[.int .i64 fa, .int .i64 fq] 37)))).trans (new_at w (.cells #[.int .i64 fa, .int .i64 fq] 37))
  have b1 := new_at (w.alloc (.cells #[.int .i64 fa, .int .i64 fq] 37)) (.cells #[.int .i64 fa, .int .i64 tq] 37)
  have s1 : (w.alloc (.cells #[.int .i64 fa, .int .i64 fq] 37)).heap.size = w.heap.size + 1 := by simp
  rw [s1] at b1
  have U := Lib.hid (u1.trans u2)
  rw [← hW] at a1 b1 U
  clear u1 u2 s1
  have hc0 := cell_up kc U.out
  have ra0 := cell_of a1 (j := 0) rfl
  have ra1 := cell_of a1 (j := 1) rfl
  have rb0 := cell_of b1 (j := 0) rfl
  have rb1 := cell_of b1 (j := 1) rfl
  have HW := Lib.hid hW
  clear hW a1 b1 kc
  unfold adV
  go_enter Try.func21, Try.ntmps21
  go_upto_region 1 with (fail)
  rw [← HW.out]
  go_wp2_with fail
  refine (host b fa h W hc0).mono ?_
  rintro e w1 ⟨rfl, hw1⟩
  subst hw1
  rw [t1]
  go_wp2_with fail
  refine (host b fa h _ hc0).mono ?_
  rintro e w1 ⟨rfl, hw1⟩
  subst hw1
  rw [t2]
  go_wp2_with fail
  go_ret
  exact ⟨rfl, U.out⟩
set_option maxRecDepth 100000 in
set_option maxHeartbeats 2000000 in
theorem send_r_b3 (b : Nat) (h fa fq ta tq : Int) (Ai : Option Addr) (n0 ci : Nat) (w : World) (kc : w.cell? ⟨b, 0, none⟩ = some (.int .i64 h)) (h1 : 0 ≤ fa ∧ fa < h) (h2 : 0 ≤ ta ∧ ta < h) (h3 : fa ≠ ta) (h4 : fq < 0) :
    Calls Try.prog 21 #[.pointer (some ⟨b, 0, none⟩), adV (fa, fq), adV (ta, tq), .slice Ai n0 ci] w fun e w' => e = .returned (.int .i64 1) ∧ Up w w' := by
  have t1 : (decide (0 ≤ fa ∧ fa < h)) = true := decide_eq_true h1
  have t2 : (decide (0 ≤ ta ∧ ta < h)) = true := decide_eq_true h2
  have t3 : ((fa == ta) : Bool) = false := by simpa using h3
  clear h1 h2 h3
  obtain ⟨W, hW⟩ : ∃ W, W = (w.alloc (.cells #[.int .i64 fa, .int .i64 fq] 37)).alloc (.cells #[.int .i64 ta, .int .i64 tq] 37) := ⟨_, rfl⟩
  have u1 := up_alloc w (.cells #[.int .i64 fa, .int .i64 fq] 37)
  have u2 := up_alloc (w.alloc (.cells #[.int .i64 fa, .int .i64 fq] 37)) (.cells #[.int .i64 ta, .int .i64 tq] 37)
  have a1 := (u2.block _ (lt_of_blk (new_at w (.cells #[.int .i64 fa, .int .i64 fq] 37)))).trans (new_at w (.cells #[.int .i64 fa, .int .i64 fq] 37))
  have b1 := new_at (w.alloc (.cells #[.int .i64 fa, .int .i64 fq] 37)) (.cells #[.int .i64 ta, .int .i64 tq] 37)
  have s1 : (w.alloc (.cells #[.int .i64 fa, .int .i64 fq] 37)).heap.size = w.heap.size + 1 := by simp
  rw [s1] at b1
  have U := Lib.hid (u1.trans u2)
  rw [← hW] at a1 b1 U
  clear u1 u2 s1
  have hc0 := cell_up kc U.out
  have ra0 := cell_of a1 (j := 0) rfl
  have ra1 := cell_of a1 (j := 1) rfl
  have rb0 := cell_of b1 (j := 0) rfl
  have rb1 := cell_of b1 (j := 1) rfl
  have HW := Lib.hid hW
  clear hW a1 b1 kc
  unfold adV
  go_enter Try.func21, Try.ntmps21
  go_upto_region 1 with (fail)
  rw [← HW.out]
  go_wp2_with fail
  refine (host b fa h W hc0).mono ?_
  rintro e w1 ⟨rfl, hw1⟩
  subst hw1
  rw [t1]
  go_wp2_with fail
  refine (host b ta h _ hc0).mono ?_
  rintro e w1 ⟨rfl, hw1⟩
  subst hw1
  rw [t2]
  go_wp2_with fail
  go_ret
  exact ⟨rfl, U.out⟩
set_option maxRecDepth 100000 in
set_option maxHeartbeats 2000000 in
theorem send_r_b4 (b : Nat) (h fa fq ta tq : Int) (Ai : Option Addr) (n0 ci : Nat) (w : World) (kc : w.cell? ⟨b, 0, none⟩ = some (.int .i64 h)) (h1 : 0 ≤ fa ∧ fa < h) (h2 : 0 ≤ ta ∧ ta < h) (h3 : fa ≠ ta) (h4 : 0 ≤ fq) (h5 : 1 < fq) :
    Calls Try.prog 21 #[.pointer (some ⟨b, 0, none⟩), adV (fa, fq), adV (ta, tq), .slice Ai n0 ci] w fun e w' => e = .returned (.int .i64 1) ∧ Up w w' := by
  have t1 : (decide (0 ≤ fa ∧ fa < h)) = true := decide_eq_true h1
  have t2 : (decide (0 ≤ ta ∧ ta < h)) = true := decide_eq_true h2
  have t3 : ((fa == ta) : Bool) = false := by simpa using h3
  clear h1 h2 h3
  obtain ⟨W, hW⟩ : ∃ W, W = (w.alloc (.cells #[.int .i64 fa, .int .i64 fq] 37)).alloc (.cells #[.int .i64 ta, .int .i64 tq] 37) := ⟨_, rfl⟩
  have u1 := up_alloc w (.cells #[.int .i64 fa, .int .i64 fq] 37)
  have u2 := up_alloc (w.alloc (.cells #[.int .i64 fa, .int .i64 fq] 37)) (.cells #[.int .i64 ta, .int .i64 tq] 37)
  have a1 := (u2.block _ (lt_of_blk (new_at w (.cells #[.int .i64 fa, .int .i64 fq] 37)))).trans (new_at w (.cells #[.int .i64 fa, .int .i64 fq] 37))
  have b1 := new_at (w.alloc (.cells #[.int .i64 fa, .int .i64 fq] 37)) (.cells #[.int .i64 ta, .int .i64 tq] 37)
  have s1 : (w.alloc (.cells #[.int .i64 fa, .int .i64 fq] 37)).heap.size = w.heap.size + 1 := by simp
  rw [s1] at b1
  have U := Lib.hid (u1.trans u2)
  rw [← hW] at a1 b1 U
  clear u1 u2 s1
  have hc0 := cell_up kc U.out
  have ra0 := cell_of a1 (j := 0) rfl
  have ra1 := cell_of a1 (j := 1) rfl
  have rb0 := cell_of b1 (j := 0) rfl
  have rb1 := cell_of b1 (j := 1) rfl
  have HW := Lib.hid hW
  clear hW a1 b1 kc
  unfold adV
  go_enter Try.func21, Try.ntmps21
  go_upto_region 1 with (fail)
  rw [← HW.out]
  go_wp2_with fail
  refine (host b fa h W hc0).mono ?_
  rintro e w1 ⟨rfl, hw1⟩
  subst hw1
  rw [t1]
  go_wp2_with fail
  refine (host b ta h _ hc0).mono ?_
  rintro e w1 ⟨rfl, hw1⟩
  subst hw1
  rw [t2]
  go_wp2_with fail
  go_ret
  exact ⟨rfl, U.out⟩
set_option maxRecDepth 100000 in
set_option maxHeartbeats 2000000 in
theorem send_r_b5 (b : Nat) (h fa fq ta tq : Int) (Ai : Option Addr) (n0 ci : Nat) (w : World) (kc : w.cell? ⟨b, 0, none⟩ = some (.int .i64 h)) (h1 : 0 ≤ fa ∧ fa < h) (h2 : 0 ≤ ta ∧ ta < h) (h3 : fa ≠ ta) (h4 : 0 ≤ fq) (h5 : fq ≤ 1) (h6 : tq < 0) :
    Calls Try.prog 21 #[.pointer (some ⟨b, 0, none⟩), adV (fa, fq), adV (ta, tq), .slice Ai n0 ci] w fun e w' => e = .returned (.int .i64 1) ∧ Up w w' := by
  have t1 : (decide (0 ≤ fa ∧ fa < h)) = true := decide_eq_true h1
  have t2 : (decide (0 ≤ ta ∧ ta < h)) = true := decide_eq_true h2
  have t3 : ((fa == ta) : Bool) = false := by simpa using h3
  clear h1 h2 h3
  obtain ⟨W, hW⟩ : ∃ W, W = (w.alloc (.cells #[.int .i64 fa, .int .i64 fq] 37)).alloc (.cells #[.int .i64 ta, .int .i64 tq] 37) := ⟨_, rfl⟩
  have u1 := up_alloc w (.cells #[.int .i64 fa, .int .i64 fq] 37)
  have u2 := up_alloc (w.alloc (.cells #[.int .i64 fa, .int .i64 fq] 37)) (.cells #[.int .i64 ta, .int .i64 tq] 37)
  have a1 := (u2.block _ (lt_of_blk (new_at w (.cells #[.int .i64 fa, .int .i64 fq] 37)))).trans (new_at w (.cells #[.int .i64 fa, .int .i64 fq] 37))
  have b1 := new_at (w.alloc (.cells #[.int .i64 fa, .int .i64 fq] 37)) (.cells #[.int .i64 ta, .int .i64 tq] 37)
  have s1 : (w.alloc (.cells #[.int .i64 fa, .int .i64 fq] 37)).heap.size = w.heap.size + 1 := by simp
  rw [s1] at b1
  have U := Lib.hid (u1.trans u2)
  rw [← hW] at a1 b1 U
  clear u1 u2 s1
  have hc0 := cell_up kc U.out
  have ra0 := cell_of a1 (j := 0) rfl
  have ra1 := cell_of a1 (j := 1) rfl
  have rb0 := cell_of b1 (j := 0) rfl
  have rb1 := cell_of b1 (j := 1) rfl
  have HW := Lib.hid hW
  clear hW a1 b1 kc
  unfold adV
  go_enter Try.func21, Try.ntmps21
  go_upto_region 1 with (fail)
  rw [← HW.out]
  go_wp2_with fail
  refine (host b fa h W hc0).mono ?_
  rintro e w1 ⟨rfl, hw1⟩
  subst hw1
  rw [t1]
  go_wp2_with fail
  refine (host b ta h _ hc0).mono ?_
  rintro e w1 ⟨rfl, hw1⟩
  subst hw1
  rw [t2]
  go_wp2_with fail
  go_ret
  exact ⟨rfl, U.out⟩
set_option maxRecDepth 100000 in
set_option maxHeartbeats 2000000 in
theorem send_r_b6 (b : Nat) (h fa fq ta tq : Int) (Ai : Option Addr) (n0 ci : Nat) (w : World) (kc : w.cell? ⟨b, 0, none⟩ = some (.int .i64 h)) (h1 : 0 ≤ fa ∧ fa < h) (h2 : 0 ≤ ta ∧ ta < h) (h3 : fa ≠ ta) (h4 : 0 ≤ fq) (h5 : fq ≤ 1) (h6 : 0 ≤ tq) (h7 : 1 < tq) :
    Calls Try.prog 21 #[.pointer (some ⟨b, 0, none⟩), adV (fa, fq), adV (ta, tq), .slice Ai n0 ci] w fun e w' => e = .returned (.int .i64 1) ∧ Up w w' := by
  have t1 : (decide (0 ≤ fa ∧ fa < h)) = true := decide_eq_true h1
  have t2 : (decide (0 ≤ ta ∧ ta < h)) = true := decide_eq_true h2
  have t3 : ((fa == ta) : Bool) = false := by simpa using h3
  clear h1 h2 h3
  obtain ⟨W, hW⟩ : ∃ W, W = (w.alloc (.cells #[.int .i64 fa, .int .i64 fq] 37)).alloc (.cells #[.int .i64 ta, .int .i64 tq] 37) := ⟨_, rfl⟩
  have u1 := up_alloc w (.cells #[.int .i64 fa, .int .i64 fq] 37)
  have u2 := up_alloc (w.alloc (.cells #[.int .i64 fa, .int .i64 fq] 37)) (.cells #[.int .i64 ta, .int .i64 tq] 37)
  have a1 := (u2.block _ (lt_of_blk (new_at w (.cells #[.int .i64 fa, .int .i64 fq] 37)))).trans (new_at w (.cells #[.int .i64 fa, .int .i64 fq] 37))
  have b1 := new_at (w.alloc (.cells #[.int .i64 fa, .int .i64 fq] 37)) (.cells #[.int .i64 ta, .int .i64 tq] 37)
  have s1 : (w.alloc (.cells #[.int .i64 fa, .int .i64 fq] 37)).heap.size = w.heap.size + 1 := by simp
  rw [s1] at b1
  have U := Lib.hid (u1.trans u2)
  rw [← hW] at a1 b1 U
  clear u1 u2 s1
  have hc0 := cell_up kc U.out
  have ra0 := cell_of a1 (j := 0) rfl
  have ra1 := cell_of a1 (j := 1) rfl
  have rb0 := cell_of b1 (j := 0) rfl
  have rb1 := cell_of b1 (j := 1) rfl
  have HW := Lib.hid hW
  clear hW a1 b1 kc
  unfold adV
  go_enter Try.func21, Try.ntmps21
  go_upto_region 1 with (fail)
  rw [← HW.out]
  go_wp2_with fail
  refine (host b fa h W hc0).mono ?_
  rintro e w1 ⟨rfl, hw1⟩
  subst hw1
  rw [t1]
  go_wp2_with fail
  refine (host b ta h _ hc0).mono ?_
  rintro e w1 ⟨rfl, hw1⟩
  subst hw1
  rw [t2]
  go_wp2_with fail
  go_ret
  exact ⟨rfl, U.out⟩
theorem send_r_bad (b : Nat) (h fa fq ta tq : Int) (Ai : Option Addr) (n0 ci : Nat) (w : World) (kc : w.cell? ⟨b, 0, none⟩ = some (.int .i64 h)) (hn : ¬ ((0 ≤ fa ∧ fa < h) ∧ (0 ≤ ta ∧ ta < h) ∧ fa ≠ ta ∧ 0 ≤ fq ∧ fq ≤ 1 ∧ 0 ≤ tq ∧ tq ≤ 1)) :
    Calls Try.prog 21 #[.pointer (some ⟨b, 0, none⟩), adV (fa, fq), adV (ta, tq), .slice Ai n0 ci] w fun e w' => e = .returned (.int .i64 1) ∧ Up w w' := by
  by_cases h1 : 0 ≤ fa ∧ fa < h
  · by_cases h2 : 0 ≤ ta ∧ ta < h
    · by_cases h3 : fa = ta
      · subst h3; exact send_r_b2 b h fa fq tq Ai n0 ci w kc h1
      · by_cases h4 : 0 ≤ fq
        · by_cases h5 : fq ≤ 1
          · by_cases h6 : 0 ≤ tq
            · exact send_r_b6 b h fa fq ta tq Ai n0 ci w kc h1 h2 h3 h4 h5 h6 (by omega)
            · exact send_r_b5 b h fa fq ta tq Ai n0 ci w kc h1 h2 h3 h4 h5 (by omega)
          · exact send_r_b4 b h fa fq ta tq Ai n0 ci w kc h1 h2 h3 h4 (by omega)
        · exact send_r_b3 b h fa fq ta tq Ai n0 ci w kc h1 h2 h3 (by omega)
    · exact send_r_b1 b h fa fq ta tq Ai n0 ci w kc h1 h2
  · exact send_r_b0 b h fa fq ta tq Ai n0 ci w kc h1
set_option maxRecDepth 100000 in
set_option maxHeartbeats 2000000 in
theorem send_r_large (b : Nat) (h fa fq ta tq : Int) (Ai : Option Addr) (n0 ci : Nat) (w : World) (kc : w.cell? ⟨b, 0, none⟩ = some (.int .i64 h)) (h1 : 0 ≤ fa ∧ fa < h) (h2 : 0 ≤ ta ∧ ta < h) (h3 : fa ≠ ta) (h4 : 0 ≤ fq) (h5 : fq ≤ 1) (h6 : 0 ≤ tq) (h7 : tq ≤ 1) (hn : 4096 < n0) :
    Calls Try.prog 21 #[.pointer (some ⟨b, 0, none⟩), adV (fa, fq), adV (ta, tq), .slice Ai n0 ci] w fun e w' => e = .returned (.int .i64 4) ∧ Up w w' := by
  have t1 : (decide (0 ≤ fa ∧ fa < h)) = true := decide_eq_true h1
  have t2 : (decide (0 ≤ ta ∧ ta < h)) = true := decide_eq_true h2
  have t3 : ((fa == ta) : Bool) = false := by simpa using h3
  obtain ⟨W, hW⟩ : ∃ W, W = (w.alloc (.cells #[.int .i64 fa, .int .i64 fq] 37)).alloc (.cells #[.int .i64 ta, .int .i64 tq] 37) := ⟨_, rfl⟩
  have u1 := up_alloc w (.cells #[.int .i64 fa, .int .i64 fq] 37)
  have u2 := up_alloc (w.alloc (.cells #[.int .i64 fa, .int .i64 fq] 37)) (.cells #[.int .i64 ta, .int .i64 tq] 37)
  have a1 := (u2.block _ (lt_of_blk (new_at w (.cells #[.int .i64 fa, .int .i64 fq] 37)))).trans (new_at w (.cells #[.int .i64 fa, .int .i64 fq] 37))
  have b1 := new_at (w.alloc (.cells #[.int .i64 fa, .int .i64 fq] 37)) (.cells #[.int .i64 ta, .int .i64 tq] 37)
  have s1 : (w.alloc (.cells #[.int .i64 fa, .int .i64 fq] 37)).heap.size = w.heap.size + 1 := by simp
  rw [s1] at b1
  have U := Lib.hid (u1.trans u2)
  rw [← hW] at a1 b1 U
  clear u1 u2 s1
  have hc0 := cell_up kc U.out
  have ra0 := cell_of a1 (j := 0) rfl
  have ra1 := cell_of a1 (j := 1) rfl
  have rb0 := cell_of b1 (j := 0) rfl
  have rb1 := cell_of b1 (j := 1) rfl
  have HW := Lib.hid hW
  clear hW a1 b1 kc h1 h2 h3
  unfold adV
  go_enter Try.func21, Try.ntmps21
  go_upto_region 1 with (fail)
  rw [← HW.out]
  go_wp2_with fail
  refine (host b fa h W hc0).mono ?_
  rintro e w1 ⟨rfl, hw1⟩
  subst hw1
  rw [t1]
  go_wp2_with fail
  refine (host b ta h _ hc0).mono ?_
  rintro e w1 ⟨rfl, hw1⟩
  subst hw1
  rw [t2]
  go_wp2_with fail
  go_ret
  exact ⟨rfl, U.out⟩
set_option maxRecDepth 100000 in
set_option maxHeartbeats 2000000 in
theorem send_r (b fa ta fq : Nat) (h tq : Int) (A Ai : Option Addr) (n0 c ci : Nat) (l : List FrB) (dn : Int → Int → Int → Bool) (bs : List Int) (w : World) (hbk : w.heap[b]? = some (.cells (refHd dn h A l.length c) 34 (0, 0)))
    (hrow : w.ownsRow 0 46 6 (.slice A l.length c) l.length (rowc l)) (hl : l.length ≤ 1024) (hgb : ∀ q, blk? A = some q → q ≠ b) (hin : InB w Ai n0 ci bs) (h1 : (fa : Int) < h) (h2 : (ta : Int) < h) (h3 : fa ≠ ta) (h5 : fq < 2) (h6 : 0 ≤ tq) (h7 : tq ≤ 1) (h8 : h ≤ 8) (hn : n0 ≤ 4096) :
    Calls Try.prog 21 #[.pointer (some ⟨b, 0, none⟩), adV ((fa : Int), (fq : Int)), adV ((ta : Int), tq), .slice Ai n0 ci] w (SndPost b 34 (refHd dn h) A l ⟨(fa : Int), (fq : Int), (ta : Int), tq, bs, false⟩ (comeB (dn fa ta fq) l.length) w) := by
  have kc : w.cell? ⟨b, 0, none⟩ = some (.int .i64 h) := cell_of hbk (refBlk_0 _ _ _ _ _)
  have kb : w.cell? ⟨b, 1, none⟩ = some (.slice A l.length c) := cell_of hbk (refBlk_1 _ _ _ _ _)
  have kd := cell_of hbk (refBlk_dn h A l.length c dn (a := fa) (b := ta) (q := fq) (by omega) (by omega) h5)
  have t1 : (decide (0 ≤ (fa : Int) ∧ (fa : Int) < h)) = true := decide_eq_true ⟨by omega, h1⟩
  have t2 : (decide (0 ≤ (ta : Int) ∧ (ta : Int) < h)) = true := decide_eq_true ⟨by omega, h2⟩
  have t3 : (((fa : Int) == (ta : Int)) : Bool) = false := by simp; omega
  have t5 : (fq : Int) ≤ 1 := by omega
  have hfa : fa < 8 := by omega
  have hta : ta < 8 := by omega
  generalize hln : l.length = n at kb hl kd
  have HLN0 := Lib.hid hln
  clear hln
  obtain ⟨W, hW⟩ : ∃ W, W = (w.alloc (.cells #[.int .i64 (fa : Int), .int .i64 (fq : Int)] 37)).alloc (.cells #[.int .i64 (ta : Int), .int .i64 tq] 37) := ⟨_, rfl⟩
  have u1 := up_alloc w (.cells #[.int .i64 (fa : Int), .int .i64 (fq : Int)] 37)
  have u2 := up_alloc (w.alloc (.cells #[.int .i64 (fa : Int), .int .i64 (fq : Int)] 37)) (.cells #[.int .i64 (ta : Int), .int .i64 tq] 37)
  have a1 := (u2.block _ (lt_of_blk (new_at w (.cells #[.int .i64 (fa : Int), .int .i64 (fq : Int)] 37)))).trans (new_at w (.cells #[.int .i64 (fa : Int), .int .i64 (fq : Int)] 37))
  have b1 := new_at (w.alloc (.cells #[.int .i64 (fa : Int), .int .i64 (fq : Int)] 37)) (.cells #[.int .i64 (ta : Int), .int .i64 tq] 37)
  have s1 : (w.alloc (.cells #[.int .i64 (fa : Int), .int .i64 (fq : Int)] 37)).heap.size = w.heap.size + 1 := by simp
  rw [s1] at b1
  have U := Lib.hid (u1.trans u2)
  rw [← hW] at a1 b1 U
  clear u1 u2 s1
  have hc0 := cell_up kc U.out
  have ra0 := cell_of a1 (j := 0) rfl
  have ra1 := cell_of a1 (j := 1) rfl
  have rb0 := cell_of b1 (j := 0) rfl
  have rb1 := cell_of b1 (j := 1) rfl
  have HW := Lib.hid hW
  have kb1 := cell_up kb U.out
  have kd1 := cell_up kd U.out
  have HBK0 := Lib.hid hbk
  have HROW0 := Lib.hid hrow
  have HGB0 := Lib.hid hgb
  have HIN0 := Lib.hid hin
  have FA := Lib.hid a1
  have TB := Lib.hid b1
  have hn0 := hn
  have H3 := Lib.hid h3
  clear hbk hrow hgb hin hW a1 b1 kb kd hn h3 h8
  unfold adV
  go_enter Try.func21, Try.ntmps21
  go_upto_region 1 with (fail)
  rw [← HW.out]
  go_wp2_with fail
  refine (host b fa h W hc0).mono ?_
  rintro e w1 ⟨rfl, hw1⟩
  subst hw1
  rw [t1]
  go_wp2_with fail
  refine (host b ta h _ hc0).mono ?_
  rintro e w1 ⟨rfl, hw1⟩
  subst hw1
  rw [t2]
  clear t1 t2 h1 h2 hc0
  go_upto_region 5 with (fail)
  generalize w.heap.size = fb at *
  clear HW
  have hnl : Nat → True := fun _ => trivial
  clear hnl
  by_cases hfull : n < 1024
  · have dfull : decide ((n : Int) < 1024) = true := decide_eq_true (by omega)
    cases hd : dn (fa : Int) (ta : Int) (fq : Int) with
    | true =>
      rw [hd] at kd1
      have E := Lib.hid (show comeB (dn (fa : Int) (ta : Int) (fq : Int)) n = false from decide_eq_false (fun hh => by rw [hd] at hh; cases hh.1))
      clear hd
      go_quiet (fail)
      go_wp2_with fail
      go_ret
      exact ⟨rfl, w1.drewN nq, U.out.trans (up_drewN _ _), by rw [E.out]; rfl⟩
    | false =>
      rw [hd] at kd1
      have E := Lib.hid (show comeB (dn (fa : Int) (ta : Int) (fq : Int)) n = true from decide_eq_true ⟨hd, hfull⟩)
      clear hd
      go_quiet (fail)
      go_upto_region 6 with (fail)
      have hln := HLN0.out
      subst hln
      have HUW := Lib.hid (U.out.trans (up_drewN w1 nq))
      have HBX5 := Lib.hid (And.intro (cell_up ra0 (up_drewN w1 nq)) (cell_up ra1 (up_drewN w1 nq)))
      have HBX6 := Lib.hid (And.intro (cell_up rb0 (up_drewN w1 nq)) (cell_up rb1 (up_drewN w1 nq)))
      generalize w1.drewN nq = w9 at HUW HBX5 HBX6 ⊢
      have HBK := Lib.hid ((HUW.out.out No).blk HBK0.out (fun h => h))
      have hcb : w9.cell? ⟨b, 1, none⟩ = some (.slice A l.length c) := cell_of HBK.out (refBlk_1 _ _ _ _ _)
      have HCB := Lib.hid hcb
      have HROW := Lib.hid (own_up HROW0.out HUW.out)
      have HL := Lib.hid hfull
      have HBS := Lib.hid (lt_of_blk HBK.out)
      have HAB := Lib.hid (show ∀ q, blk? A = some q → q < w9.heap.size from fun q hq => (World.ownsRow.lt HROW.out q (by rw [ownBlock_slice]; exact hq)).2)
      have HBA := HGB0
      have HSET := Lib.hid (show ∀ A' n' c', (refHd dn h A l.length c).setIfInBounds 1 (.slice A' n' c') = refHd dn h A' n' c' from fun _ _ _ => refHd_way _ _ _ _ _ _ _ _)
      have HG := Lib.hid (gok_fresh (b := b) HBS.out HAB.out)
      have HIN := Lib.hid (HIN0.out.up HUW.out)
      obtain rfl : n0 = bs.length := HIN.out.len.symm
      have HLN := Lib.hid hn0
      generalize htb : fb + 1 = tb at HBX6 ⊢
      clear hcb ra0 ra1 rb0 rb1 kb1 kd1 dfull htb HIN0 HROW0
      have HKB : ∀ φ ∈ ([Is (.pointer (some ⟨b, 0, none⟩)), Is (.pointer (some ⟨b, 0, none⟩)), Is (.pointer (some ⟨b, 0, none⟩)), Is (.pointer (some ⟨b, 1, none⟩)), Is (.slice A l.length c), Is (adV ((fa : Int), (fq : Int))), Is (adV ((ta : Int), tq)), Is (.slice Ai bs.length ci), Is (frV (⟨(fa : Int), (fq : Int), (ta : Int), tq, bs, false⟩) (.slice Ai bs.length ci)), PhF (⟨(fa : Int), (fq : Int), (ta : Int), tq, bs, false⟩) (Fresh w9.heap.size), PhS w9.heap.size (⟨(fa : Int), (fq : Int), (ta : Int), tq, bs, false⟩) (Fresh w9.heap.size), PhR w9.heap.size A l (⟨(fa : Int), (fq : Int), (ta : Int), tq, bs, false⟩) (Fresh w9.heap.size), Is (.pointer (some ⟨b, 0, none⟩)), Is (.pointer (some ⟨b, 1, none⟩)), Tru] : List (Value → World → Prop)), KpT (fun k => k = b) φ := by
        have i1 : ∀ x, KpT (fun k => k = b) (Is x) := fun x => kpT_is _ x
        have iPhF := KpT.mono (T' := fun k => k = b) (kpT_PhF (f := ⟨(fa : Int), (fq : Int), (ta : Int), tq, bs, false⟩) HG.out) (fun k hk => Or.inl hk)
        have iPhS := KpT.mono (T' := fun k => k = b) (kpT_PhS (f := ⟨(fa : Int), (fq : Int), (ta : Int), tq, bs, false⟩) HG.out HBS.out HAB.out) (fun k hk => Or.inl hk)
        have iR := kpb_PhR (l := l) (f := ⟨(fa : Int), (fq : Int), (ta : Int), tq, bs, false⟩) HG.out HBS.out HBA.out
        simp only [List.forall_mem_cons]
        exact ⟨i1 _, i1 _, i1 _, i1 _, i1 _, i1 _, i1 _, i1 _, i1 _, iPhF, iPhS, iR, i1 _, i1 _, kpT_tru _, fun _ h => by cases h⟩
      have HK : ∀ φ ∈ ([Is (.pointer (some ⟨b, 0, none⟩)), Is (.pointer (some ⟨b, 0, none⟩)), Is (.pointer (some ⟨b, 0, none⟩)), Is (.pointer (some ⟨b, 1, none⟩)), Is (.slice A l.length c), Is (adV ((fa : Int), (fq : Int))), Is (adV ((ta : Int), tq)), Is (.slice Ai bs.length ci), Is (frV (⟨(fa : Int), (fq : Int), (ta : Int), tq, bs, false⟩) (.slice Ai bs.length ci)), PhF (⟨(fa : Int), (fq : Int), (ta : Int), tq, bs, false⟩) (Fresh w9.heap.size), PhS w9.heap.size (⟨(fa : Int), (fq : Int), (ta : Int), tq, bs, false⟩) (Fresh w9.heap.size), PhR w9.heap.size A l (⟨(fa : Int), (fq : Int), (ta : Int), tq, bs, false⟩) (Fresh w9.heap.size), Is (.pointer (some ⟨b, 0, none⟩)), Is (.pointer (some ⟨b, 1, none⟩)), Tru] : List (Value → World → Prop)), Keeps φ := fun φ h => (HKB φ h).keeps
      have HNE : ∀ j φ, ([Is (.pointer (some ⟨b, 0, none⟩)), Is (.pointer (some ⟨b, 0, none⟩)), Is (.pointer (some ⟨b, 0, none⟩)), Is (.pointer (some ⟨b, 1, none⟩)), Is (.slice A l.length c), Is (adV ((fa : Int), (fq : Int))), Is (adV ((ta : Int), tq)), Is (.slice Ai bs.length ci), Is (frV (⟨(fa : Int), (fq : Int), (ta : Int), tq, bs, false⟩) (.slice Ai bs.length ci)), PhF (⟨(fa : Int), (fq : Int), (ta : Int), tq, bs, false⟩) (Fresh w9.heap.size), PhS w9.heap.size (⟨(fa : Int), (fq : Int), (ta : Int), tq, bs, false⟩) (Fresh w9.heap.size), PhR w9.heap.size A l (⟨(fa : Int), (fq : Int), (ta : Int), tq, bs, false⟩) (Fresh w9.heap.size), Is (.pointer (some ⟨b, 0, none⟩)), Is (.pointer (some ⟨b, 1, none⟩)), Tru] : List (Value → World → Prop))[j]? = some φ → j ≠ 11 → KpT (fun k => blk? A = some k) φ := by
        have i1 : ∀ x, KpT (fun k => blk? A = some k) (Is x) := fun x => kpT_is _ x
        have iPhF := KpT.mono (T' := fun k => blk? A = some k) (kpT_PhF (f := ⟨(fa : Int), (fq : Int), (ta : Int), tq, bs, false⟩) HG.out) (fun k hk => Or.inr hk)
        have iPhS := KpT.mono (T' := fun k => blk? A = some k) (kpT_PhS (f := ⟨(fa : Int), (fq : Int), (ta : Int), tq, bs, false⟩) HG.out HBS.out HAB.out) (fun k hk => Or.inr hk)
        intro j φ hj hne
        match j, hj, hne with
        | 0, hj, hne => cases hj; exact i1 _
        | 1, hj, hne => cases hj; exact i1 _
        | 2, hj, hne => cases hj; exact i1 _
        | 3, hj, hne => cases hj; exact i1 _
        | 4, hj, hne => cases hj; exact i1 _
        | 5, hj, hne => cases hj; exact i1 _
        | 6, hj, hne => cases hj; exact i1 _
        | 7, hj, hne => cases hj; exact i1 _
        | 8, hj, hne => cases hj; exact i1 _
        | 9, hj, hne => cases hj; exact iPhF
        | 10, hj, hne => cases hj; exact iPhS
        | 11, hj, hne => exact absurd rfl hne
        | 12, hj, hne => cases hj; exact i1 _
        | 13, hj, hne => cases hj; exact i1 _
        | 14, hj, hne => cases hj; exact kpT_tru _
      refine staged_lit (by kernel_rfl) (facts [Is (.pointer (some ⟨b, 0, none⟩)), Is (.pointer (some ⟨b, 0, none⟩)), Is (.pointer (some ⟨b, 0, none⟩)), Is (.pointer (some ⟨b, 1, none⟩)), Is (.slice A l.length c), Is (adV ((fa : Int), (fq : Int))), Is (adV ((ta : Int), tq)), Is (.slice Ai bs.length ci), Is (frV (⟨(fa : Int), (fq : Int), (ta : Int), tq, bs, false⟩) (.slice Ai bs.length ci)), PhF (⟨(fa : Int), (fq : Int), (ta : Int), tq, bs, false⟩) (Fresh w9.heap.size), PhS w9.heap.size (⟨(fa : Int), (fq : Int), (ta : Int), tq, bs, false⟩) (Fresh w9.heap.size), PhR w9.heap.size A l (⟨(fa : Int), (fq : Int), (ta : Int), tq, bs, false⟩) (Fresh w9.heap.size), Is (.pointer (some ⟨b, 0, none⟩)), Is (.pointer (some ⟨b, 1, none⟩)), Tru]) (Stg [11, 14] (WApp b 34 (refHd dn h) A l (⟨(fa : Int), (fq : Int), (ta : Int), tq, bs, false⟩) (Fresh w9.heap.size) w9)) 87 rfl (by decide +kernel) (by decide +kernel) (Stg.start (Up.drew w9)) ?_ ?_
      · refine ⟨?_, ?_, ?_, ?_, ?_, ?_, ?_, ?_, ?_, ?_, ?_, ?_, ?_, ?_, ?_, trivial⟩
        · refine opS_same rfl rfl fun L ac w1 hJ hl hc ho hd => ?_
          have s0 : ac.eval (.tmp 0) = .pointer (some ⟨b, 0, none⟩) := ho 0 rfl
          exact ⟨_, x_move (.tmp 0) rfl s0, rfl⟩
        · refine opS_same rfl rfl fun L ac w1 hJ hl hc ho hd => ?_
          have s0 : ac.eval (.tmp 0) = .pointer (some ⟨b, 0, none⟩) := ho 0 rfl
          exact ⟨_, x_move (.tmp 0) rfl s0, rfl⟩
        · refine opS_same rfl rfl fun L ac w1 hJ hl hc ho hd => ?_
          have d1 : ac.eval (.tmp 74) = .pointer (some ⟨b, 0, none⟩) := hd 1 _ _ rfl rfl rfl
          exact ⟨_, x_nil (.tmp 74) rfl d1, rfl⟩
        · refine opS_same rfl rfl fun L ac w1 hJ hl hc ho hd => ?_
          have d2 : ac.eval (.tmp 75) = .pointer (some ⟨b, 0, none⟩) := hd 2 _ _ rfl rfl rfl
          exact ⟨_, x_field 34 (.tmp 75) 1 rfl d2 (fld341 _ _ _), rfl⟩
        · refine opS_same rfl rfl fun L ac w1 hJ hl hc ho hd => ?_
          have d3 : ac.eval (.tmp 76) = .pointer (some ⟨b, 1, none⟩) := hd 3 _ _ rfl rfl rfl
          have hW : Up w9 w1 := hJ.first (reach_not hc (n := 40) (k := 11) (by kernel_rfl) hl)
          exact ⟨_, x_load 29 (.tmp 76) rfl d3 (run_load1 agg29 (cell_up HCB.out hW)), rfl⟩
        · refine opS_same rfl rfl fun L ac w1 hJ hl hc ho hd => ?_
          have s5 : ac.eval (.tmp 5) = .pointer (some ⟨fb, 0, none⟩) := ho 5 rfl
          have hW : Up w9 w1 := hJ.first (reach_not hc (n := 40) (k := 11) (by kernel_rfl) hl)
          exact ⟨_, x_load 37 (.tmp 5) rfl s5 (run_load37 (cell_up HBX5.out.1 hW) (cell_up HBX5.out.2 hW)), rfl⟩
        · refine opS_same rfl rfl fun L ac w1 hJ hl hc ho hd => ?_
          have s6 : ac.eval (.tmp 6) = .pointer (some ⟨tb, 0, none⟩) := ho 6 rfl
          have hW : Up w9 w1 := hJ.first (reach_not hc (n := 40) (k := 11) (by kernel_rfl) hl)
          exact ⟨_, x_load 37 (.tmp 6) rfl s6 (run_load37 (cell_up HBX6.out.1 hW) (cell_up HBX6.out.2 hW)), rfl⟩
        · refine opS_same rfl rfl fun L ac w1 hJ hl hc ho hd => ?_
          have s3 : ac.eval (.tmp 3) = .slice Ai bs.length ci := ho 3 rfl
          exact ⟨_, x_move (.tmp 3) rfl s3, rfl⟩
        · refine opS_same rfl rfl fun L ac w1 hJ hl hc ho hd => ?_
          have d5 : ac.eval (.tmp 78) = adV ((fa : Int), (fq : Int)) := hd 5 _ _ rfl rfl rfl
          have d6 : ac.eval (.tmp 79) = adV ((ta : Int), tq) := hd 6 _ _ rfl rfl rfl
          have d7 : ac.eval (.tmp 80) = .slice Ai bs.length ci := hd 7 _ _ rfl rfl rfl
          exact ⟨_, x_build 46 _ rfl (by simp only [List.map_toArray, List.map_cons, List.map_nil, d5, d6, d7]; exact build_frame _ _ _ _ _ _), rfl⟩
        · refine opS_callUp rfl rfl (fun k w w' => wApp_up HG.out) (facts_keep HK) fun L ac w1 hJ hl hc ho hd => ?_
          have d8 : ac.eval (.tmp 81) = frV (⟨(fa : Int), (fq : Int), (ta : Int), tq, bs, false⟩) (.slice Ai bs.length ci) := hd 8 _ _ rfl rfl rfl
          have hW : Up w9 w1 := hJ.first (reach_not hc (n := 40) (k := 11) (by kernel_rfl) hl)
          refine ⟨36, _, x_fcall 36 [.tmp 81] _ rfl (by kernel_rfl), ?_⟩
          simp only [List.map_cons, List.map_nil, d8]
          refine (own (⟨(fa : Int), (fq : Int), (ta : Int), tq, bs, false⟩) _ _ _ w1 (HIN.out.up hW) HLN.out).mono fun e w2 ⟨A', c', he, h1, h2⟩ => ⟨_, he, h2, ⟨⟨⟨(fa : Int), (fq : Int), (ta : Int), tq, bs, false⟩, A', c'⟩, rfl, OwnI.mono h1 hW.size, rfl⟩⟩
        · refine opS_grow rfl rfl (fun k w w' => wApp_up HG.out) (facts_keep HK) fun L ac w1 hJ hl hc ho hd => ?_
          have d9 := hd 9 _ _ rfl rfl rfl
          have hW : Up w9 w1 := hJ.first (reach_not hc (n := 40) (k := 11) (by kernel_rfl) hl)
          obtain ⟨y, hy, hg, ey⟩ := d9
          have ey2 : ac.eval (.tmp 82) = _ := ey
          refine fine_run (.slice (some ⟨w1.heap.size, 0, none⟩) 1 1) (w1.alloc (.cells (frc y).toArray 46)) (x_bslice 29 1 _ rfl (by simp only [List.map_toArray, List.map_cons, List.map_nil, ey2]; exact bslice_run y w1)) (up_alloc _ _) ⟨w1.heap.size, y, hy, HG.out.keep _ _ _ hg ((up_alloc w1 _).out _), rfl, hW.size, new_at _ _⟩
        · refine opS_writeV (j := 0) rfl (by decide) rfl (fun _ _ h => absurd h (by omega)) fun ac w1 hW ho hd => ?_
          have d4 : ac.eval (.tmp 77) = .slice A l.length c := hd 4 _ _ rfl rfl rfl
          have d10 := hd 10 _ _ rfl rfl rfl
          obtain ⟨u, w2, hr, ho2, hu⟩ := app_run 29 HL.out HROW.out HG.out (show Up w9 w1 from hW) d10
          refine ⟨u, w2, x_append (.tmp 77) (.tmp 83) 29 29 rfl d4 rfl hr, (show Out _ w9 w1 from (show Up w9 w1 from hW).out _).trans ho2 (Sub.refl _ _), hu, fun j x hj hx => facts_ne HNE j x w1 w2 hj hx ho2⟩
        · refine opS_same rfl rfl fun L ac w1 hJ hl hc ho hd => ?_
          have d0 : ac.eval (.tmp 73) = .pointer (some ⟨b, 0, none⟩) := hd 0 _ _ rfl rfl rfl
          exact ⟨_, x_nil (.tmp 73) rfl d0, rfl⟩
        · refine opS_same rfl rfl fun L ac w1 hJ hl hc ho hd => ?_
          have d12 : ac.eval (.tmp 85) = .pointer (some ⟨b, 0, none⟩) := hd 12 _ _ rfl rfl rfl
          exact ⟨_, x_field 34 (.tmp 85) 1 rfl d12 (fld341 _ _ _), rfl⟩
        · refine opS_write (j := 1) rfl rfl (by decide) rfl (fun y hy _ => by cases hy; rfl) fun ac w1 hW ho hd => ?_
          have d13 : ac.eval (.tmp 86) = .pointer (some ⟨b, 1, none⟩) := hd 13 _ _ rfl rfl rfl
          have d11 := hd 11 _ _ rfl rfl rfl
          obtain ⟨w2, hr, hw2, ho2⟩ := store_run (cs := (refHd dn h)) (A := A) (n := l.length) (c := c) HBK.out (fun _ _ _ => HSET.out _ _ _) (by unfold refHd; rw [refBlk_size]; omega) HBA.out HG.out (show Out _ w9 w1 from hW) d11
          exact ⟨w2, x_store 29 (.tmp 86) (.tmp 84) rfl d13 rfl hr, hw2, fun _ => trivial, fun j x hx => facts_kp HKB j x w1 w2 hx ho2⟩
      · intro L a1 w7 hI hall
        obtain ⟨q, hq, hW⟩ := hI.done hall (by simp)
        obtain ⟨q, rfl⟩ : ∃ r, q = r + 2 := ⟨q - 2, by simp at hq; omega⟩
        have Z := Lib.hid (show WApp b 34 (refHd dn h) A l (⟨(fa : Int), (fq : Int), (ta : Int), tq, bs, false⟩) (Fresh w9.heap.size) w9 2 w7 from hW)
        clear hq hW q HKB HK HNE
        have l0 : a1.tmps.getD 0 undef = .pointer (some ⟨b, 0, none⟩) := hI.old 0 rfl
        have hde : a1.defers = [] := hI.defers
        have hal := act_lit a1 87 hI.size
        clear hI
        simp only [List.range, List.range.loop, List.map_cons, List.map_nil] at hal
        rw [l0, hde] at hal
        generalize a1.tmps.getD 1 undef = t1 at hal
        generalize a1.tmps.getD 2 undef = t2 at hal
        generalize a1.tmps.getD 3 undef = t3 at hal
        generalize a1.tmps.getD 4 undef = t4 at hal
        generalize a1.tmps.getD 5 undef = t5 at hal
        generalize a1.tmps.getD 6 undef = t6 at hal
        generalize a1.tmps.getD 7 undef = t7 at hal
        generalize a1.tmps.getD 8 undef = t8 at hal
        generalize a1.tmps.getD 9 undef = t9 at hal
        generalize a1.tmps.getD 10 undef = t10 at hal
        generalize a1.tmps.getD 11 undef = t11 at hal
        generalize a1.tmps.getD 12 undef = t12 at hal
        generalize a1.tmps.getD 13 undef = t13 at hal
        generalize a1.tmps.getD 14 undef = t14 at hal
        generalize a1.tmps.getD 15 undef = t15 at hal
        generalize a1.tmps.getD 16 undef = t16 at hal
        generalize a1.tmps.getD 17 undef = t17 at hal
        generalize a1.tmps.getD 18 undef = t18 at hal
        generalize a1.tmps.getD 19 undef = t19 at hal
        generalize a1.tmps.getD 20 undef = t20 at hal
        generalize a1.tmps.getD 21 undef = t21 at hal
        generalize a1.tmps.getD 22 undef = t22 at hal
        generalize a1.tmps.getD 23 undef = t23 at hal
        generalize a1.tmps.getD 24 undef = t24 at hal
        generalize a1.tmps.getD 25 undef = t25 at hal
        generalize a1.tmps.getD 26 undef = t26 at hal
        generalize a1.tmps.getD 27 undef = t27 at hal
        generalize a1.tmps.getD 28 undef = t28 at hal
        generalize a1.tmps.getD 29 undef = t29 at hal
        generalize a1.tmps.getD 30 undef = t30 at hal
        generalize a1.tmps.getD 31 undef = t31 at hal
        generalize a1.tmps.getD 32 undef = t32 at hal
        generalize a1.tmps.getD 33 undef = t33 at hal
        generalize a1.tmps.getD 34 undef = t34 at hal
        generalize a1.tmps.getD 35 undef = t35 at hal
        generalize a1.tmps.getD 36 undef = t36 at hal
        generalize a1.tmps.getD 37 undef = t37 at hal
        generalize a1.tmps.getD 38 undef = t38 at hal
        generalize a1.tmps.getD 39 undef = t39 at hal
        generalize a1.tmps.getD 40 undef = t40 at hal
        generalize a1.tmps.getD 41 undef = t41 at hal
        generalize a1.tmps.getD 42 undef = t42 at hal
        generalize a1.tmps.getD 43 undef = t43 at hal
        generalize a1.tmps.getD 44 undef = t44 at hal
        generalize a1.tmps.getD 45 undef = t45 at hal
        generalize a1.tmps.getD 46 undef = t46 at hal
        generalize a1.tmps.getD 47 undef = t47 at hal
        generalize a1.tmps.getD 48 undef = t48 at hal
        generalize a1.tmps.getD 49 undef = t49 at hal
        generalize a1.tmps.getD 50 undef = t50 at hal
        generalize a1.tmps.getD 51 undef = t51 at hal
        generalize a1.tmps.getD 52 undef = t52 at hal
        generalize a1.tmps.getD 53 undef = t53 at hal
        generalize a1.tmps.getD 54 undef = t54 at hal
        generalize a1.tmps.getD 55 undef = t55 at hal
        generalize a1.tmps.getD 56 undef = t56 at hal
        generalize a1.tmps.getD 57 undef = t57 at hal
        generalize a1.tmps.getD 58 undef = t58 at hal
        generalize a1.tmps.getD 59 undef = t59 at hal
        generalize a1.tmps.getD 60 undef = t60 at hal
        generalize a1.tmps.getD 61 undef = t61 at hal
        generalize a1.tmps.getD 62 undef = t62 at hal
        generalize a1.tmps.getD 63 undef = t63 at hal
        generalize a1.tmps.getD 64 undef = t64 at hal
        generalize a1.tmps.getD 65 undef = t65 at hal
        generalize a1.tmps.getD 66 undef = t66 at hal
        generalize a1.tmps.getD 67 undef = t67 at hal
        generalize a1.tmps.getD 68 undef = t68 at hal
        generalize a1.tmps.getD 69 undef = t69 at hal
        generalize a1.tmps.getD 70 undef = t70 at hal
        generalize a1.tmps.getD 71 undef = t71 at hal
        generalize a1.tmps.getD 72 undef = t72 at hal
        generalize a1.tmps.getD 73 undef = t73 at hal
        generalize a1.tmps.getD 74 undef = t74 at hal
        generalize a1.tmps.getD 75 undef = t75 at hal
        generalize a1.tmps.getD 76 undef = t76 at hal
        generalize a1.tmps.getD 77 undef = t77 at hal
        generalize a1.tmps.getD 78 undef = t78 at hal
        generalize a1.tmps.getD 79 undef = t79 at hal
        generalize a1.tmps.getD 80 undef = t80 at hal
        generalize a1.tmps.getD 81 undef = t81 at hal
        generalize a1.tmps.getD 82 undef = t82 at hal
        generalize a1.tmps.getD 83 undef = t83 at hal
        generalize a1.tmps.getD 84 undef = t84 at hal
        generalize a1.tmps.getD 85 undef = t85 at hal
        generalize a1.tmps.getD 86 undef = t86 at hal
        clear l0 hde
        subst hal
        go_wp2_with fail
        go_ret
        exact ⟨rfl, w9, HUW.out, by rw [E.out]; exact Z.out⟩
  · have dfull : decide ((n : Int) < 1024) = false := decide_eq_false (by omega)
    have E := Lib.hid (show comeB (dn (fa : Int) (ta : Int) (fq : Int)) n = false from decide_eq_false (fun hh => hfull hh.2))
    clear hfull
    go_quiet (fail)
    go_wp2_with fail
    go_ret
    exact ⟨rfl, w1.drewN nq, U.out.trans (up_drewN _ _), by rw [E.out]; rfl⟩
end Go.Proofs.Ytfbjhialjepodaa

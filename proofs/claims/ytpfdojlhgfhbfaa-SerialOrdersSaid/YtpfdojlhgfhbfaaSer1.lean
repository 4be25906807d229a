import Derived.Test.YtpfdojlhgfhbfaaSer
namespace Go.Proofs.Ytpfdojlhgfhbfaa
open Go Go.RowKit

section
variable {k : IntKind} {m M a b : Int} {w w' : World}
theorem ord_eq (hk : ∀ n, k.wrap n = n % m) (h : (k.wrap (b - a) == 0) = true) (hu : Up w w') : IsOrd m a b w (.returned (.tuple #[.int .i64 0, .bool true])) w' := by
  rw [hk, beq_iff_eq] at h
  exact isOrd_eq h hu
theorem ord_lt (hk : ∀ n, k.wrap n = n % m) (hM : M + 1 = m / 2) (h0 : (k.wrap (b - a) == 0) = false) (h1 : k.wrap (b - a) ≤ M) (hu : Up w w') : IsOrd m a b w (.returned (.tuple #[.int .i64 (-1), .bool true])) w' := by
  rw [hk, beq_eq_false_iff_ne] at h0
  rw [hk] at h1
  exact isOrd_lt h0 (by omega) hu
theorem ord_gt (hk : ∀ n, k.wrap n = n % m) (hM : M + 1 = m / 2) (h0 : (k.wrap (b - a) == 0) = false) (h1 : M < k.wrap (b - a)) (h2 : k.wrap (a - b) ≤ M) (hu : Up w w') : IsOrd m a b w (.returned (.tuple #[.int .i64 1, .bool true])) w' := by
  rw [hk, beq_eq_false_iff_ne] at h0
  rw [hk] at h1 h2
  exact isOrd_gt h0 (by omega) (by omega) hu
theorem ord_no (hk : ∀ n, k.wrap n = n % m) (hM : M + 1 = m / 2) (h0 : (k.wrap (b - a) == 0) = false) (h1 : M < k.wrap (b - a)) (h2 : M < k.wrap (a - b)) (hu : Up w w') : IsOrd m a b w (.returned (.tuple #[.int .i64 0, .bool false])) w' := by
  rw [hk, beq_eq_false_iff_ne] at h0
  rw [hk] at h1 h2
  exact isOrd_no h0 (by omega) (by omega) hu
theorem rord_eq (h : (a == b) = true) (hu : Up w w') : IsOrd m a b w (.returned (.tuple #[.int .i64 0, .bool true])) w' := by
  rw [beq_iff_eq] at h
  exact isOrd_eq (by simp [h]) hu
theorem rord_lt (hk : ∀ n, k.wrap n = n % m) (hM : M = m / 2) (h0 : ¬ (b - a) % m = 0) (h1 : k.wrap (b - a) < M) (hu : Up w w') : IsOrd m a b w (.returned (.tuple #[.int .i64 (-1), .bool true])) w' := by
  rw [hk] at h1
  exact isOrd_lt h0 (by omega) hu
theorem rord_gt (hk : ∀ n, k.wrap n = n % m) (hM : M = m / 2) (h0 : ¬ (b - a) % m = 0) (h1 : M ≤ k.wrap (b - a)) (h2 : k.wrap (a - b) < M) (hu : Up w w') : IsOrd m a b w (.returned (.tuple #[.int .i64 1, .bool true])) w' := by
  rw [hk] at h1 h2
  exact isOrd_gt h0 (by omega) (by omega) hu
theorem rord_no (hk : ∀ n, k.wrap n = n % m) (hM : M = m / 2) (h0 : ¬ (b - a) % m = 0) (h1 : M ≤ k.wrap (b - a)) (h2 : M ≤ k.wrap (a - b)) (hu : Up w w') : IsOrd m a b w (.returned (.tuple #[.int .i64 0, .bool false])) w' := by
  rw [hk] at h1 h2
  exact isOrd_no h0 (by omega) (by omega) hu
theorem ne_mod (hm : 0 < m) (ha : 0 ≤ a) (ha' : a < m) (hb : 0 ≤ b) (hb' : b < m) (h : (a == b) = false) : ¬ (b - a) % m = 0 := by
  rw [beq_eq_false_iff_ne] at h
  intro e
  apply h
  have := Int.mul_ediv_add_emod (b - a) m
  rw [e] at this
  generalize (b - a) / m = q at this
  rcases Int.lt_trichotomy q 0 with hq | hq | hq
  · have := Int.mul_le_mul_of_nonneg_left (show q ≤ -1 by omega) (Int.le_of_lt hm); omega
  · subst hq; omega
  · have := Int.mul_le_mul_of_nonneg_left (show 1 ≤ q by omega) (Int.le_of_lt hm); omega
end

set_option maxHeartbeats 400000 in
theorem porder16 (a b : Int) (w : World) : Calls Try.prog 18 #[.int .u16 a, .int .u16 b] w (IsOrd 65536 a b w) := by
  have hmf : ∀ (fn : Fn) (first cap : Array Value) (w : World), (Instr.makeFunc fn first cap).run Try.prog w = .ok (.func fn first cap) w := fun _ _ _ _ => rfl
  have hm := most16
  go_enter Try.func18, Try.ntmps18
  go_wp2
  all_goals go_ret2
  · exact ord_eq (m := 65536) IntKind.wrap_u16 (by assumption) (by unfold Up; repeat (first | exact Below.refl _ _ | (refine Below.alloc ?_ (by simp) _) | apply Below.drew))
  · exact ord_lt (m := 65536) (M := 32767) IntKind.wrap_u16 (by decide) (by assumption) (by assumption) (by unfold Up; repeat (first | exact Below.refl _ _ | (refine Below.alloc ?_ (by simp) _) | apply Below.drew))
  · exact ord_gt (m := 65536) (M := 32767) IntKind.wrap_u16 (by decide) (by assumption) (by assumption) (by assumption) (by unfold Up; repeat (first | exact Below.refl _ _ | (refine Below.alloc ?_ (by simp) _) | apply Below.drew))
  · exact ord_no (m := 65536) (M := 32767) IntKind.wrap_u16 (by decide) (by assumption) (by assumption) (by assumption) (by unfold Up; repeat (first | exact Below.refl _ _ | (refine Below.alloc ?_ (by simp) _) | apply Below.drew))
set_option maxHeartbeats 400000 in
theorem porder32 (a b : Int) (w : World) : Calls Try.prog 19 #[.int .u32 a, .int .u32 b] w (IsOrd 4294967296 a b w) := by
  have hmf : ∀ (fn : Fn) (first cap : Array Value) (w : World), (Instr.makeFunc fn first cap).run Try.prog w = .ok (.func fn first cap) w := fun _ _ _ _ => rfl
  have hm := most32
  go_enter Try.func19, Try.ntmps19
  go_wp2
  all_goals go_ret2
  · exact ord_eq (m := 4294967296) IntKind.wrap_u32' (by assumption) (by unfold Up; repeat (first | exact Below.refl _ _ | (refine Below.alloc ?_ (by simp) _) | apply Below.drew))
  · exact ord_lt (m := 4294967296) (M := 2147483647) IntKind.wrap_u32' (by decide) (by assumption) (by assumption) (by unfold Up; repeat (first | exact Below.refl _ _ | (refine Below.alloc ?_ (by simp) _) | apply Below.drew))
  · exact ord_gt (m := 4294967296) (M := 2147483647) IntKind.wrap_u32' (by decide) (by assumption) (by assumption) (by assumption) (by unfold Up; repeat (first | exact Below.refl _ _ | (refine Below.alloc ?_ (by simp) _) | apply Below.drew))
  · exact ord_no (m := 4294967296) (M := 2147483647) IntKind.wrap_u32' (by decide) (by assumption) (by assumption) (by assumption) (by unfold Up; repeat (first | exact Below.refl _ _ | (refine Below.alloc ?_ (by simp) _) | apply Below.drew))
set_option maxHeartbeats 400000 in
theorem order16 (a b : Int) (w : World) : Calls Try.prog 9 #[.int .u16 a, .int .u16 b] w (IsOrd 65536 a b w) := by
  go_enter Try.func9, Try.ntmps9
  go_wp2_with (go_at_call 18; refine (porder16 _ _ _).mono ?_; rintro e w' ⟨rfl, hu⟩)
  go_ret2
  exact ⟨rfl, hu⟩
set_option maxHeartbeats 400000 in
theorem order32 (a b : Int) (w : World) : Calls Try.prog 11 #[.int .u32 a, .int .u32 b] w (IsOrd 4294967296 a b w) := by
  go_enter Try.func11, Try.ntmps11
  go_wp2_with (go_at_call 19; refine (porder32 _ _ _).mono ?_; rintro e w' ⟨rfl, hu⟩)
  go_ret2
  exact ⟨rfl, hu⟩
theorem rorder16 (a b : Int) (w : World) (ha : 0 ≤ a) (ha' : a < 65536) (hb : 0 ≤ b) (hb' : b < 65536) : Calls Try.prog 10 #[.int .u16 a, .int .u16 b] w (IsOrd 65536 a b w) := by
  go_enter Try.func10, Try.ntmps10
  go_wp2
  all_goals go_ret2
  · exact rord_eq (by assumption) (Up.refl _)
  · exact rord_lt (m := 65536) (M := 32768) IntKind.wrap_u16 (by decide) (ne_mod (by omega) ha ha' hb hb' (by assumption)) (by assumption) (Up.refl _)
  · exact rord_gt (m := 65536) (M := 32768) IntKind.wrap_u16 (by decide) (ne_mod (by omega) ha ha' hb hb' (by assumption)) (by assumption) (by assumption) (Up.refl _)
  · exact rord_no (m := 65536) (M := 32768) IntKind.wrap_u16 (by decide) (ne_mod (by omega) ha ha' hb hb' (by assumption)) (by assumption) (by assumption) (Up.refl _)
theorem rorder32 (a b : Int) (w : World) (ha : 0 ≤ a) (ha' : a < 4294967296) (hb : 0 ≤ b) (hb' : b < 4294967296) : Calls Try.prog 12 #[.int .u32 a, .int .u32 b] w (IsOrd 4294967296 a b w) := by
  go_enter Try.func12, Try.ntmps12
  go_wp2
  all_goals go_ret2
  · exact rord_eq (by assumption) (Up.refl _)
  · exact rord_lt (m := 4294967296) (M := 2147483648) IntKind.wrap_u32' (by decide) (ne_mod (by omega) ha ha' hb hb' (by assumption)) (by assumption) (Up.refl _)
  · exact rord_gt (m := 4294967296) (M := 2147483648) IntKind.wrap_u32' (by decide) (ne_mod (by omega) ha ha' hb hb' (by assumption)) (by assumption) (by assumption) (Up.refl _)
  · exact rord_no (m := 4294967296) (M := 2147483648) IntKind.wrap_u32' (by decide) (ne_mod (by omega) ha ha' hb hb' (by assumption)) (by assumption) (by assumption) (Up.refl _)

theorem ans_ok (w : World) : Calls Try.prog 13 #[] w fun e w' => e = .returned (.bool true) ∧ Up w w' := by
  have h1 : ordI 65536 65535 2 = -1 := by decide
  have h2 : ordB 65536 65535 2 = true := by decide
  go_enter Try.func13, Try.ntmps13
  go_wp2_with (go_at_call 9; refine (order16 _ _ _).mono ?_; rintro e w' ⟨rfl, hu⟩)
  go_ret
  exact ⟨rfl, hu⟩
end Go.Proofs.Ytpfdojlhgfhbfaa

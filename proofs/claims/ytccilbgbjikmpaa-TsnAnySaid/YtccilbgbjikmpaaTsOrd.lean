import Derived.Test.YtccilbgbjikmpaaStaged
import Derived.Test.YtccilbgbjikmpaaChecked
namespace Go.Proofs.Ytccilbgbjikmpaa
open Go Go.RowKit
set_option linter.unusedVariables false
/-! The order of numbers that go round: the program's, on 32 bits. -/
/-- The order of two numbers on a circle of m. -/
def ordI (m a b : Int) : Int := if (b - a) % m = 0 then 0 else if (b - a) % m < m / 2 then -1 else if (a - b) % m < m / 2 then 1 else 0
/-- Whether there is one. -/
def ordB (m a b : Int) : Bool := if (b - a) % m = 0 then true else if (b - a) % m < m / 2 then true else if (a - b) % m < m / 2 then true else false
def IsOrd (m a b : Int) (w : World) (e : Ending) (w' : World) : Prop := e = .returned (.tuple #[.int .i64 (ordI m a b), .bool (ordB m a b)]) ∧ Grown w w'
theorem isOrd_eq {m a b : Int} {w w' : World} (h : (b - a) % m = 0) (hu : Grown w w') : IsOrd m a b w (.returned (.tuple #[.int .i64 0, .bool true])) w' := by
  refine ⟨?_, hu⟩; unfold ordI ordB; rw [if_pos h, if_pos h]
theorem isOrd_lt {m a b : Int} {w w' : World} (h0 : ¬ (b - a) % m = 0) (h : (b - a) % m < m / 2) (hu : Grown w w') : IsOrd m a b w (.returned (.tuple #[.int .i64 (-1), .bool true])) w' := by
  refine ⟨?_, hu⟩; unfold ordI ordB; rw [if_neg h0, if_neg h0, if_pos h, if_pos h]
theorem isOrd_gt {m a b : Int} {w w' : World} (h0 : ¬ (b - a) % m = 0) (h1 : ¬ (b - a) % m < m / 2) (h : (a - b) % m < m / 2) (hu : Grown w w') : IsOrd m a b w (.returned (.tuple #[.int .i64 1, .bool true])) w' := by
  refine ⟨?_, hu⟩; unfold ordI ordB; rw [if_neg h0, if_neg h0, if_neg h1, if_neg h1, if_pos h, if_pos h]
theorem isOrd_no {m a b : Int} {w w' : World} (h0 : ¬ (b - a) % m = 0) (h1 : ¬ (b - a) % m < m / 2) (h : ¬ (a - b) % m < m / 2) (hu : Grown w w') : IsOrd m a b w (.returned (.tuple #[.int .i64 0, .bool false])) w' := by
  refine ⟨?_, hu⟩; unfold ordI ordB; rw [if_neg h0, if_neg h0, if_neg h1, if_neg h1, if_neg h, if_neg h]
theorem most32 : bits BinOp.xor IntKind.u32 (if IntKind.u32.signed = true then -1 else IntKind.u32.max) 0 / 2 = 2147483647 := by kernel_rfl
theorem most32' : (IntKind.u32.max - 0) / 2 = 2147483647 := by kernel_rfl
section
variable {k : IntKind} {m M a b : Int} {w w' : World}
theorem ord_eq (hk : ∀ n, k.wrap n = n % m) (h : (k.wrap (b - a) == 0) = true) (hu : Grown w w') : IsOrd m a b w (.returned (.tuple #[.int .i64 0, .bool true])) w' := by
  rw [hk, beq_iff_eq] at h
  exact isOrd_eq h hu
theorem ord_lt (hk : ∀ n, k.wrap n = n % m) (hM : M + 1 = m / 2) (h0 : (k.wrap (b - a) == 0) = false) (h1 : k.wrap (b - a) ≤ M) (hu : Grown w w') : IsOrd m a b w (.returned (.tuple #[.int .i64 (-1), .bool true])) w' := by
  rw [hk, beq_eq_false_iff_ne] at h0
  rw [hk] at h1
  exact isOrd_lt h0 (by omega) hu
theorem ord_gt (hk : ∀ n, k.wrap n = n % m) (hM : M + 1 = m / 2) (h0 : (k.wrap (b - a) == 0) = false) (h1 : M < k.wrap (b - a)) (h2 : k.wrap (a - b) ≤ M) (hu : Grown w w') : IsOrd m a b w (.returned (.tuple #[.int .i64 1, .bool true])) w' := by
  rw [hk, beq_eq_false_iff_ne] at h0
  rw [hk] at h1 h2
  exact isOrd_gt h0 (by omega) (by omega) hu
theorem ord_no (hk : ∀ n, k.wrap n = n % m) (hM : M + 1 = m / 2) (h0 : (k.wrap (b - a) == 0) = false) (h1 : M < k.wrap (b - a)) (h2 : M < k.wrap (a - b)) (hu : Grown w w') : IsOrd m a b w (.returned (.tuple #[.int .i64 0, .bool false])) w' := by
  rw [hk, beq_eq_false_iff_ne] at h0
  rw [hk] at h1 h2
  exact isOrd_no h0 (by omega) (by omega) hu
end
set_option maxHeartbeats 400000 in
theorem porder32 (a b : Int) (w : World) : Calls Try.prog 28 #[.int .u32 a, .int .u32 b] w (IsOrd 4294967296 a b w) := by
  have hmf : ∀ (fn : Fn) (first cap : Array Value) (w : World), (Instr.makeFunc fn first cap).run Try.prog w = .ok (.func fn first cap) w := fun _ _ _ _ => rfl
  have hm := most32
  have hm2 := most32'
  go_enter Try.func28, Try.ntmps28
  go_wp2
  all_goals go_ret2
  · exact ord_eq (m := 4294967296) IntKind.wrap_u32' (by assumption) (by repeat (first | exact Grown.refl _ | refine Grown.trans ?_ (Grown.alloc _ _) | refine Grown.trans ?_ (Grown.drew _)))
  · exact ord_lt (m := 4294967296) (M := 2147483647) IntKind.wrap_u32' (by decide) (by assumption) (by assumption) (by repeat (first | exact Grown.refl _ | refine Grown.trans ?_ (Grown.alloc _ _) | refine Grown.trans ?_ (Grown.drew _)))
  · exact ord_gt (m := 4294967296) (M := 2147483647) IntKind.wrap_u32' (by decide) (by assumption) (by assumption) (by assumption) (by repeat (first | exact Grown.refl _ | refine Grown.trans ?_ (Grown.alloc _ _) | refine Grown.trans ?_ (Grown.drew _)))
  · exact ord_no (m := 4294967296) (M := 2147483647) IntKind.wrap_u32' (by decide) (by assumption) (by assumption) (by assumption) (by repeat (first | exact Grown.refl _ | refine Grown.trans ?_ (Grown.alloc _ _) | refine Grown.trans ?_ (Grown.drew _)))
set_option maxHeartbeats 400000 in
theorem order32 (a b : Int) (w : World) : Calls Try.prog 21 #[.int .u32 a, .int .u32 b] w (IsOrd 4294967296 a b w) := by
  go_enter Try.func21, Try.ntmps21
  go_wp2_with (go_at_call 28; refine (porder32 _ _ _).mono ?_; rintro e w' ⟨rfl, hu⟩)
  go_ret2
  exact ⟨rfl, hu⟩
set_option maxHeartbeats 400000 in
/-- The closure that Ahead hands to the sort. -/
theorem cmp32 (a b : Int) (w : World) : Calls Try.prog 20 #[.int .u32 a, .int .u32 b] w fun e w' => e = .returned (.int .i64 (ordI 4294967296 a b)) ∧ Grown w w' := by
  go_enter Try.func20, Try.ntmps20
  go_wp2_with (go_at_call 21; refine (order32 _ _ _).mono ?_; rintro e w' ⟨rfl, hu⟩)
  go_ret
  exact ⟨rfl, hu⟩
end Go.Proofs.Ytccilbgbjikmpaa

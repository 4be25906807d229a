import Derived.Test.YtpfdojlhgfhbfaaSer2
namespace Go.Proofs.Ytpfdojlhgfhbfaa
open Go Go.RowKit
set_option maxHeartbeats 400000 in
theorem wide (a b : Int) (w : World) (ha : 0 ≤ a) (ha' : a ≤ 18446744073709551615) (hb : 0 ≤ b) (hb' : b ≤ 4294967295) : Calls Try.prog 16 #[.int .u64 a, .int .u32 b] w (IsWide a b w) := by
  have hmf : ∀ (fn : Fn) (first cap : Array Value) (w : World), (Instr.makeFunc fn first cap).run Try.prog w = .ok (.func fn first cap) w := fun _ _ _ _ => rfl
  go_enter Try.func16, Try.ntmps16
  go_wp2
  all_goals (go_ret; refine wide_mk ?_ (by unfold Up; repeat (first | exact Below.refl _ _ | (refine Below.alloc ?_ (by simp) _) | apply Below.drew)); simp only [IntKind.wrap_u64] at *; unfold wideI; repeat' split; all_goals omega)
set_option maxHeartbeats 400000 in
theorem rwide (a b : Int) (w : World) (ha : 0 ≤ a) (ha' : a ≤ 18446744073709551615) (hb : 0 ≤ b) (hb' : b ≤ 4294967295) :
    Calls Try.prog 17 #[.int .u64 a, .int .u32 b] w (IsWide a b w) := by
  have o0 := or_low (a / 4294967296) b (by omega) (by omega) hb (by omega)
  have o1 : a / 4294967296 < 4294967295 → bits .or .u64 ((a / 4294967296 + 1) * 4294967296) b = (a / 4294967296 + 1) * 4294967296 + b := fun h => or_low (a / 4294967296 + 1) b (by omega) (by omega) hb (by omega)
  have o2 : 0 < a / 4294967296 → bits .or .u64 ((a / 4294967296 - 1) * 4294967296) b = (a / 4294967296 - 1) * 4294967296 + b := fun h => or_low (a / 4294967296 - 1) b (by omega) (by omega) hb (by omega)
  by_cases h1 : a / 4294967296 < 4294967295
  · replace o1 := o1 h1
    by_cases h2 : 0 < a / 4294967296
    · replace o2 := o2 h2
      go_enter Try.func17, Try.ntmps17
      go_wp2_with (go_at_call 21; refine (far_any _ _ _ (by omega) (by omega) (by omega) (by omega)).mono ?_; rintro e w' ⟨rfl, rfl⟩)
      all_goals (go_ret; refine wide_mk ?_ (Up.refl _); simp only [farI] at *; unfold wideI; repeat' split; all_goals omega)
    · clear o2
      have h2 : a / 4294967296 ≤ 0 := by omega
      go_enter Try.func17, Try.ntmps17
      go_wp2_with (go_at_call 21; refine (far_any _ _ _ (by omega) (by omega) (by omega) (by omega)).mono ?_; rintro e w' ⟨rfl, rfl⟩)
      all_goals (go_ret; refine wide_mk ?_ (Up.refl _); simp only [farI] at *; unfold wideI; repeat' split; all_goals omega)
  · clear o1
    have h1' : (4294967295 : Int) ≤ a / 4294967296 := by omega
    have h2 : 0 < a / 4294967296 := by omega
    replace o2 := o2 h2
    go_enter Try.func17, Try.ntmps17
    go_wp2_with (go_at_call 21; refine (far_any _ _ _ (by omega) (by omega) (by omega) (by omega)).mono ?_; rintro e w' ⟨rfl, rfl⟩)
    all_goals (go_ret; refine wide_mk ?_ (Up.refl _); simp only [farI] at *; unfold wideI; repeat' split; all_goals omega)
end Go.Proofs.Ytpfdojlhgfhbfaa

import Derived.Test.YtpfdojlhgfhbfaaSLaws2
namespace Go.Proofs.Ytpfdojlhgfhbfaa
open Go Go.RowKit
theorem wide_near (near x : Int) (hx : 0 ≤ x) (hx' : x ≤ 18446744073709551615) (h1 : x - near < 2147483648) (h2 : near - x < 2147483648) : wideI near (x % 4294967296) = x := by
  unfold wideI
  repeat' split
  all_goals omega
set_option maxHeartbeats 400000 in
theorem law_near (a d : Int) (up : Bool) (w : World) (ha : 0 ≤ a) (ha' : a ≤ 18446744073709551615) (hd : 0 ≤ d) (hd' : d ≤ 4294967295) : Calls Try.prog 7 #[.int .u64 a, .int .u32 d, .bool up] w (True2 w) := by
  cases up with
  | true =>
    by_cases h : a > 18446744073709551615 - d % 2147483648
    · go_enter Try.func7, Try.ntmps7
      go_wp2_with (go_at_call 13; refine (ans_ok _).mono ?_; rintro e w5 ⟨rfl, hu5⟩)
      go_ret
      exact ⟨rfl, hu5⟩
    · have h' : a ≤ 18446744073709551615 - d % 2147483648 := by omega
      clear h
      have HW := Lib.hid (wide_near a (a + d % 2147483648) (by omega) (by omega) (by omega) (by omega))
      go_enter Try.func7, Try.ntmps7
      go_wp2_with fail
      refine (ans_ok _).mono ?_
      rintro e w5 ⟨rfl, hu5⟩
      go_wp2_with fail
      refine (wide a ((a + d % 2147483648) % 4294967296) _ ha ha' (by omega) (by omega)).mono ?_
      rintro e w1 ⟨rfl, hu1⟩
      rw [HW.out]
      go_wp2_with fail
      go_ret
      exact ⟨rfl, hu5.trans hu1⟩
  | false =>
    by_cases h : a < d % 2147483648
    · go_enter Try.func7, Try.ntmps7
      go_wp2_with (go_at_call 13; refine (ans_ok _).mono ?_; rintro e w5 ⟨rfl, hu5⟩)
      go_ret
      exact ⟨rfl, hu5⟩
    · have h' : d % 2147483648 ≤ a := by omega
      clear h
      have HW := Lib.hid (wide_near a (a - d % 2147483648) (by omega) (by omega) (by omega) (by omega))
      go_enter Try.func7, Try.ntmps7
      go_wp2_with fail
      refine (ans_ok _).mono ?_
      rintro e w5 ⟨rfl, hu5⟩
      go_wp2_with fail
      refine (wide a ((a - d % 2147483648) % 4294967296) _ ha ha' (by omega) (by omega)).mono ?_
      rintro e w1 ⟨rfl, hu1⟩
      rw [HW.out]
      go_wp2_with fail
      go_ret
      exact ⟨rfl, hu5.trans hu1⟩
end Go.Proofs.Ytpfdojlhgfhbfaa

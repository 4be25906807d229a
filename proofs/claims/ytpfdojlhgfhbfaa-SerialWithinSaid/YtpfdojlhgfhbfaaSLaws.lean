import Derived.Test.YtpfdojlhgfhbfaaSer3
namespace Go.Proofs.Ytpfdojlhgfhbfaa
open Go Go.RowKit
def True2 (w : World) (e : Ending) (w' : World) : Prop := e = .returned (.bool true) ∧ Up w w'
set_option maxHeartbeats 400000 in
theorem law_orders (a b c d : Int) (w : World) (ha : 0 ≤ a) (ha' : a < 65536) (hb : 0 ≤ b) (hb' : b < 65536) (hc : 0 ≤ c) (hc' : c < 4294967296) (hd : 0 ≤ d) (hd' : d < 4294967296) :
    Calls Try.prog 3 #[.int .u16 a, .int .u16 b, .int .u32 c, .int .u32 d] w (True2 w) := by
  go_enter Try.func3, Try.ntmps3
  go_wp2_with (first
   | (go_at_call 9; refine (order16 _ _ _).mono ?_; rintro e w1 ⟨rfl, hu1⟩)
   | (go_at_call 10; refine (rorder16 _ _ _ ha ha' hb hb').mono ?_; rintro e w2 ⟨rfl, hu2⟩)
   | (go_at_call 11; refine (order32 _ _ _).mono ?_; rintro e w3 ⟨rfl, hu3⟩)
   | (go_at_call 12; refine (rorder32 _ _ _ hc hc' hd hd').mono ?_; rintro e w4 ⟨rfl, hu4⟩)
   | (go_at_call 13; refine (ans_ok _).mono ?_; rintro e w5 ⟨rfl, hu5⟩))
  go_ret
  exact ⟨rfl, ((((hu1.trans hu2).trans hu3).trans hu4).trans hu5)⟩
set_option maxHeartbeats 400000 in
theorem law_within (a b c : Int) (w : World) : Calls Try.prog 4 #[.int .u32 a, .int .u32 b, .int .u32 c] w (True2 w) := by
  go_enter Try.func4, Try.ntmps4
  go_wp2_with (first
   | (go_at_call 14; refine (within _ _ _ _).mono ?_; rintro e w1 ⟨rfl, hu1⟩)
   | (go_at_call 15; refine (rwithin _ _ _ _).mono ?_; rintro e w2 ⟨rfl, hu2⟩)
   | (go_at_call 13; refine (ans_ok _).mono ?_; rintro e w5 ⟨rfl, hu5⟩))
  go_ret
  exact ⟨rfl, (hu5.trans hu1).trans hu2⟩
set_option maxHeartbeats 400000 in
theorem law_wide (a b : Int) (w : World) (ha : 0 ≤ a) (ha' : a ≤ 18446744073709551615) (hb : 0 ≤ b) (hb' : b ≤ 4294967295) : Calls Try.prog 5 #[.int .u64 a, .int .u32 b] w (True2 w) := by
  go_enter Try.func5, Try.ntmps5
  go_wp2_with (first
   | (go_at_call 16; refine (wide _ _ _ ha ha' hb hb').mono ?_; rintro e w1 ⟨rfl, hu1⟩)
   | (go_at_call 17; refine (rwide _ _ _ ha ha' hb hb').mono ?_; rintro e w2 ⟨rfl, hu2⟩)
   | (go_at_call 13; refine (ans_ok _).mono ?_; rintro e w5 ⟨rfl, hu5⟩))
  go_ret
  exact ⟨rfl, (hu5.trans hu1).trans hu2⟩
end Go.Proofs.Ytpfdojlhgfhbfaa

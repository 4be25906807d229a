import Derived.Test.YtpfdojlhgfhbfaaSer1
import Derived.Laws.BitsAllLaws
namespace Go.Proofs.Ytpfdojlhgfhbfaa
open Go Go.RowKit
/-- x is on the way from low to high. -/
def inB (low high x : Int) : Bool := decide ((x - low) % 4294967296 ≤ (high - low) % 4294967296)
def IsIn (low high x : Int) (w : World) (e : Ending) (w' : World) : Prop := e = .returned (.bool (inB low high x)) ∧ Up w w'
theorem in_mk {low high x : Int} {w w' : World} (hu : Up w w') : IsIn low high x w (.returned (.bool (decide (IntKind.u32.wrap (x - low) ≤ IntKind.u32.wrap (high - low))))) w' := by
  rw [IntKind.wrap_u32', IntKind.wrap_u32']; exact ⟨rfl, hu⟩
set_option maxHeartbeats 400000 in
theorem within (a b c : Int) (w : World) : Calls Try.prog 14 #[.int .u32 a, .int .u32 b, .int .u32 c] w (IsIn a b c w) := by
  have hmf : ∀ (fn : Fn) (first cap : Array Value) (w : World), (Instr.makeFunc fn first cap).run Try.prog w = .ok (.func fn first cap) w := fun _ _ _ _ => rfl
  go_enter Try.func14, Try.ntmps14
  go_wp2
  go_ret
  exact in_mk (by unfold Up; repeat (first | exact Below.refl _ _ | (refine Below.alloc ?_ (by simp) _) | apply Below.drew))
theorem rwithin (a b c : Int) (w : World) : Calls Try.prog 15 #[.int .u32 a, .int .u32 b, .int .u32 c] w (IsIn a b c w) := by
  go_enter Try.func15, Try.ntmps15
  go_wp2
  go_ret
  exact in_mk (Up.refl _)
/-- How far two numbers are apart. -/
def farI (x y : Int) : Int := if y < x then x - y else y - x
theorem far_any (x y : Int) (w : World) (hx : 0 ≤ x) (hx' : x ≤ 18446744073709551615) (hy : 0 ≤ y) (hy' : y ≤ 18446744073709551615) : Calls Try.prog 21 #[.int .u64 x, .int .u64 y] w fun e w' => e = .returned (.int .u64 (farI x y)) ∧ w = w' := by
  have e1 : y < x → x - y = farI x y := fun h => by unfold farI; rw [if_pos h]
  have e2 : ¬ y < x → y - x = farI x y := fun h => by unfold farI; rw [if_neg h]
  by_cases h : y < x
  · have HE := Lib.hid (e1 h)
    clear e1 e2
    go_enter Try.func21, Try.ntmps21
    go_wp2
    go_ret
    exact ⟨by rw [← HE.out]; rfl, rfl⟩
  · have HE := Lib.hid (e2 h)
    have h' : x ≤ y := by omega
    clear e1 e2 h
    go_enter Try.func21, Try.ntmps21
    go_wp2
    go_ret
    exact ⟨by rw [← HE.out]; rfl, rfl⟩
theorem or_low (h b : Int) (h0 : 0 ≤ h) (h1 : h ≤ 4294967295) (b0 : 0 ≤ b) (b1 : b < 4294967296) : bits .or .u64 (h * 4294967296) b = h * 4294967296 + b := by
  obtain ⟨H, rfl⟩ := Int.eq_ofNat_of_zero_le h0
  obtain ⟨B, rfl⟩ := Int.eq_ofNat_of_zero_le b0
  have e := u64_or_nat (H * 4294967296) B (by omega) (by omega)
  have e2 := Nat.two_pow_add_eq_or_of_lt (i := 32) (b := B) (by omega) H
  have e3 : ((H : Int) * 4294967296) = ((H * 4294967296 : Nat) : Int) := by omega
  rw [e3, e]
  have e4 : H * 4294967296 ||| B = H * 4294967296 + B := by rw [Nat.mul_comm]; exact e2.symm
  rw [e4]; omega
/-- The number nearest to a with these lowest bits. -/
def wideI (a b : Int) : Int :=
  if a + (b - a) % 4294967296 > 18446744073709551615 then a - (a - b) % 4294967296
  else if a - (a - b) % 4294967296 < 0 then a + (b - a) % 4294967296
  else if (b - a) % 4294967296 ≤ (a - b) % 4294967296 then a + (b - a) % 4294967296
  else a - (a - b) % 4294967296
def IsWide (a b : Int) (w : World) (e : Ending) (w' : World) : Prop := e = .returned (.int .u64 (wideI a b)) ∧ Up w w'
theorem wide_mk {a b v : Int} {w w' : World} (h : v = wideI a b) (hu : Up w w') : IsWide a b w (.returned (.int .u64 v)) w' := ⟨by rw [h], hu⟩
end Go.Proofs.Ytpfdojlhgfhbfaa

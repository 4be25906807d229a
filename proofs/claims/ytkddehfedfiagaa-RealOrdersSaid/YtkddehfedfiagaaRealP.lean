import Derived.Test.YtkddehfedfiagaaRealL
import Derived.Test.YtkddehfedfiagaaWRef
import Derived.Test.YtkddehfedfiagaaBytesC
namespace Go.Proofs.Ytkddehfedfiagaa
open Go Go.RowKit
set_option linter.unusedVariables false
/-- The bits that stand for a value: one NaN for all. -/
def nan32 (x : Nat) : Bool := decide (2139095040 < x % 2147483648)
def can32 (x : Nat) : Nat := if nan32 x then 2143289344 else x
def can64 (x : Nat) : Nat := if Rl.nanB x then 9221120237041090560 else x
def CPut32 : Prop := ∀ (x : Nat) (w : World), x < 4294967296 → Calls Try.prog 10 #[.float .f32 x] w (NewB w (be (can32 x : Nat) 4))
def CPut64 : Prop := ∀ (x : Nat) (w : World), x < 18446744073709551616 → Calls Try.prog 11 #[.float .f64 x] w (NewB w (be (can64 x : Nat) 8))
theorem and31 (x : Nat) (h : x < 4294967296) : bits .and .u32 (x : Int) 2147483647 = ((x % 2147483648 : Nat) : Int) := by
  have := u32_and_nat x 2147483647 h (by omega)
  have e : x &&& 2147483647 = x % 2 ^ 31 := Nat.and_two_pow_sub_one_eq_mod x 31
  rw [e] at this
  exact this
theorem nan_as {x : Nat} {b : Bool} (hx : x < 18446744073709551616) (hv : Rl.nanB x = b) : ∀ w : World, Calls Try.prog 13 #[.int .u64 (x : Int)] w fun e w' => e = .returned (.bool b) ∧ w = w' := fun w => by
  subst hv; exact rnan x w hx
theorem rput0 (s : Nat) (n : Int) (w : World) (hs1 : 1 ≤ s) (hs8 : s ≤ 8) : Calls Try.prog 12 #[.slice none 0 0, .int .u64 n, .int .i64 (s : Int)] w (NewB w (be n s)) := by
  have := rput none 0 0 s [] n w (inB_nil w) (by omega) hs1 hs8
  rwa [List.nil_append] at this
/-- What a new slice reads as, later. -/
def Rd (xs : List Int) (v : Value) (w : World) : Prop := ∀ w', Up w w' → IsI .u8 xs v w'
theorem rd_of {base : Nat} {w : World} {A : Option Addr} {N c : Nat} {xs : List Int} (h : OwnI .u8 5 base w A N c xs) : Hid (Rd xs (.slice A N c) w) := fun w' hu => (h.up hu).isI
theorem Rd.up {xs : List Int} {v : Value} {w w' : World} (h : Rd xs v w) (hu : Up w w') : Hid (Rd xs v w') := fun w2 hu2 => h w2 (hu.trans hu2)
theorem Rd.conv {xs : List Int} {v : Value} {w : World} (h : Rd xs v w) : (convert 28 9 v).run Try.prog w = .ok (.string (strOfNums xs)) w := conv_I Try.underlying28 Try.underlying5 Try.underlying9 (h w (Up.refl w))
set_option maxHeartbeats 1000000 in
theorem law_puts (hA : CAns) (h32 : CPut32) (h64 : CPut64) (x y : Nat) (w : World) (hx : x < 4294967296) (hy : y < 18446744073709551616) : Calls Try.prog 3 #[.int .u32 (x : Int), .int .u64 (y : Int)] w (True2 w) := by
  have f1 := fun W => run_f32from x W
  have f2 := fun W => run_f64from y W
  have a1 := and31 x hx
  have HA := Lib.hid hA
  have P1 := Lib.hid (fun W => h32 x W hx)
  have P2 := Lib.hid (fun W => h64 y W hy)
  have E1 := Lib.hid (show can32 x = if nan32 x then 2143289344 else x from rfl)
  have E2 := Lib.hid (show can64 y = if Rl.nanB y then 9221120237041090560 else y from rfl)
  clear hA h32 h64
  cases n32 : nan32 x
  · cases n64 : Rl.nanB y
    · have E1' := Lib.hid (show ((can32 x : Nat) : Int) = (x : Int) by rw [E1.out, n32]; rfl)
      have N1 := Lib.hid (nan_as hy n64)
      have E2' := Lib.hid (show ((can64 y : Nat) : Int) = (y : Int) by rw [E2.out, n64]; rfl)
      have t1 : ((x % 2147483648 : Nat) : Int) ≤ 2139095040 := by have : ¬ 2139095040 < x % 2147483648 := of_decide_eq_false n32; omega
      clear n32 n64 E1 E2
      go_enter Try.func3, Try.ntmps3
      go_wp2_with fail
      refine (P1.out _).mono ?_
      rintro e w1 ⟨A1, N1', c1, rfl, o1, u1⟩
      have R1 := rd_of o1
      clear o1
      go_wp2_with fail
      refine (P2.out _).mono ?_
      rintro e w2 ⟨A2, N2', c2, rfl, o2, u2⟩
      have R2 := rd_of o2
      replace R1 := R1.out.up u2
      clear o2
      go_wp2_with fail
      refine (rput0 4 _ _ (by omega) (by omega)).mono ?_
      rintro e w3 ⟨A3, N3', c3, rfl, o3, u3⟩
      have R3 := rd_of o3
      replace R1 := R1.out.up u3
      replace R2 := R2.out.up u3
      clear o3
      go_wp2_with fail
      refine (rput0 8 _ _ (by omega) (by omega)).mono ?_
      rintro e w4 ⟨A4, N4', c4, rfl, o4, u4⟩
      have R4 := rd_of o4
      replace R1 := R1.out.up u4
      replace R2 := R2.out.up u4
      replace R3 := R3.out.up u4
      clear o4
      go_wp2_with fail
      refine (N1.out _).mono ?_
      rintro e w6 ⟨rfl, rfl⟩
      go_wp2_with fail
      refine (HA.out _).mono ?_
      rintro e w8 ⟨rfl, u8'⟩
      have k1 := (R1.out.up u8').out.conv
      have k2 := (R2.out.up u8').out.conv
      have k3 := (R3.out.up u8').out.conv
      have k4 := (R4.out.up u8').out.conv
      rw [E1'.out] at k1
      rw [E2'.out] at k2
      go_wp2_with fail
      go_ret
      exact ⟨rfl, ((((u1.trans u2).trans u3).trans u4).trans u8')⟩
    · have E1' := Lib.hid (show ((can32 x : Nat) : Int) = (x : Int) by rw [E1.out, n32]; rfl)
      have N1 := Lib.hid (nan_as hy n64)
      have E2' := Lib.hid (show ((can64 y : Nat) : Int) = 9221120237041090560 by rw [E2.out, n64]; rfl)
      have t1 : ((x % 2147483648 : Nat) : Int) ≤ 2139095040 := by have : ¬ 2139095040 < x % 2147483648 := of_decide_eq_false n32; omega
      clear n32 n64 E1 E2
      go_enter Try.func3, Try.ntmps3
      go_wp2_with fail
      refine (P1.out _).mono ?_
      rintro e w1 ⟨A1, N1', c1, rfl, o1, u1⟩
      have R1 := rd_of o1
      clear o1
      go_wp2_with fail
      refine (P2.out _).mono ?_
      rintro e w2 ⟨A2, N2', c2, rfl, o2, u2⟩
      have R2 := rd_of o2
      replace R1 := R1.out.up u2
      clear o2
      go_wp2_with fail
      refine (rput0 4 _ _ (by omega) (by omega)).mono ?_
      rintro e w3 ⟨A3, N3', c3, rfl, o3, u3⟩
      have R3 := rd_of o3
      replace R1 := R1.out.up u3
      replace R2 := R2.out.up u3
      clear o3
      go_wp2_with fail
      refine (rput0 8 _ _ (by omega) (by omega)).mono ?_
      rintro e w4 ⟨A4, N4', c4, rfl, o4, u4⟩
      have R4 := rd_of o4
      replace R1 := R1.out.up u4
      replace R2 := R2.out.up u4
      replace R3 := R3.out.up u4
      clear o4
      go_wp2_with fail
      refine (N1.out _).mono ?_
      rintro e w6 ⟨rfl, rfl⟩
      go_wp2_with fail
      refine (rput0 8 _ _ (by omega) (by omega)).mono ?_
      rintro e w7 ⟨A7, N7', c7, rfl, o7, u7⟩
      have R7 := rd_of o7
      replace R1 := R1.out.up u7
      replace R2 := R2.out.up u7
      replace R3 := R3.out.up u7
      replace R4 := R4.out.up u7
      clear o7
      go_wp2_with fail
      refine (HA.out _).mono ?_
      rintro e w8 ⟨rfl, u8'⟩
      have k1 := (R1.out.up u8').out.conv
      have k2 := (R2.out.up u8').out.conv
      have k3 := (R3.out.up u8').out.conv
      have k4 := (R7.out.up u8').out.conv
      rw [E1'.out] at k1
      rw [E2'.out] at k2
      go_wp2_with fail
      go_ret
      exact ⟨rfl, (((((u1.trans u2).trans u3).trans u4).trans u7).trans u8')⟩
  · cases n64 : Rl.nanB y
    · have E1' := Lib.hid (show ((can32 x : Nat) : Int) = 2143289344 by rw [E1.out, n32]; rfl)
      have N1 := Lib.hid (nan_as hy n64)
      have E2' := Lib.hid (show ((can64 y : Nat) : Int) = (y : Int) by rw [E2.out, n64]; rfl)
      have t1 : (2139095040 : Int) < ((x % 2147483648 : Nat) : Int) := by have : 2139095040 < x % 2147483648 := of_decide_eq_true n32; omega
      clear n32 n64 E1 E2
      go_enter Try.func3, Try.ntmps3
      go_wp2_with fail
      refine (P1.out _).mono ?_
      rintro e w1 ⟨A1, N1', c1, rfl, o1, u1⟩
      have R1 := rd_of o1
      clear o1
      go_wp2_with fail
      refine (P2.out _).mono ?_
      rintro e w2 ⟨A2, N2', c2, rfl, o2, u2⟩
      have R2 := rd_of o2
      replace R1 := R1.out.up u2
      clear o2
      go_wp2_with fail
      refine (rput0 4 _ _ (by omega) (by omega)).mono ?_
      rintro e w3 ⟨A3, N3', c3, rfl, o3, u3⟩
      have R3 := rd_of o3
      replace R1 := R1.out.up u3
      replace R2 := R2.out.up u3
      clear o3
      go_wp2_with fail
      refine (rput0 8 _ _ (by omega) (by omega)).mono ?_
      rintro e w4 ⟨A4, N4', c4, rfl, o4, u4⟩
      have R4 := rd_of o4
      replace R1 := R1.out.up u4
      replace R2 := R2.out.up u4
      replace R3 := R3.out.up u4
      clear o4
      go_wp2_with fail
      refine (rput0 4 _ _ (by omega) (by omega)).mono ?_
      rintro e w5 ⟨A5, N5', c5, rfl, o5, u5⟩
      have R5 := rd_of o5
      replace R1 := R1.out.up u5
      replace R2 := R2.out.up u5
      replace R3 := R3.out.up u5
      replace R4 := R4.out.up u5
      clear o5
      go_wp2_with fail
      refine (N1.out _).mono ?_
      rintro e w6 ⟨rfl, rfl⟩
      go_wp2_with fail
      refine (HA.out _).mono ?_
      rintro e w8 ⟨rfl, u8'⟩
      have k1 := (R1.out.up u8').out.conv
      have k2 := (R2.out.up u8').out.conv
      have k3 := (R5.out.up u8').out.conv
      have k4 := (R4.out.up u8').out.conv
      rw [E1'.out] at k1
      rw [E2'.out] at k2
      go_wp2_with fail
      go_ret
      exact ⟨rfl, (((((u1.trans u2).trans u3).trans u4).trans u5).trans u8')⟩
    · have E1' := Lib.hid (show ((can32 x : Nat) : Int) = 2143289344 by rw [E1.out, n32]; rfl)
      have N1 := Lib.hid (nan_as hy n64)
      have E2' := Lib.hid (show ((can64 y : Nat) : Int) = 9221120237041090560 by rw [E2.out, n64]; rfl)
      have t1 : (2139095040 : Int) < ((x % 2147483648 : Nat) : Int) := by have : 2139095040 < x % 2147483648 := of_decide_eq_true n32; omega
      clear n32 n64 E1 E2
      go_enter Try.func3, Try.ntmps3
      go_wp2_with fail
      refine (P1.out _).mono ?_
      rintro e w1 ⟨A1, N1', c1, rfl, o1, u1⟩
      have R1 := rd_of o1
      clear o1
      go_wp2_with fail
      refine (P2.out _).mono ?_
      rintro e w2 ⟨A2, N2', c2, rfl, o2, u2⟩
      have R2 := rd_of o2
      replace R1 := R1.out.up u2
      clear o2
      go_wp2_with fail
      refine (rput0 4 _ _ (by omega) (by omega)).mono ?_
      rintro e w3 ⟨A3, N3', c3, rfl, o3, u3⟩
      have R3 := rd_of o3
      replace R1 := R1.out.up u3
      replace R2 := R2.out.up u3
      clear o3
      go_wp2_with fail
      refine (rput0 8 _ _ (by omega) (by omega)).mono ?_
      rintro e w4 ⟨A4, N4', c4, rfl, o4, u4⟩
      have R4 := rd_of o4
      replace R1 := R1.out.up u4
      replace R2 := R2.out.up u4
      replace R3 := R3.out.up u4
      clear o4
      go_wp2_with fail
      refine (rput0 4 _ _ (by omega) (by omega)).mono ?_
      rintro e w5 ⟨A5, N5', c5, rfl, o5, u5⟩
      have R5 := rd_of o5
      replace R1 := R1.out.up u5
      replace R2 := R2.out.up u5
      replace R3 := R3.out.up u5
      replace R4 := R4.out.up u5
      clear o5
      go_wp2_with fail
      refine (N1.out _).mono ?_
      rintro e w6 ⟨rfl, rfl⟩
      go_wp2_with fail
      refine (rput0 8 _ _ (by omega) (by omega)).mono ?_
      rintro e w7 ⟨A7, N7', c7, rfl, o7, u7⟩
      have R7 := rd_of o7
      replace R1 := R1.out.up u7
      replace R2 := R2.out.up u7
      replace R3 := R3.out.up u7
      replace R4 := R4.out.up u7
      replace R5 := R5.out.up u7
      clear o7
      go_wp2_with fail
      refine (HA.out _).mono ?_
      rintro e w8 ⟨rfl, u8'⟩
      have k1 := (R1.out.up u8').out.conv
      have k2 := (R2.out.up u8').out.conv
      have k3 := (R5.out.up u8').out.conv
      have k4 := (R7.out.up u8').out.conv
      rw [E1'.out] at k1
      rw [E2'.out] at k2
      go_wp2_with fail
      go_ret
      exact ⟨rfl, ((((((u1.trans u2).trans u3).trans u4).trans u5).trans u7).trans u8')⟩
end Go.Proofs.Ytkddehfedfiagaa

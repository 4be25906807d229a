import Derived.Test.YtkddehfedfiagaaRealR3
namespace Go.Proofs.Ytkddehfedfiagaa
open Go Go.RowKit
set_option linter.unusedVariables false
def True2 (w : World) (e : Ending) (w' : World) : Prop := e = .returned (.bool true) ∧ Up w w'
/-- What is asked of the program's calls. -/
def COrd : Prop := ∀ (x y : Nat) (w : World), x < 18446744073709551616 → y < 18446744073709551616 → Calls Try.prog 21 #[.float .f64 x, .float .f64 y] w fun e w' => e = .returned (.int .i64 (Rl.ordF x y)) ∧ Up w w'
def CMean : Prop := ∀ (x y : Nat) (w : World), x < 18446744073709551616 → y < 18446744073709551616 → Calls Try.prog 24 #[.float .f64 x, .float .f64 y] w (IsMean x y w)
def CAns : Prop := ∀ w : World, Calls Try.prog 14 #[] w (True2 w)
theorem ord_as {x y : Nat} {v : Int} (hO : COrd) (hx : x < 18446744073709551616) (hy : y < 18446744073709551616) (hv : Rl.ordF x y = v) : ∀ w : World, Calls Try.prog 21 #[.float .f64 x, .float .f64 y] w fun e w' => e = .returned (.int .i64 v) ∧ Up w w' := fun w => by
  subst hv; exact hO x y w hx hy
theorem rord_as {x y : Nat} {v : Int} (hx : x < 18446744073709551616) (hy : y < 18446744073709551616) (hv : Rl.ordF x y = v) : ∀ w : World, Calls Try.prog 22 #[.float .f64 x, .float .f64 y] w fun e w' => e = .returned (.int .i64 v) ∧ w = w' := fun w => by
  subst hv; exact rorder x y w hx hy
theorem same_as {x y : Nat} {v : Bool} (hx : x < 18446744073709551616) (hy : y < 18446744073709551616) (hv : Rl.sameF x y = v) : ∀ w : World, Calls Try.prog 23 #[.float .f64 x, .float .f64 y] w fun e w' => e = .returned (.bool v) ∧ w = w' := fun w => by
  subst hv; exact rsame x y w hx hy
theorem orders_in (x y : Nat) (v : Int) (w : World) (v1 : -1 ≤ v) (v2 : v ≤ 1) (hA : Hid CAns) (c1 : Hid (∀ w : World, Calls Try.prog 21 #[.float .f64 x, .float .f64 y] w fun e w' => e = .returned (.int .i64 v) ∧ Up w w'))
    (c2 : Hid (∀ w : World, Calls Try.prog 22 #[.float .f64 x, .float .f64 y] w fun e w' => e = .returned (.int .i64 v) ∧ w = w')) (c3 : Hid (∀ w : World, Calls Try.prog 21 #[.float .f64 y, .float .f64 x] w fun e w' => e = .returned (.int .i64 (-v)) ∧ Up w w')) :
    Calls Try.prog 5 #[.int .u64 (x : Int), .int .u64 (y : Int)] w (True2 w) := by
  have f1 := fun W => run_f64from x W
  have f2 := fun W => run_f64from y W
  have hn : - -v = v := by omega
  go_enter Try.func5, Try.ntmps5
  go_wp2_with fail
  refine (c1.out _).mono ?_
  rintro e w1 ⟨rfl, u1⟩
  go_wp2_with fail
  refine (hA.out _).mono ?_
  rintro e w2 ⟨rfl, u2⟩
  go_wp2_with fail
  refine (c2.out _).mono ?_
  rintro e w3 ⟨rfl, rfl⟩
  go_wp2_with fail
  refine (c3.out _).mono ?_
  rintro e w4 ⟨rfl, u4⟩
  go_wp2_with fail
  go_ret
  exact ⟨rfl, (u1.trans u2).trans u4⟩
theorem law_orders (hA : CAns) (hO : COrd) (x y : Nat) (w : World) (hx : x < 18446744073709551616) (hy : y < 18446744073709551616) : Calls Try.prog 5 #[.int .u64 (x : Int), .int .u64 (y : Int)] w (True2 w) :=
  orders_in x y (Rl.ordF x y) w (Rl.ordF_bd x y).1 (Rl.ordF_bd x y).2 hA (ord_as hO hx hy rfl) (rord_as hx hy rfl) (ord_as hO hy hx (Rl.ordF_neg x y))
/-- The law on sorting, for whatever the orders are. -/
theorem sorts_in (x y z : Nat) (v12 v23 v13 : Int) (b : Bool) (w : World) (hA : Hid CAns) (c0 : Hid (∀ w : World, Calls Try.prog 21 #[.float .f64 x, .float .f64 x] w fun e w' => e = .returned (.int .i64 0) ∧ Up w w'))
    (c1 : Hid (∀ w : World, Calls Try.prog 21 #[.float .f64 x, .float .f64 y] w fun e w' => e = .returned (.int .i64 v12) ∧ Up w w')) (c2 : Hid (∀ w : World, Calls Try.prog 21 #[.float .f64 y, .float .f64 z] w fun e w' => e = .returned (.int .i64 v23) ∧ Up w w'))
    (c3 : Hid (∀ w : World, Calls Try.prog 21 #[.float .f64 x, .float .f64 z] w fun e w' => e = .returned (.int .i64 v13) ∧ Up w w')) (c4 : Hid (∀ w : World, Calls Try.prog 23 #[.float .f64 x, .float .f64 y] w fun e w' => e = .returned (.bool b) ∧ w = w'))
    (ht : v12 ≤ 0 → v23 ≤ 0 → v13 ≤ 0) (hb : (v12 == 0) = b) :
    Calls Try.prog 6 #[.int .u64 (x : Int), .int .u64 (y : Int), .int .u64 (z : Int)] w (True2 w) := by
  have f1 := fun W => run_f64from x W
  have f2 := fun W => run_f64from y W
  have f3 := fun W => run_f64from z W
  by_cases h1 : v12 ≤ 0
  · by_cases h2 : v23 ≤ 0
    · have h3 := ht h1 h2
      clear ht
      go_enter Try.func6, Try.ntmps6
      go_wp2_with fail
      refine (hA.out _).mono ?_
      rintro e w2 ⟨rfl, u2⟩
      go_wp2_with fail
      refine (c0.out _).mono ?_
      rintro e w3 ⟨rfl, u3⟩
      go_wp2_with fail
      refine (c1.out _).mono ?_
      rintro e w4 ⟨rfl, u4⟩
      go_wp2_with fail
      refine (c2.out _).mono ?_
      rintro e w5 ⟨rfl, u5⟩
      go_wp2_with fail
      refine (c3.out _).mono ?_
      rintro e w6 ⟨rfl, u6⟩
      go_wp2_with fail
      refine (c1.out _).mono ?_
      rintro e w7 ⟨rfl, u7⟩
      go_wp2_with fail
      refine (c4.out _).mono ?_
      rintro e w8 ⟨rfl, rfl⟩
      go_wp2_with fail
      go_ret
      exact ⟨rfl, ((((u2.trans u3).trans u4).trans u5).trans u6).trans u7⟩
    · have h2' : 0 < v23 := by omega
      clear ht h2
      go_enter Try.func6, Try.ntmps6
      go_wp2_with fail
      refine (hA.out _).mono ?_
      rintro e w2 ⟨rfl, u2⟩
      go_wp2_with fail
      refine (c0.out _).mono ?_
      rintro e w3 ⟨rfl, u3⟩
      go_wp2_with fail
      refine (c1.out _).mono ?_
      rintro e w4 ⟨rfl, u4⟩
      go_wp2_with fail
      refine (c2.out _).mono ?_
      rintro e w5 ⟨rfl, u5⟩
      go_wp2_with fail
      refine (c1.out _).mono ?_
      rintro e w7 ⟨rfl, u7⟩
      go_wp2_with fail
      refine (c4.out _).mono ?_
      rintro e w8 ⟨rfl, rfl⟩
      go_wp2_with fail
      go_ret
      exact ⟨rfl, (((u2.trans u3).trans u4).trans u5).trans u7⟩
  · have h1' : 0 < v12 := by omega
    clear ht h1
    go_enter Try.func6, Try.ntmps6
    go_wp2_with fail
    refine (hA.out _).mono ?_
    rintro e w2 ⟨rfl, u2⟩
    go_wp2_with fail
    refine (c0.out _).mono ?_
    rintro e w3 ⟨rfl, u3⟩
    go_wp2_with fail
    refine (c1.out _).mono ?_
    rintro e w4 ⟨rfl, u4⟩
    go_wp2_with fail
    refine (c1.out _).mono ?_
    rintro e w7 ⟨rfl, u7⟩
    go_wp2_with fail
    refine (c4.out _).mono ?_
    rintro e w8 ⟨rfl, rfl⟩
    go_wp2_with fail
    go_ret
    exact ⟨rfl, ((u2.trans u3).trans u4).trans u7⟩
theorem law_sorts (hA : CAns) (hO : COrd) (x y z : Nat) (w : World) (hx : x < 18446744073709551616) (hy : y < 18446744073709551616) (hz : z < 18446744073709551616) : Calls Try.prog 6 #[.int .u64 (x : Int), .int .u64 (y : Int), .int .u64 (z : Int)] w (True2 w) :=
  sorts_in x y z _ _ _ _ w hA (ord_as hO hx hx (Rl.ordF_self x)) (ord_as hO hx hy rfl) (ord_as hO hy hz rfl) (ord_as hO hx hz rfl) (same_as hx hy rfl) (Rl.ordF_trans x y z) (Rl.ordF_same x y hx hy)
end Go.Proofs.Ytkddehfedfiagaa

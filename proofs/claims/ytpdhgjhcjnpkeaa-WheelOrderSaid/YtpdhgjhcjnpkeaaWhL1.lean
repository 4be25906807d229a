import Derived.Test.YtpdhgjhcjnpkeaaWhC
namespace Go.Proofs.Ytpdhgjhcjnpkeaa
open Go Go.RowKit
set_option linter.unusedVariables false
def True2 (w : World) (e : Ending) (w' : World) : Prop := e = .returned (.bool true) ∧ Up w w'
def CAns : Prop := ∀ w : World, Calls Try.prog 7 #[] w (True2 w)
section
variable {IsW : (Nat → Prop) → World → Addr → List Tm.T → Prop}
theorem answers_w (C : WC IsW) : CAns := fun w => by
  have HC := Lib.hid C
  clear C
  go_enter Try.func7, Try.ntmps7
  go_wp2_with fail
  refine (HC.out.new _).mono ?_
  rintro e w1 ⟨p, S, rfl, h1, hf, hu⟩
  have I1 := Lib.hid h1
  have F := Lib.hid hf
  have U := Lib.hid (hu.out No)
  clear h1 hf hu
  go_wp2_with fail
  refine (HC.out.set S p [] 3 9 _ I1.out (by unfold I64; omega) (by omega) (by omega) (.inr (by simp))).mono ?_
  rintro e w2 ⟨S2, rfl, h2, hs2, ho2⟩
  have I2 := Lib.hid h2
  have F2 := Lib.hid (F.out.sub hs2 U.out.size)
  have B2 := Lib.hid (Below.out U.out.up ho2 F.out U.out.size)
  clear h2 hs2 ho2
  go_wp2_with fail
  refine (HC.out.set S2 p _ 2 4 _ I2.out (by unfold I64; omega) (by omega) (by omega) (.inr (by decide))).mono ?_
  rintro e w3 ⟨S3, rfl, h3, hs3, ho3⟩
  have I3 := Lib.hid h3
  have F3 := Lib.hid (F2.out.sub hs3 B2.out.size)
  have B3 := Lib.hid (Below.out B2.out ho3 F2.out B2.out.size)
  clear h3 hs3 ho3
  go_wp2_with fail
  refine (HC.out.due S3 p _ 8 _ I3.out (by unfold I64; omega)).mono ?_
  rintro e w4 ⟨S4, A, n, c, rfl, hn, hrow, h4, hs4, ho4, hd4⟩
  have B4 := Lib.hid (Below.out B3.out ho4 F3.out B3.out.size)
  clear h4 hs4 ho4 hd4 hrow
  obtain rfl : n = 1 := hn.trans (by decide)
  clear hn
  go_wp2_with fail
  go_ret
  exact ⟨rfl, B4.out⟩
end
end Go.Proofs.Ytpdhgjhcjnpkeaa

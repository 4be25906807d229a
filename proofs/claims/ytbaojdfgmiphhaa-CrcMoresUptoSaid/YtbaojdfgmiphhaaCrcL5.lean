import Derived.Test.YtbaojdfgmiphhaaCrcL4
import Derived.RegionTactic
namespace Go.Proofs.Ytbaojdfgmiphhaa
open Go Go.RowKit
set_option linter.unusedVariables false
set_option maxHeartbeats 1000000 in
theorem parts_none (hS : CSum) (A B C : Option Addr) (na ca nb cb nt ct : Nat) (w : World) (ha : na ≤ 140737488355328) (hb : nb ≤ 140737488355328) (h : na < nt ∨ nb < nt) :
    Calls Try.prog 8 #[.slice A na ca, .slice B nb cb, .slice C nt ct] w (True2 w) := by
  have HS := Lib.hid hS
  clear hS
  by_cases h5 : na < nt
  · have h5i : (na : Int) < nt := by omega
    clear h
    go_enter Try.func8, Try.ntmps8
    go_wp2_with fail
    refine (crc_ans HS.out _).mono ?_
    rintro e w1 ⟨rfl, u1⟩
    go_wp2_with fail
    refine (crc_ans HS.out _).mono ?_
    rintro e w2 ⟨rfl, u2⟩
    go_wp2_with fail
    go_ret
    exact ⟨rfl, u1.trans u2⟩
  · have h5i : (nt : Int) ≤ na := by omega
    have h5j : (nb : Int) < nt := by omega
    clear h h5
    go_enter Try.func8, Try.ntmps8
    go_wp2_with fail
    refine (crc_ans HS.out _).mono ?_
    rintro e w1 ⟨rfl, u1⟩
    go_wp2_with fail
    refine (crc_ans HS.out _).mono ?_
    rintro e w2 ⟨rfl, u2⟩
    go_wp2_with fail
    go_ret
    exact ⟨rfl, u1.trans u2⟩
end Go.Proofs.Ytbaojdfgmiphhaa

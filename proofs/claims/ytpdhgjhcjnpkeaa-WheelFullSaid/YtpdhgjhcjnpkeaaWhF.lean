import Derived.Test.YtpdhgjhcjnpkeaaWhList2
import Derived.Test.YtpdhgjhcjnpkeaaWhL2
import Derived.Test.YtpdhgjhcjnpkeaaWhL3
import Derived.Test.YtpdhgjhcjnpkeaaWhL5
namespace Go.Proofs.Ytpdhgjhcjnpkeaa
open Go Go.RowKit
theorem inK_of {k : IntKind} {b : Nat} {w : World} {a : Option Addr} {len cap : Nat} {zs : List Int} (h : IntsIn k b w a len cap zs) : InK k w a len cap zs := by
  obtain ⟨⟨A, c, e, hc, hx⟩, rfl, _, hw⟩ := h
  injection e with e1 e2 e3
  subst e1; subst e3
  refine ⟨hx, by rw [ints_length] at hc; exact hc, rfl, fun x hx => ?_⟩
  have := hw x hx
  simp [Lit.wf] at this
  omega
theorem reachK_of {k : IntKind} {b : Nat} {w : World} {a : Option Addr} {len cap : Nat} {zs : List Int} (h : IntsIn k b w a len cap zs) (hb : 1 ≤ b) : len ≤ 140737488351232 := by
  obtain ⟨_, rfl, h, _⟩ := h
  have := Nat.le_mul_of_pos_right zs.length (show 0 < b by omega)
  omega
end Go.Proofs.Ytpdhgjhcjnpkeaa

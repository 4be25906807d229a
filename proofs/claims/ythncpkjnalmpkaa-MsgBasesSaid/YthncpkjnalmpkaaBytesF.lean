import Derived.Test.YthncpkjnalmpkaaBytes
namespace Go.Proofs.Ythncpkjnalmpkaa
open Go Go.RowKit
theorem inB_of {w : World} {a : Option Addr} {len cap : Nat} {zs : List Int} (h : IntsIn .u8 1 w a len cap zs) : InB w a len cap zs := by
  obtain ⟨⟨A, c, e, hc, hx⟩, rfl, _, hw⟩ := h
  injection e with e1 e2 e3
  subst e1; subst e3
  refine ⟨hx, fun x hx => ?_, by rw [ints_length] at hc; exact hc, rfl⟩
  have := hw x hx
  simp [Lit.wf] at this
  have h1 : IntKind.u8.min = 0 := by rfl
  have h2 : IntKind.u8.max = 255 := by rfl
  omega
theorem reach_of {w : World} {a : Option Addr} {len cap : Nat} {zs : List Int} (h : IntsIn .u8 1 w a len cap zs) : len ≤ 140737488351232 := by
  obtain ⟨_, rfl, h, _⟩ := h
  omega
end Go.Proofs.Ythncpkjnalmpkaa

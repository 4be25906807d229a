import Derived.Test.YthncpkjnalmpkaaMbD
namespace Go.Proofs.Ythncpkjnalmpkaa
open Go Go.RowKit Mg Dc
theorem run_neR (r : Ru) (w : World) : (binOp .neq 49 (ruV r) (ruV r)).run Try.prog w = .ok (.bool false) w := by
  obtain ⟨a, b, c, d, e, f⟩ := r
  simp [go_sem, ruV]
theorem grd_neR (r q : Ru) (x y : Operand) (w : World) : (eqGuard .neq 49 x y (ruV r) (ruV q)).run Try.prog w = .ok () w := by kernel_rfl
end Go.Proofs.Ythncpkjnalmpkaa

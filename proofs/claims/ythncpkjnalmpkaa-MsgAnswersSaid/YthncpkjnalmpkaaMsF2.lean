import Derived.Test.YthncpkjnalmpkaaMsF
namespace Go.Proofs.Ythncpkjnalmpkaa
open Go Go.RowKit
theorem wf_i64m {n : Int} (h : (Lit.int .i64 n).wf = true) : -9223372036854775808 ≤ n ∧ n < 9223372036854775808 := by
  simp [Lit.wf] at h
  have h1 : IntKind.i64.min = -9223372036854775808 := by rfl
  have h2 : IntKind.i64.max = 9223372036854775807 := by rfl
  omega
end Go.Proofs.Ythncpkjnalmpkaa

import Derived.Test.YthncpkjnalmpkaaAvR
import Derived.Test.YthncpkjnalmpkaaCk1
import Derived.Deep.DeepCutAuto
namespace Go.Proofs.Ythncpkjnalmpkaa
open Go Go.RowKit
set_option linter.unusedVariables false
set_option linter.unusedSimpArgs false
/-! The laws' own copies. -/
theorem OwnI.base' {k : IntKind} {E : TypeId} {B B' : Nat} {w : World} {A : Option Addr} {N c : Nat} {xs : List Int} (h : OwnI k E B w A N c xs) (hb : B' ≤ B) : OwnI k E B' w A N c xs := by
  refine ⟨h.1, ?_⟩
  rcases h.2 with h2 | ⟨g, cap, cur, h1, h2, h3⟩
  · exact .inl h2
  · exact .inr ⟨g, cap, cur, h1, Nat.le_trans hb h2, h3⟩
def OwnPost (l : List Av.Avp) (w : World) (e : Ending) (w' : World) : Prop := ∃ A n c out, e = .returned (.slice A n c) ∧ Hid (GL w.heap.size w' A n c out) ∧ Hid (out.map AvB.pure = l.take 200) ∧ Hid (n ≤ 200) ∧ Hid (Up w w')
theorem avCells (w : World) (x : AvB) : Cells (w.alloc (.cells #[.int .u32 x.code, .int .u32 x.vendor, .bool x.must, .bool x.prot, .slice x.A x.n x.c] 56)) (some ⟨w.heap.size, 0, none⟩) (rowa [x]) := fun _ => ⟨w.heap.size, 0, rfl, lt_of_blk (new_at w _), fun j u hu => cell_of (new_at w _) (by rw [Nat.zero_add]; simpa [rowa, avc, avcL] using hu)⟩
end Go.Proofs.Ythncpkjnalmpkaa

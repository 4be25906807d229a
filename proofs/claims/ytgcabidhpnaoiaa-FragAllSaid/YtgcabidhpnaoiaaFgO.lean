import Derived.Test.YtgcabidhpnaoiaaFgF
import Derived.Test.YtgcabidhpnaoiaaFgK
namespace Go.Proofs.Ytgcabidhpnaoiaa
open Go Go.RowKit Go.ChangeShapes Go.WideShapes Fg
set_option linter.unusedVariables false
/-! What comes in to FragAll: an order. -/
theorem bof26 : Try.prog.bytesOf 26 = 2 := by kernel_rfl
section
variable {H : Type} {enc : TypeId × Value → H} {w : World} {held : Bool}
set_option maxRecDepth 100000 in
theorem ords_elem {n : Nat} {v : Value} {y : DataW H × List MemPlace} (h : DataW.trod enc Try.prog w 0 (fun _ => true) held n 58 [v] = some y) (hw : ∀ m ∈ y.1.weights Try.prog 58, m ≤ reachBytes) :
    ∃ (xs : List Int) (A : Option Addr) (l c : Nat), v = .slice A l c ∧ InO w A l c xs := by
  rcases open_ints Try.underlying58 Try.underlying26 (by kernel_rfl) h with ⟨hcs, _⟩ | ⟨x, l, c, zs, hcs, _, hl, hm, hz, hx, hcell, hwz⟩
  · simp at hcs
    exact ⟨[], none, 0, 0, by simpa using hcs, ⟨Cells.nil _ _, (fun d hd => by cases hd), rfl⟩⟩
  · simp at hcs
    simp only [if_true] at hz
    have hr := hw ((l + (zs.length - l)) * 2) (by
      rw [hx]
      simp only [DataW.weights, Try.underlying58, bof26, List.mem_cons]
      left
      simp only [lits, List.length_map, List.length_take, List.length_drop]
      congr 2; omega)
    have hi := intsIn_mk (by_ := 2) (k := .u16) (w := w) (x := x) hl hz hcell hwz (by simp only [reachBytes] at hr; omega)
    obtain ⟨⟨A, c', e, hc, hx'⟩, h2, h3, h4⟩ := hi
    injection e with e1 e2 e3
    subst e1; subst e3
    exact ⟨zs.take l, some x, l, c, hcs, ⟨hx', fun d hd => wf_u16n (h4 d hd), h2.symm⟩⟩
end
end Go.Proofs.Ytgcabidhpnaoiaa

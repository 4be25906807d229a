import Derived.Test.YthncpkjnalmpkaaAvF
import Derived.Test.YthncpkjnalmpkaaMgR
namespace Go.Proofs.Ythncpkjnalmpkaa
open Go Go.RowKit Go.ChangeShapes Go.WideShapes Mg
set_option linter.unusedVariables false
/-! What comes in to the laws of msg. -/
theorem cofA : Try.prog.cellsOf 23 = 1 := by kernel_rfl
theorem cofM : Try.prog.cellsOf 25 = 9 := by kernel_rfl
section
variable {H : Type} {enc : TypeId × Value → H} {w : World} {held : Bool}
set_option maxRecDepth 100000 in
theorem msg_elem {n : Nat} {cs : List Value} {y : DataW H × List MemPlace} (h : DataW.trod enc Try.prog w 0 (fun _ => true) held n 25 cs = some y) (hw : ∀ m ∈ y.1.weights Try.prog 25, m ≤ reachBytes) :
    ∃ x : MsB, cs = msL x ∧ MsIn w x := by
  obtain ⟨xs, k, hk, hxy, hcl, hxl, hf⟩ := DataW.trod_struct Try.underlying25 h
  rw [cofM] at hcl
  match xs, hxl, cs, hcl with
  | [y0, y1, y2, y3, y4, y5, y6, y7, y8], _, [v0, v1, v2, v3, v4, v5, v6, v7, v8], _ =>
    have g0 := hf 0 _ rfl
    have g1 := hf 1 _ rfl
    have g2 := hf 2 _ rfl
    have g3 := hf 3 _ rfl
    have g4 := hf 4 _ rfl
    have g5 := hf 5 _ rfl
    have g6 := hf 6 _ rfl
    have g7 := hf 7 _ rfl
    have g8 := hf 8 _ rfl
    simp [cof4, cof36, cofA] at g0 g1 g2 g3 g4 g5 g6 g7 g8
    obtain ⟨a0, e0, _⟩ := DataW.trod_bool Try.underlying4 g0
    obtain ⟨a1, e1, _⟩ := DataW.trod_bool Try.underlying4 g1
    obtain ⟨a2, e2, _⟩ := DataW.trod_bool Try.underlying4 g2
    obtain ⟨a3, e3, _⟩ := DataW.trod_bool Try.underlying4 g3
    obtain ⟨a4, e4, _, w4⟩ := DataW.trod_int Try.underlying22 g4
    obtain ⟨a5, e5, _, w5⟩ := DataW.trod_int Try.underlying22 g5
    obtain ⟨a6, e6, _, w6⟩ := DataW.trod_int Try.underlying22 g6
    obtain ⟨a7, e7, _, w7⟩ := DataW.trod_int Try.underlying22 g7
    obtain ⟨l, A, m, c, rfl, hB, hr⟩ := avs_elem g8 (fun m hm => hw m (by
      rw [hxy]
      simp only [DataW.weights, Try.underlying25]
      exact DataW.weights_mem_each (j := 8) rfl rfl m hm))
    simp only [List.cons.injEq, and_true] at e0 e1 e2 e3 e4 e5 e6 e7
    subst e0; subst e1; subst e2; subst e3; subst e4; subst e5; subst e6; subst e7
    exact ⟨⟨a0, a1, a2, a3, a4, a5, a6, a7, A, m, c, l⟩, rfl, hB, ⟨wf_u32n w4, wf_u32n w5, wf_u32n w6, wf_u32n w7, hB.ok⟩, hr⟩
end
end Go.Proofs.Ythncpkjnalmpkaa

import Derived.Test.YtghldkjbmfbdfaaDoorAvF
import Derived.Test.YtghldkjbmfbdfaaDoorDcR
namespace Go.Proofs.YtghldkjbmfbdfaaDoor
open Go Go.RowKit Go.ChangeShapes Go.WideShapes Dc
set_option linter.unusedVariables false
/-! Rules that come in. -/
theorem cof3 : Tryd.prog.cellsOf 3 = 1 := by kernel_rfl
theorem cof40 : Tryd.prog.cellsOf 40 = 6 := by kernel_rfl
theorem bof40 : Tryd.prog.bytesOf 40 = 40 := by kernel_rfl
section
variable {H : Type} {enc : TypeId × Value → H} {w : World} {held : Bool}
set_option maxRecDepth 100000 in
theorem rule_elem {n : Nat} {cs : List Value} {y : DataW H × List MemPlace} (h : DataW.trod enc Tryd.prog w 0 (fun _ => true) held n 40 cs = some y) : ∃ x : Ru, cs = ruL x ∧ RuOK x := by
  obtain ⟨xs, k, hk, hxy, hcl, hxl, hf⟩ := DataW.trod_struct Tryd.underlying40 h
  rw [cof40] at hcl
  match xs, hxl, cs, hcl with
  | [y0, y1, y2, y3, y4, y5], _, [v0, v1, v2, v3, v4, v5], _ =>
    have g0 := hf 0 _ rfl
    have g1 := hf 1 _ rfl
    have g2 := hf 2 _ rfl
    have g3 := hf 3 _ rfl
    have g4 := hf 4 _ rfl
    have g5 := hf 5 _ rfl
    simp [cof4, cof3, cof36] at g0 g1 g2 g3 g4 g5
    obtain ⟨a0, e0, _, w0⟩ := DataW.trod_int Tryd.underlying36 g0
    obtain ⟨a1, e1, _, w1⟩ := DataW.trod_int Tryd.underlying36 g1
    obtain ⟨a2, e2, _, _⟩ := DataW.trod_int Tryd.underlying3 g2
    obtain ⟨a3, e3, _⟩ := DataW.trod_bool Tryd.underlying4 g3
    obtain ⟨a4, e4, _, _⟩ := DataW.trod_int Tryd.underlying3 g4
    obtain ⟨a5, e5, _, _⟩ := DataW.trod_int Tryd.underlying3 g5
    simp only [List.cons.injEq, and_true] at e0 e1 e2 e3 e4 e5
    subst e0; subst e1; subst e2; subst e3; subst e4; subst e5
    exact ⟨⟨a0, a1, a2, a3, a4, a5⟩, rfl, wf_u32n w0, wf_u32n w1⟩
set_option maxRecDepth 100000 in
theorem rules_elem {n : Nat} {v : Value} {y : DataW H × List MemPlace} (h : DataW.trod enc Tryd.prog w 0 (fun _ => true) held n 28 [v] = some y) (hw : ∀ m ∈ y.1.weights Tryd.prog 28, m ≤ reachBytes) :
    ∃ (xs : List Ru) (A : Option Addr) (l c : Nat), v = .slice A l c ∧ InR w A l c xs ∧ l ≤ 140737488351232 := by
  rcases Go.Deep.open_slice Tryd.underlying28 h with ⟨hcs, _⟩ | ⟨x, l, c, m, k, D, Pl, hcs, _, hl, hm, hmm, hx, hel⟩
  · simp at hcs
    exact ⟨[], none, 0, 0, by simpa using hcs, inR_nil w, by simp⟩
  · simp at hcs
    simp only [if_true] at hmm
    subst hmm
    have each : ∀ i, i < l → ∃ q : Ru, (∀ j v, (ruL q)[j]? = some v → w.cell? ((x.add (i * 6)).add j) = some v) ∧ RuOK q := by
      intro i hi
      obtain ⟨cs', h1, h2⟩ := hel i (by omega)
      rw [cof40] at h1
      obtain ⟨_, hlen, hcell⟩ := World.cells?_some h1
      obtain ⟨g, rfl, hok⟩ := rule_elem h2
      refine ⟨g, fun j v hv => ?_, hok⟩
      have := hcell j (by have := (List.getElem?_eq_some_iff.1 hv).1; simpa [ruL] using this)
      rw [this]; exact hv
    haveI : Inhabited Ru := ⟨⟨0, 0, 0, false, 0, 0⟩⟩
    obtain ⟨q, hq⟩ := Go.Deep.choose_lt each
    have hr : l * 40 ≤ reachBytes := by
      have := hw ((l + (m - l)) * 40) (by
        rw [hx]
        simp only [DataW.weights, Tryd.underlying28, bof40, List.mem_cons]
        left
        simp)
      omega
    refine ⟨(List.range l).map q, some x, l, m, hcs, ⟨cells_of_each (by omega) ruL q (fun _ => rfl) (fun i hi => (hq i hi).1), fun g hg => ?_, hl, by simp⟩, by simp only [reachBytes] at hr; omega⟩
    obtain ⟨i, hi, rfl⟩ := List.mem_map.1 hg
    exact (hq i (List.mem_range.1 hi)).2
end
end Go.Proofs.YtghldkjbmfbdfaaDoor
